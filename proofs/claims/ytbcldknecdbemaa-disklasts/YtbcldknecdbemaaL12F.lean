/-
  The walk of the law DiskLasts.
-/
import Derived.Test.YtbcldknecdbemaaL12E
namespace Go.Proofs.Ytbcldknecdbemaa
open Go.RowKit
set_option linter.unusedVariables false
set_option maxRecDepth 20000

theorem pow_do1 (D : Dk) (c : Chg) (h : D.power = -1) : (D.do_ c).power = -1 := by
  show (if 0 < D.power then D.power - 1 else D.power) = -1
  split <;> omega
theorem pow_does {D : Dk} (o : Deed) (h : D.power = -1) (hk : around o.what 10 ≠ 7) : (doesD D o).power = -1 := by
  unfold doesD
  simp only
  split
  · unfold renameD
    (repeat' split) <;> first | exact h | exact pow_do1 _ _ h
  split
  · unfold removeD
    (repeat' split) <;> first | exact h | exact pow_do1 _ _ h
  split
  · unfold syncD
    split
    · exact h
    · show (if 0 < D.power then D.power - 1 else D.power) = -1
      split <;> omega
  split
  · split
    · rfl
    · exact h
  split
  · exact h
  · unfold writeD
    (repeat' split) <;> first | exact h | exact pow_do1 _ _ h
theorem sync_here {D : Dk} (h : D.power = -1) : syncD D = (⟨D.room, D.seen, D.seen, [], -1⟩, 0) := by
  unfold syncD
  rw [if_neg (by omega)]
  unfold Dk.spent
  rw [h]
  rfl

set_option maxHeartbeats 4000000 in
theorem disklasts_walk (A : Option Addr) (n c : Nat) (rs : List (List Value)) (sy : Bool) (Ak : Option Addr) (kl kc : Nat) (ks0 : List Bool) (w : World) (hl : rs.length = n) (hR : Recs w A 6 rs) (hnc : n ≤ c) (hc : c ≤ maxLen) (hO : ∀ r ∈ rs, DeedO w r)
    (hkl0 : ks0.length = kl) (hkr : Lies w w.heap.size Ak (ks0.map .bool)) (hkc : kl ≤ kc) (hkm : kc ≤ maxLen) :
    Calls Try.prog 4 #[.slice A n c, .bool sy, .slice Ak kl kc] w fun e w' => e = .returned (.bool true) ∧ Below w.heap.size w w' := by
  have N0 := new_d 200 w (by omega)
  have NR := fun u => new_r 200 u (fun _ => False)
  have Z0 := wee_new 200 (by omega)
  have ZP : (newD 200).power = -1 := rfl
  generalize newD 200 = D0 at *
  have hc' := hc
  unfold maxLen at hc' hkm
  have hkl : (ks0.take 30).length = min kl 30 := by rw [List.length_take, hkl0]; omega
  have hkt : (min (kl : Int) 30).toNat = min kl 30 := by omega
  have hmk : min kl 30 ≤ 30 ∧ min kl 30 ≤ kl := ⟨by omega, by omega⟩
  have hlk : Lies w w.heap.size Ak ((ks0.take 30).map .bool) := fun j u hu => hkr j u (by
    rw [List.getElem?_map, List.getElem?_take] at hu
    split at hu
    · rw [List.getElem?_map]; exact hu
    · cases hu)
  generalize ks0.take 30 = ks at *
  generalize min kl 30 = kn at *
  clear hkr hkl0
  go_enter Try.func4, Try.ntmps4
  go_wp2_with fail
  refine N0.mono ?_
  rintro e w1 ⟨a, rfl, d1, g1⟩
  have hmm := g1.size
  generalize hme : w.heap.size = m at *
  have HM := Lib.hid hme
  clear hme
  go_wp2_with fail
  refine (NR _).mono ?_
  rintro e w2 ⟨rfl, r2, g2⟩
  have hbox := Has.new w2 31 zeroD
  have ga := grows_alloc w2 (.cells zeroD.toArray 31)
  have hone : ∀ u ∈ [rv D0.room, .slice none 0 0, .slice none 0 0, .slice none 0 0, rv D0.power], u.oneCell' = true := by
    intro u hu; simp at hu; rcases hu with rfl | rfl | rfl <;> rfl
  have HKT := Lib.hid hkt
  have HKL := Lib.hid hkl
  clear N0 NR hkt hkl
  go_wp2_with (refine wpList_storeT rfl 31 (.tmp 9) (.tmp 24) rfl w2.heap.size _ [rv D0.room, .slice none 0 0, .slice none 0 0, .slice none 0 0, rv D0.power] 5 rfl rfl hbox rfl rfl d_size hone ?_; intro w3 b3 t3)
  have hs2 := g2.size
  have T3 : Turns (fun q => m ≤ q) w w3 := ((Turns.of_grows (Grows.trans g1 g2)).trans (Turns.of_grows ga)).trans (t3.mono fun q _ e => by omega)
  have S3 : PS w3 a m w2.heap.size (.slice none 0 0) (.slice none 0 0) (.slice none 0 0) D0 (fun k => k = w2.heap.size) :=
    ⟨(((d1.later g2).more (X' := fun k => k = w2.heap.size) (fun k e => .inr (Nat.le_of_eq e.symm))).later ga).turned t3 (fun k e h => h.2 e), ((r2.later ga).turned t3 (fun k e => e.elim)).mono (fun k e => e.elim), fun k e => by rw [e]; exact b3.lt, rfl, b3⟩
  have HBm := Lib.hid (show m ≤ w2.heap.size from by omega)
  clear hbox ga hone t3 b3 g2 r2 d1 hs2 g1 hmm
  generalize w2.heap.size = B at *
  go_loopw [10] (fun i wr => ∃ (j : Nat) (D : Dk) (sv lv wv : Value) (X : Nat → Prop), j ≤ n ∧ j ≤ 12 ∧ i = .int .i64 (j : Int) ∧ Wee2 j D ∧ D.power = -1 ∧ PS wr a m B sv lv wv D X ∧ Turns (fun q => m ≤ q) w wr) (fun i _ => n - (intOf i).toNat)
  case atStart => exact ⟨0, D0, _, _, _, _, Nat.zero_le _, Nat.zero_le _, rfl, Z0, ZP, S3, T3⟩
  case round =>
    clear S3 T3 Z0 ZP
    obtain ⟨j, D, sv, lv, wv, X, hj, hj12, rfl, P, hpw, S, T⟩ := hrel
    have G : Grows w wr := T.grows fun q hq => by have := HM.out; omega
    have HPW := Lib.hid hpw
    clear hpw
    by_cases hlt : j < n
    · by_cases hlt2 : j < 12
      · obtain ⟨r, hr⟩ : ∃ r, rs[j]? = some r := ⟨_, List.getElem?_eq_getElem (by rw [hl]; exact hlt)⟩
        obtain ⟨o, ⟨A0, c0, A1, c1, hre, hbc, hcm, hlb, hkc', hkm', hlk'⟩, i1, i2, i3, i4⟩ := hO r (List.mem_of_getElem? hr)
        obtain ⟨ad, hA, had, hcell⟩ := hR.at_ (by omega) hr
        subst hA
        have hki : (j : Int) < (n : Int) := by omega
        have hki2 : (j : Int) < 12 := by omega
        have hcO : ∀ k v, [rv o.what, rv o.p, rv o.to, rv o.n, .slice A0 o.b.length c0, .slice A1 o.keep.length c1][k]? = some v → w.cell? ((ad.add (j * 6)).add k) = some v := fun k v hk => by
          rw [add_add_addr]; exact hcell k v (by rw [hre]; exact hk)
        have had : ad.block < m := by rw [← HM.out]; exact had
        have hok := S.dsk.ok
        have hlow := S.dsk.low
        have PW := wee_does o P hok
        have b1 := P.wt
        have b2 := P.mn
        have b3 := P.pw
        have b4 := P.rm
        have b5 := hok.slen
        have DO : ∀ (X' : Nat → Prop) (u : World), Grows wr u → Dsk u a m X' D → RDk u (fun k => X k ∧ k ≠ B) sv lv wv D → (∀ k, X' k → k < u.heap.size) → (∀ k, (X k ∧ k ≠ B) → X' k) →
            Calls Try.prog 8 #[.pointer (some ⟨a, 0, none⟩), dV D sv lv wv, .agg #[rv o.what, rv o.p, rv o.to, rv o.n, .slice A0 o.b.length c0, .slice A1 o.keep.length c1]] u fun e w' => DoesOut (doesD D o) a m X' (fun k => X k ∧ k ≠ B) u e w' := fun X' u g hd hrr hx hox =>
          does_any D sv lv wv a m X' _ u o A0 A1 c0 c1 ⟨hd, hrr, hx, hox, hbc, hcm, fun k v hk => by
            obtain ⟨d, e, h1, h2⟩ := hlb k v hk
            exact ⟨d, e, by rw [← HM.out]; exact h1, hcell_later h2 (Grows.trans G g)⟩, hkc', hkm', fun k v hk => by
            obtain ⟨d, e, h1, h2⟩ := hlk' k v hk
            exact ⟨d, e, by rw [← HM.out]; exact h1, hcell_later h2 (Grows.trans G g)⟩, i1, i2, i3, i4, by omega, by unfold Dk.many at b2; omega, by unfold Dk.many at b2; omega, by omega, by omega⟩
        have AR := fun u => around_any o.what 10 u i1 (by omega)
        have PD := Lib.hid (fun h => pow_does o HPW.out h)
        have hlt10 : around o.what 10 < 10 := around_lt _ (by omega)
        generalize hdo : doesD D o = D' at *
        clear hdo hlb hlk' hbc hkc' hkm' hcm hcell hre b1 b2 b3 b4 b5
        have PW2 := Lib.hid PW
        have PP := Lib.hid P
        clear PW P hr
        have cz : wr.cell? (ad.add (j * 6)) = some (rv o.what) := by
          have := hcell_later (hcO 0 _ rfl) G
          rwa [add_zero_addr] at this
        by_cases h7 : around o.what 10 = 7
        · rw [h7] at AR
          clear DO
          go_wp2_with fail
          refine (AR wr).mono ?_
          rintro e w4 ⟨rfl, rfl⟩
          go_wp2_with fail
          go_roundw
          case rel => exact ⟨j + 1, D, sv, lv, wv, X, by omega, by omega, by go_num, PP.out.up, HPW.out, S, T⟩
          case measure => simp [intOf]; omega
        · have PP7 := Lib.hid (PD.out h7)
          generalize around o.what 10 = K at *
          have k7 : ((K : Int) == 7) = false := by simp; omega
          clear h7
          go_wp2_with fail
          refine (AR wr).mono ?_
          rintro e w4 ⟨rfl, rfl⟩
          clear cz AR
          go_wp2_with fail
          have gd := (Grows.refl wr).drew
          have HS := Lib.hid S
          have hBl := S.xs B S.xb
          have ldB : ∀ u, Turns (fun k => m ≤ k ∧ ¬ X k) wr.drew u → (Instr.loadAt 31 (.pointer (some ⟨B, 0, none⟩))).run Try.prog u = .ok (dV D sv lv wv) u := fun u h => ((S.box.later gd).turned h (fun e => e.2 S.xb)).load Try.underlying31 rfl d_size
          have ldO : ∀ u, Turns (fun k => m ≤ k ∧ ¬ X k) wr.drew u → (Instr.loadAt 38 (.pointer (some (ad.add (j * 6))))).run Try.prog u = .ok (.agg #[rv o.what, rv o.p, rv o.to, rv o.n, .slice A0 o.b.length c0, .slice A1 o.keep.length c1]) u := fun u h => load_any u _ 38 [rv o.what, rv o.p, rv o.to, rv o.n, .slice A0 o.b.length c0, .slice A1 o.keep.length c1] _ (fun k v hk => h.cell (hcell_later (hcO k v hk) (Grows.trans G gd)) (fun e => by have h1 := e.1; rw [add_block, add_block] at h1; omega)) Try.underlying38 rfl o_size
          have hO := Turns.refl (fun k => m ≤ k ∧ ¬ X k) wr.drew
          clear S
          refine wp_region_planc (S := fun k => m ≤ k ∧ ¬ X k) 13 (.take 0 (.take 1 (.take 2 (.take 3 (.take 4 (.take 5 (.two 6 (.take 7 (.take 8 (.take 9 (.one 10 (.one 11 (.take 12 .fin)))))) 10 (.one 6 (.take 7 (.take 8 (.take 9 (.one 11 (.take 12 .fin))))))))))))) (by kernel_rfl) (by kernel_rfl) ?_
          repeat (first | (refine planc_load hO _ _ (by simp only [List.getElem?_cons_succ, List.getElem?_cons_zero]; rfl) (by rfl) 31 (.tmp 9) (by rfl) _ (by rfl) ldB ?_; try simp only [Act.put, List.setIfInBounds_toArray, List.set_cons_zero, List.set_cons_succ]) | (refine planc_load hO _ _ (by simp only [List.getElem?_cons_succ, List.getElem?_cons_zero]; rfl) (by rfl) 38 (.tmp 47) (by rfl) _ (by rfl) ldO ?_; try simp only [Act.put, List.setIfInBounds_toArray, List.set_cons_zero, List.set_cons_succ]) | (refine planc_take hO _ ?_ (by simp only [List.getElem?_cons_succ, List.getElem?_cons_zero]; rfl) (by rfl) ?_ ?_; rotate_left; (· (intro u hu0 hu; (try go_simp); (try with_reducible rfl))); try simp only [Act.put, List.setIfInBounds_toArray, List.set_cons_zero, List.set_cons_succ]))
          refine planc_two _ _ (by simp only [List.getElem?_cons_succ, List.getElem?_cons_zero]; rfl) (by simp only [List.getElem?_cons_succ, List.getElem?_cons_zero]; rfl) (by rfl) (by rfl) (fun u hu K hK => ?_) (fun u hu K hK => ?_)
          · go_simp
            have gu := Grows.trans gd hu
            have S := HS.out
            refine (DO X u gu (S.dsk.later gu) (S.ref.later gu) (fun k hk => Nat.lt_of_lt_of_le (S.xs k hk) gu.size) (fun k hk => hk.1)).mono ?_
            rintro e v1 ⟨sv', lv', wv', X1, rfl, d1, r1, hb1, hs1, hn1, t1⟩
            refine hK.out _ _ t1 ?_
            clear hK K ldB ldO hO
            have hO1 := Turns.refl (fun k => m ≤ k ∧ ¬ X k) v1
            repeat (first | (refine planc_take hO1 _ ?_ (by simp only [List.getElem?_cons_succ, List.getElem?_cons_zero]; rfl) (by rfl) ?_ ?_; rotate_left; (· (intro u hu0 hu; (try go_simp); (try with_reducible rfl))); try simp only [Act.put, List.setIfInBounds_toArray, List.set_cons_zero, List.set_cons_succ]))
            refine planc_move _ (by simp only [List.getElem?_cons_succ, List.getElem?_cons_zero]; rfl) (by rfl) (fun u2 hu2 K hK => ?_)
            go_simp
            refine hK.out _ _ (Turns.of_grows (grows_alloc _ _)) ?_
            clear hK K hO1
            have ga := Grows.trans hu2 (grows_alloc u2 (.cells zeroD.toArray 31))
            have hbx := Has.new u2 31 zeroD
            have hnb : v1.heap.size ≤ u2.heap.size := hu2.size
            have hlt : u2.heap.size < (u2.alloc (.cells zeroD.toArray 31)).heap.size := hbx.lt
            have hgu := gu.size
            have ht1 := t1.size
            change wpPlanC _ _ _ _ _ _ _ (u2.alloc (.cells zeroD.toArray 31))
            generalize u2.alloc (.cells zeroD.toArray 31) = w3 at *
            generalize u2.heap.size = nb at *
            have hBn : B ≠ nb := by omega
            have hmn : m ≤ nb := by have := HM.out; have := G.size; omega
            have hSn : m ≤ nb ∧ ¬ X nb := ⟨hmn, fun hx => by have := S.xs nb hx; omega⟩
            obtain ⟨X2, hX2⟩ : ∃ X2 : Nat → Prop, X2 = fun k => X1 k ∨ k = nb := ⟨_, rfl⟩
            have d3 : Dsk w3 a m (fun k => X1 k ∨ k = nb) D' := (d1.more (fun k hk => hk.imp id (fun e => by rw [e]; exact hnb))).later ga
            have r3 : RDk w3 (fun k => (X1 k ∨ k = nb) ∧ k ≠ B ∧ k ≠ nb) sv' lv' wv' D' := ((r1.cut).mono (fun k hk => ⟨.inl hk.1.1, by rcases hk.1.2 with h | h; exact h.2; omega, by have := hk.2; omega⟩)).later ga
            have bB3 := ((S.box.later gu).turned t1 (fun e => e.2 S.xb)).later ga
            have x3 : ∀ k, (X1 k ∨ k = nb) → k < w3.heap.size := fun k hk => by
              rcases hk with hk | hk
              · have := hb1 k hk; omega
              · omega
            have xB3 : X1 B ∨ B = nb := .inl (hs1 B S.xb)
            have T3 : Turns (fun q => m ≤ q) w w3 := ((T.trans (Turns.of_grows gu)).trans (t1.mono fun q _ e => e.1)).trans (Turns.of_grows ga)
            have d3 : Dsk w3 a m X2 D' := by rw [hX2]; exact d3
            have x3 : ∀ k, X2 k → k < w3.heap.size := by rw [hX2]; exact x3
            have xB3 : X2 B := by rw [hX2]; exact xB3
            have r3 : RDk w3 (fun k => X2 k ∧ k ≠ B ∧ k ≠ nb) sv' lv' wv' D' := by rw [hX2]; exact r3
            have xn : X2 nb := by rw [hX2]; exact .inr rfl
            clear hX2 d1 r1 t1 hb1 hs1 hn1 S
            have hone := dL_one r3
            unfold dL at hone
            refine planc_storeT _ (by simp only [List.getElem?_cons_succ, List.getElem?_cons_zero]; rfl) (by rfl) 31 (.tmp 11) (.tmp 50) rfl nb zeroD [rv D'.room, sv', lv', wv', rv D'.power] 5 rfl rfl hbx rfl rfl d_size hone hSn (fun u4 w5 hu4 b5 t5 => ?_)
            have hO5 := Turns.refl (fun k => m ≤ k ∧ ¬ X k) w5
            repeat (first | (refine planc_take hO5 _ ?_ (by simp only [List.getElem?_cons_succ, List.getElem?_cons_zero]; rfl) (by rfl) ?_ ?_; rotate_left; (· (intro u hu0 hu; (try go_simp); (try with_reducible rfl))); try simp only [Act.put, List.setIfInBounds_toArray, List.set_cons_zero, List.set_cons_succ]))
            refine planc_done (fun w6 hu6 => ?_)
            simp only [List.drop_succ_cons, List.drop_zero]
            have S6 : PS w6 a m B sv lv wv D' X2 → True := fun _ => trivial
            have d6 := ((d3.later hu4).turned t5 (fun k e h => h.2 (by rw [e]; exact xn))).later hu6
            have r6 := (((r3.later hu4).turned t5 (fun k hk e => hk.2.2 e)).later hu6).mono (ok' := fun k => X2 k ∧ k ≠ B) (fun k hk => ⟨hk.1, hk.2.1⟩)
            have bB6 := (((bB3.later hu4).turned t5 hBn).later hu6)
            have b6 := b5.later hu6
            have x6 : ∀ k, X2 k → k < w6.heap.size := fun k hk => Nat.lt_of_lt_of_le (x3 k hk) (Nat.le_trans hu4.size (Nat.le_trans t5.size hu6.size))
            have T6 : Turns (fun q => m ≤ q) w w6 := ((T3.trans (Turns.of_grows hu4)).trans (t5.mono fun q _ e => by rw [e]; exact hmn)).trans (Turns.of_grows hu6)
            clear S6 r3 d3 bB3 T3 t5 b5 hO5 x3 hbx hu4 hu6
            go_wp2_with fail
            refine NoPanic.normal ?_
            have q0 := b6.cell (k := 0) rfl
            have q1 := b6.cell (k := 1) rfl
            have q2 := b6.cell (k := 2) rfl
            have q3 := b6.cell (k := 3) rfl
            have q4 := b6.cell (k := 4) rfl
            go_wp2_with (refine wpList_storeT rfl 31 (.tmp 9) (.tmp 52) rfl B _ [rv D'.room, sv', lv', wv', rv D'.power] 5 rfl rfl bB6 rfl rfl d_size hone ?_; intro w7 b7 t7; have p0 := b7.cell (k := 0) rfl; have p1 := b7.cell (k := 1) rfl; have p2 := b7.cell (k := 2) rfl; have p3 := b7.cell (k := 3) rfl; have p4 := b7.cell (k := 4) rfl)
            have S7 : PS w7 a m B sv' lv' wv' D' X2 := ⟨d6.turned t7 (fun k e h => h.2 (by rw [e]; exact xB3)), r6.turned t7 (fun k hk e => hk.2 e), fun k hk => Nat.lt_of_lt_of_le (x6 k hk) t7.size, xB3, b7⟩
            have T7 : Turns (fun q => m ≤ q) w w7 := T6.trans (t7.mono fun q _ e => by rw [e]; exact (by have := HM.out; have := HBm.out; omega))
            clear d6 r6 bB6 b6 t7 b7 q0 q1 q2 q3 q4 x6 T6 p0 p1 p2 p3 p4
            go_roundw
            case rel => exact ⟨j + 1, D', sv', lv', wv', X2, by omega, by omega, by go_num, PW2.out.1, PP7.out, S7, T7⟩
            case measure => simp [intOf]; omega
          · go_simp
            refine hK.out _ _ (Turns.of_grows (grows_alloc _ _)) ?_
            have gu := Grows.trans gd hu
            have S := HS.out
            have hbx0 := Has.new u 31 zeroD
            have ga := grows_alloc u (.cells zeroD.toArray 31)
            have hlt : u.heap.size < (u.alloc (.cells zeroD.toArray 31)).heap.size := hbx0.lt
            have hgu := gu.size
            have d0 := (S.dsk.later gu).more (X' := fun k => X k ∨ k = u.heap.size) (fun k hk => hk.imp id (fun e => Nat.le_of_eq e.symm))
            clear hK K ldB ldO hO
            change wpPlanC _ _ _ _ _ _ _ (u.alloc (.cells zeroD.toArray 31))
            generalize u.alloc (.cells zeroD.toArray 31) = w2 at *
            generalize u.heap.size = nb at *
            refine planc_move _ (by simp only [List.getElem?_cons_succ, List.getElem?_cons_zero]; rfl) (by rfl) (fun u2 hu2 K hK => ?_)
            go_simp
            have gu2 := Grows.trans ga hu2
            have hu2s := hu2.size
            refine (DO (fun k => X k ∨ k = nb) u2 (Grows.trans gu gu2) (d0.later gu2) (S.ref.later (Grows.trans gu gu2)) (fun k hk => by rcases hk with hk | hk; have := S.xs k hk; omega; omega) (fun k hk => .inl hk.1)).mono ?_
            rintro e w3 ⟨sv', lv', wv', X2, rfl, d3, r1, x3, hs1, hn1, t1⟩
            refine hK.out _ _ (t1.mono fun k _ e => ⟨e.1, fun h => e.2 (.inl h)⟩) ?_
            clear hK K
            have hO1 := Turns.refl (fun k => m ≤ k ∧ ¬ X k) w3
            repeat (first | (refine planc_take hO1 _ ?_ (by simp only [List.getElem?_cons_succ, List.getElem?_cons_zero]; rfl) (by rfl) ?_ ?_; rotate_left; (· (intro u hu0 hu; (try go_simp); (try with_reducible rfl))); try simp only [Act.put, List.setIfInBounds_toArray, List.set_cons_zero, List.set_cons_succ]))
            have hBn : B ≠ nb := by omega
            have hmn : m ≤ nb := by have := HM.out; have := G.size; omega
            have hSn : m ≤ nb ∧ ¬ X nb := ⟨hmn, fun hx => by have := S.xs nb hx; omega⟩
            have xn : X2 nb := hs1 nb (.inr rfl)
            have xB3 : X2 B := hs1 B (.inl S.xb)
            have hbx := (hbx0.later hu2).turned t1 (fun e => e.2 (.inr rfl))
            have r3 : RDk w3 (fun k => X2 k ∧ k ≠ B ∧ k ≠ nb) sv' lv' wv' D' := r1.mono (fun k hk => ⟨hk.1, by rcases hk.2 with h | h; exact h.2; omega, by rcases hk.2 with h | h; have := S.xs k h.1; omega; omega⟩)
            have bB3 := (S.box.later (Grows.trans gu gu2)).turned t1 (fun e => e.2 (.inl S.xb))
            have T3 : Turns (fun q => m ≤ q) w w3 := (T.trans (Turns.of_grows (Grows.trans gu gu2))).trans (t1.mono fun q _ e => e.1)
            clear d0 r1 t1 hs1 hn1 S hbx0 hO1
            have hone := dL_one r3
            unfold dL at hone
            refine planc_storeT _ (by simp only [List.getElem?_cons_succ, List.getElem?_cons_zero]; rfl) (by rfl) 31 (.tmp 11) (.tmp 50) rfl nb zeroD [rv D'.room, sv', lv', wv', rv D'.power] 5 rfl rfl hbx rfl rfl d_size hone hSn (fun u4 w5 hu4 b5 t5 => ?_)
            have hO5 := Turns.refl (fun k => m ≤ k ∧ ¬ X k) w5
            repeat (first | (refine planc_take hO5 _ ?_ (by simp only [List.getElem?_cons_succ, List.getElem?_cons_zero]; rfl) (by rfl) ?_ ?_; rotate_left; (· (intro u hu0 hu; (try go_simp); (try with_reducible rfl))); try simp only [Act.put, List.setIfInBounds_toArray, List.set_cons_zero, List.set_cons_succ]))
            refine planc_done (fun w6 hu6 => ?_)
            simp only [List.drop_succ_cons, List.drop_zero]
            have S6 : PS w6 a m B sv lv wv D' X2 → True := fun _ => trivial
            have d6 := ((d3.later hu4).turned t5 (fun k e h => h.2 (by rw [e]; exact xn))).later hu6
            have r6 := (((r3.later hu4).turned t5 (fun k hk e => hk.2.2 e)).later hu6).mono (ok' := fun k => X2 k ∧ k ≠ B) (fun k hk => ⟨hk.1, hk.2.1⟩)
            have bB6 := (((bB3.later hu4).turned t5 hBn).later hu6)
            have b6 := b5.later hu6
            have x6 : ∀ k, X2 k → k < w6.heap.size := fun k hk => Nat.lt_of_lt_of_le (x3 k hk) (Nat.le_trans hu4.size (Nat.le_trans t5.size hu6.size))
            have T6 : Turns (fun q => m ≤ q) w w6 := ((T3.trans (Turns.of_grows hu4)).trans (t5.mono fun q _ e => by rw [e]; exact hmn)).trans (Turns.of_grows hu6)
            clear S6 r3 d3 bB3 T3 t5 b5 hO5 x3 hbx hu4 hu6
            go_wp2_with fail
            refine NoPanic.normal ?_
            have q0 := b6.cell (k := 0) rfl
            have q1 := b6.cell (k := 1) rfl
            have q2 := b6.cell (k := 2) rfl
            have q3 := b6.cell (k := 3) rfl
            have q4 := b6.cell (k := 4) rfl
            go_wp2_with (refine wpList_storeT rfl 31 (.tmp 9) (.tmp 52) rfl B _ [rv D'.room, sv', lv', wv', rv D'.power] 5 rfl rfl bB6 rfl rfl d_size hone ?_; intro w7 b7 t7; have p0 := b7.cell (k := 0) rfl; have p1 := b7.cell (k := 1) rfl; have p2 := b7.cell (k := 2) rfl; have p3 := b7.cell (k := 3) rfl; have p4 := b7.cell (k := 4) rfl)
            have S7 : PS w7 a m B sv' lv' wv' D' X2 := ⟨d6.turned t7 (fun k e h => h.2 (by rw [e]; exact xB3)), r6.turned t7 (fun k hk e => hk.2 e), fun k hk => Nat.lt_of_lt_of_le (x6 k hk) t7.size, xB3, b7⟩
            have T7 : Turns (fun q => m ≤ q) w w7 := T6.trans (t7.mono fun q _ e => by rw [e]; exact (by have := HM.out; have := HBm.out; omega))
            clear d6 r6 bB6 b6 t7 b7 q0 q1 q2 q3 q4 x6 T6 p0 p1 p2 p3 p4
            go_roundw
            case rel => exact ⟨j + 1, D', sv', lv', wv', X2, by omega, by omega, by go_num, PW2.out.1, PP7.out, S7, T7⟩
            case measure => simp [intOf]; omega
      · obtain rfl : j = 12 := by omega
        have hki : (12 : Int) < (n : Int) := by omega
        have hok := S.dsk.ok
        have hlow := S.dsk.low
        have b1 := P.wt
        have b2 := P.mn
        have b4 := P.rm
        have b5 := hok.slen
        have hkt := HKT.out
        unfold Dk.many at b2
        have hBs := S.xs B S.xb
        have hlk7 : ∀ (u : World) (X' : Nat → Prop), Turns (fun q => m ≤ q) w u → LiesIn (fun i => i < u.heap.size ∧ ¬ (m ≤ i ∧ ¬ X' i)) u Ak (ks.map .bool) := fun u X' t j u' hu => by
          obtain ⟨ad, e1, e2, e3⟩ := hlk j u' hu
          have := HM.out
          exact ⟨ad, e1, ⟨by have := t.size; omega, fun h => by have := h.1; omega⟩, t.cell e3 (fun h => by rw [add_block] at h; omega)⟩
        cases sy with
        | true =>
          have SY := sync_d a m X D wr S.dsk S.xs (by omega) (by omega)
          rw [sync_here HPW.out] at SY
          simp only at SY
          clear hkt
          have hkt := HKT.out
          go_wp2_with fail
          refine SY.mono ?_
          rintro e w4 ⟨rfl, d4, t4⟩
          have T4 := T.trans (t4.mono fun q _ e => e.1)
          have RS := restart_d a m X _ w4 Ak kn kc ks d4 (fun k hk => Nat.lt_of_lt_of_le (S.xs k hk) t4.size) HKL.out (by omega) (hlk7 w4 X T4) (by have hu := hok.used; have h0 : Dk.weight ⟨D.room, D.seen, D.seen, [], -1⟩ = fUsed D.seen := rfl; omega) (by show (0 : Nat) ≤ _; omega)
          rw [show restartD ⟨D.room, D.seen, D.seen, [], -1⟩ ks = ⟨D.room, D.seen, D.seen, [], -1⟩ from rfl] at RS
          go_wp2_with fail
          refine RS.mono ?_
          rintro e w5 ⟨rfl, d5, t5⟩
          have T5 := T4.trans (t5.mono fun q _ e => e.1)
          have b5x := (S.box.turned t4 (fun e => e.2 S.xb)).turned t5 (fun e => e.2 S.xb)
          have r5 := (S.ref.turned t4 (fun k hk e => e.2 hk.1)).turned t5 (fun k hk e => e.2 hk.1)
          have G5 : Grows w w5 := T5.grows fun q hq => by have := HM.out; omega
          obtain ⟨As, cs, rfl⟩ := r5.seen.form
          have gd := (Grows.refl w5).drew
          generalize hDz : (⟨D.room, D.seen, D.seen, [], -1⟩ : Dk) = Dz at *
          have hz1 : Dz.seen = D.seen := by rw [← hDz]
          have hz2 : Dz.waits = [] := by rw [← hDz]
          have U1 : Hid (∀ u, Grows w5 u → Calls Try.prog 13 #[.pointer (some ⟨a, 0, none⟩)] u fun e w' => e = .returned (.int .i64 0) ∧ Grows u w') := fun u h => (waits_d a m X Dz u (d5.later h)).mono fun e w' ⟨h1, h2⟩ => ⟨by rw [h1, hz2]; rfl, by rw [h2]; exact Grows.refl _⟩
          have U2 : Hid (∀ u, Grows w5 u → Calls Try.prog 14 #[.pointer (some ⟨a, 0, none⟩)] u fun e w' => e = .returned (.int .i64 (fUsed D.seen : Int)) ∧ Grows u w') := fun u h => (used_d a m X Dz u (d5.later h)).mono fun e w' ⟨h1, h2⟩ => ⟨by rw [h1, hz1], by rw [h2]; exact Grows.refl _⟩
          have U3 : Hid (∀ u, Grows w5 u → Calls Try.prog 15 #[dV D (.slice As D.seen.length cs) lv wv] u fun e w' => e = .returned (.int .i64 (fUsed D.seen : Int)) ∧ Grows u w') := fun u h => used_r D _ lv wv u _ (r5.seen.later h) (by omega) (by have := hok.used; omega)
          have LS : Hid (∀ u, Grows w5 u → Calls Try.prog 16 #[.pointer (some ⟨a, 0, none⟩), tv []] u fun e w' => ∃ A' c', e = .returned (.slice A' D.seen.length c') ∧ Grows u w') := fun u h => (list_d a m X Dz u [] (d5.later h) (by rw [hz1]; omega)).mono fun e w' ⟨v, h1, h2, h3⟩ => by
            rw [preF_nil, List.length_map, hz1] at h2
            obtain ⟨A', c', h4, _⟩ := own_form h2
            exact ⟨A', c', by rw [h1, h4], h3⟩
          have LV : Hid (∀ u, Calls Try.prog 10 #[] u fun e w' => e = .returned (.bool true) ∧ Grows u w') := fun u => lives12_any u
          have ld : ∀ u, Grows w5.drew u → (Instr.loadAt 31 (.pointer (some ⟨B, 0, none⟩))).run Try.prog u = .ok (dV D (.slice As D.seen.length cs) lv wv) u := fun u h => (b5x.later (Grows.trans gd h)).load Try.underlying31 rfl d_size
          have k1 : ∀ u, Grows w5.drew u → u.cell? ⟨B, 1, none⟩ = some (.slice As D.seen.length cs) := fun u h => hcell_later (b5x.cell (k := 1) rfl) (Grows.trans gd h)
          have GG : Hid (∀ u, Grows w5.drew u → Grows w5 u) := fun u h => Grows.trans gd h
          have HSN := Lib.hid (rfl : D.seen.length = D.seen.length)
          clear SY RS hlk7 S b5x r5 d5 d4 t4 t5 hDz hz1 hz2 b5 hkt hok P b2
          generalize D.seen.length = sn at *
          generalize fUsed D.seen = su at *
          go_wp2_with fail
          refine wp_region_ord 23 [(0, true), (1, true), (2, true), (3, true), (4, true), (5, true), (6, true), (7, true), (8, true), (9, true), (10, true), (11, true), (14, true), (15, true), (16, true), (12, false), (13, true), (17, true), (18, true), (19, true), (20, true), (21, true), (22, true)] (by kernel_rfl) (by kernel_rfl) ?_
          have hO := Grows.refl w5.drew
          repeat (first | (refine ord_load hO _ _ (by simp only [List.getElem?_cons_succ, List.getElem?_cons_zero]; rfl) (by rfl) 31 (.tmp 9) (by rfl) _ (by rfl) ld ?_; try simp only [Act.put, List.setIfInBounds_toArray, List.set_cons_zero, List.set_cons_succ]) | (refine ord_take hO _ ?_ (by simp only [List.getElem?_cons_succ, List.getElem?_cons_zero]; rfl) (by rfl) ?_ ?_; rotate_left; (· (intro u hu0 hu; (try go_simp); (try with_reducible rfl))); try simp only [Act.put, List.setIfInBounds_toArray, List.set_cons_zero, List.set_cons_succ]) | (refine ord_skip _ (by simp only [List.getElem?_cons_succ, List.getElem?_cons_zero]; rfl) (by rfl) ?_; try simp only [Act.put, List.setIfInBounds_toArray, List.set_cons_zero, List.set_cons_succ]) | (refine ord_call hO _ ?_ (by simp only [List.getElem?_cons_succ, List.getElem?_cons_zero]; rfl) (by rfl) ?_ ?_; rotate_left; (· (intro u hu0 hu; go_simp; (try refine quiet_enter ?_); (first | with_reducible exact U1.out u (GG.out u hu0) | with_reducible exact U2.out u (GG.out u hu0) | with_reducible exact U3.out u (GG.out u hu0) | with_reducible exact LV.out u))); try simp only [Act.put, List.setIfInBounds_toArray, List.set_cons_zero, List.set_cons_succ]))
          (refine ord_move _ (by simp only [List.getElem?_cons_succ, List.getElem?_cons_zero]; rfl) (by rfl) (fun u hu K hK => ?_); go_simp)
          refine (LS.out u (GG.out u hu)).mono ?_
          rintro e w6 ⟨A6, c6, rfl, g6⟩
          refine hK.out _ _ g6 ?_
          clear hK K
          have gu := Grows.trans (GG.out u hu) g6
          clear hO ld k1 U1 U2 U3 LS GG
          have hO := Grows.refl w6
          repeat (first | (refine ord_take hO _ ?_ (by simp only [List.getElem?_cons_succ, List.getElem?_cons_zero]; rfl) (by rfl) ?_ ?_; rotate_left; (· (intro u hu0 hu; (try go_simp); (try with_reducible rfl))); try simp only [Act.put, List.setIfInBounds_toArray, List.set_cons_zero, List.set_cons_succ]) | (refine ord_skip _ (by simp only [List.getElem?_cons_succ, List.getElem?_cons_zero]; rfl) (by rfl) ?_; try simp only [Act.put, List.setIfInBounds_toArray, List.set_cons_zero, List.set_cons_succ]) | (refine ord_call hO _ ?_ (by simp only [List.getElem?_cons_succ, List.getElem?_cons_zero]; rfl) (by rfl) ?_ ?_; rotate_left; (· (intro u hu0 hu; go_simp; (try refine quiet_enter ?_); (with_reducible exact LV.out u))); try simp only [Act.put, List.setIfInBounds_toArray, List.set_cons_zero, List.set_cons_succ]))
          refine ord_done (fun w7 hu7 => ?_)
          simp only [List.drop_succ_cons, List.drop_zero]
          go_wp2_with fail
          refine NoPanic.normal ?_
          go_wp2_with fail
          go_ret
          exact ⟨rfl, Grows.trans G5 (Grows.trans gu hu7)⟩
        | false =>
          have RS := restart_d a m X D wr Ak kn kc ks S.dsk S.xs HKL.out (by omega) (hlk7 wr X T) (by omega) (by omega)
          have hds : dataSum D.waits ≤ D.weight := by unfold Dk.weight; omega
          have RR := fun (u : World) (h : RDk u (fun k => X k ∧ k ≠ B) sv lv wv D) (hl : Lies u u.heap.size Ak (ks.map .bool)) => restart_r D sv lv wv u _ Ak kn kc ks h HKL.out hl (by omega) (by omega) (by omega)
          have hrl := len_rst D.waits ks D.lasts
          have hrs : (restartD D ks).seen.length ≤ 1000000 := by show (rstF D.waits ks D.lasts).length ≤ _; omega
          have hrw := weight_restart hok ks
          go_wp2_with fail
          refine RS.mono ?_
          rintro e w4 ⟨rfl, d4, t4⟩
          have b4x := S.box.turned t4 (fun e => e.2 S.xb)
          have r4 := S.ref.turned t4 (fun k hk e => e.2 hk.1)
          have T4 := T.trans (t4.mono fun q _ e => e.1)
          have q0 := b4x.cell (k := 0) rfl
          have q1 := b4x.cell (k := 1) rfl
          have q2 := b4x.cell (k := 2) rfl
          have q3 := b4x.cell (k := 3) rfl
          have q4 := b4x.cell (k := 4) rfl
          go_wp2_with fail
          refine (RR w4 r4 (fun j u' hu => by
            obtain ⟨ad, e1, e2, e3⟩ := hlk7 w4 X T4 j u' hu
            exact ⟨ad, e1, e2.1, e3⟩)).mono ?_
          rintro e w5 ⟨v, rfl, r5, g5⟩
          have LK := like_r (restartD D ks) v v (.slice none 0 0) a m X _ w5 (d4.later g5) r5 hrs (by omega)
          have T5 := T4.trans (Turns.of_grows g5)
          have G5 : Grows w w5 := T5.grows fun q hq => by have := HM.out; omega
          clear RS RR q0 q1 q2 q3 q4 hlk7 S hrl hrs hrw
          go_wp2_with fail
          refine LK.mono ?_
          rintro e w6 ⟨rfl, g6⟩
          go_wp2_with fail
          refine (lives12_any _).mono ?_
          rintro e w9 ⟨rfl, g9⟩
          go_wp2_with fail
          go_ret
          exact ⟨rfl, Grows.trans G5 (Grows.trans g6 g9)⟩
    · obtain rfl : j = n := by omega
      have hok := S.dsk.ok
      have hlow := S.dsk.low
      have b1 := P.wt
      have b2 := P.mn
      have b4 := P.rm
      have b5 := hok.slen
      have hkt := HKT.out
      unfold Dk.many at b2
      have hBs := S.xs B S.xb
      have hlk7 : ∀ (u : World) (X' : Nat → Prop), Turns (fun q => m ≤ q) w u → LiesIn (fun i => i < u.heap.size ∧ ¬ (m ≤ i ∧ ¬ X' i)) u Ak (ks.map .bool) := fun u X' t j u' hu => by
        obtain ⟨ad, e1, e2, e3⟩ := hlk j u' hu
        have := HM.out
        exact ⟨ad, e1, ⟨by have := t.size; omega, fun h => by have := h.1; omega⟩, t.cell e3 (fun h => by rw [add_block] at h; omega)⟩
      cases sy with
      | true =>
        have SY := sync_d a m X D wr S.dsk S.xs (by omega) (by omega)
        rw [sync_here HPW.out] at SY
        simp only at SY
        clear hkt
        have hkt := HKT.out
        go_wp2_with fail
        refine SY.mono ?_
        rintro e w4 ⟨rfl, d4, t4⟩
        have T4 := T.trans (t4.mono fun q _ e => e.1)
        have RS := restart_d a m X _ w4 Ak kn kc ks d4 (fun k hk => Nat.lt_of_lt_of_le (S.xs k hk) t4.size) HKL.out (by omega) (hlk7 w4 X T4) (by have hu := hok.used; have h0 : Dk.weight ⟨D.room, D.seen, D.seen, [], -1⟩ = fUsed D.seen := rfl; omega) (by show (0 : Nat) ≤ _; omega)
        rw [show restartD ⟨D.room, D.seen, D.seen, [], -1⟩ ks = ⟨D.room, D.seen, D.seen, [], -1⟩ from rfl] at RS
        go_wp2_with fail
        refine RS.mono ?_
        rintro e w5 ⟨rfl, d5, t5⟩
        have T5 := T4.trans (t5.mono fun q _ e => e.1)
        have b5x := (S.box.turned t4 (fun e => e.2 S.xb)).turned t5 (fun e => e.2 S.xb)
        have r5 := (S.ref.turned t4 (fun k hk e => e.2 hk.1)).turned t5 (fun k hk e => e.2 hk.1)
        have G5 : Grows w w5 := T5.grows fun q hq => by have := HM.out; omega
        obtain ⟨As, cs, rfl⟩ := r5.seen.form
        have gd := (Grows.refl w5).drew
        generalize hDz : (⟨D.room, D.seen, D.seen, [], -1⟩ : Dk) = Dz at *
        have hz1 : Dz.seen = D.seen := by rw [← hDz]
        have hz2 : Dz.waits = [] := by rw [← hDz]
        have U1 : Hid (∀ u, Grows w5 u → Calls Try.prog 13 #[.pointer (some ⟨a, 0, none⟩)] u fun e w' => e = .returned (.int .i64 0) ∧ Grows u w') := fun u h => (waits_d a m X Dz u (d5.later h)).mono fun e w' ⟨h1, h2⟩ => ⟨by rw [h1, hz2]; rfl, by rw [h2]; exact Grows.refl _⟩
        have U2 : Hid (∀ u, Grows w5 u → Calls Try.prog 14 #[.pointer (some ⟨a, 0, none⟩)] u fun e w' => e = .returned (.int .i64 (fUsed D.seen : Int)) ∧ Grows u w') := fun u h => (used_d a m X Dz u (d5.later h)).mono fun e w' ⟨h1, h2⟩ => ⟨by rw [h1, hz1], by rw [h2]; exact Grows.refl _⟩
        have U3 : Hid (∀ u, Grows w5 u → Calls Try.prog 15 #[dV D (.slice As D.seen.length cs) lv wv] u fun e w' => e = .returned (.int .i64 (fUsed D.seen : Int)) ∧ Grows u w') := fun u h => used_r D _ lv wv u _ (r5.seen.later h) (by omega) (by have := hok.used; omega)
        have LS : Hid (∀ u, Grows w5 u → Calls Try.prog 16 #[.pointer (some ⟨a, 0, none⟩), tv []] u fun e w' => ∃ A' c', e = .returned (.slice A' D.seen.length c') ∧ Grows u w') := fun u h => (list_d a m X Dz u [] (d5.later h) (by rw [hz1]; omega)).mono fun e w' ⟨v, h1, h2, h3⟩ => by
          rw [preF_nil, List.length_map, hz1] at h2
          obtain ⟨A', c', h4, _⟩ := own_form h2
          exact ⟨A', c', by rw [h1, h4], h3⟩
        have LV : Hid (∀ u, Calls Try.prog 10 #[] u fun e w' => e = .returned (.bool true) ∧ Grows u w') := fun u => lives12_any u
        have ld : ∀ u, Grows w5.drew u → (Instr.loadAt 31 (.pointer (some ⟨B, 0, none⟩))).run Try.prog u = .ok (dV D (.slice As D.seen.length cs) lv wv) u := fun u h => (b5x.later (Grows.trans gd h)).load Try.underlying31 rfl d_size
        have k1 : ∀ u, Grows w5.drew u → u.cell? ⟨B, 1, none⟩ = some (.slice As D.seen.length cs) := fun u h => hcell_later (b5x.cell (k := 1) rfl) (Grows.trans gd h)
        have GG : Hid (∀ u, Grows w5.drew u → Grows w5 u) := fun u h => Grows.trans gd h
        have HSN := Lib.hid (rfl : D.seen.length = D.seen.length)
        clear SY RS hlk7 S b5x r5 d5 d4 t4 t5 hDz hz1 hz2 b5 hkt hok P b2
        generalize D.seen.length = sn at *
        generalize fUsed D.seen = su at *
        go_wp2_with fail
        refine wp_region_ord 23 [(0, true), (1, true), (2, true), (3, true), (4, true), (5, true), (6, true), (7, true), (8, true), (9, true), (10, true), (11, true), (14, true), (15, true), (16, true), (12, false), (13, true), (17, true), (18, true), (19, true), (20, true), (21, true), (22, true)] (by kernel_rfl) (by kernel_rfl) ?_
        have hO := Grows.refl w5.drew
        repeat (first | (refine ord_load hO _ _ (by simp only [List.getElem?_cons_succ, List.getElem?_cons_zero]; rfl) (by rfl) 31 (.tmp 9) (by rfl) _ (by rfl) ld ?_; try simp only [Act.put, List.setIfInBounds_toArray, List.set_cons_zero, List.set_cons_succ]) | (refine ord_take hO _ ?_ (by simp only [List.getElem?_cons_succ, List.getElem?_cons_zero]; rfl) (by rfl) ?_ ?_; rotate_left; (· (intro u hu0 hu; (try go_simp); (try with_reducible rfl))); try simp only [Act.put, List.setIfInBounds_toArray, List.set_cons_zero, List.set_cons_succ]) | (refine ord_skip _ (by simp only [List.getElem?_cons_succ, List.getElem?_cons_zero]; rfl) (by rfl) ?_; try simp only [Act.put, List.setIfInBounds_toArray, List.set_cons_zero, List.set_cons_succ]) | (refine ord_call hO _ ?_ (by simp only [List.getElem?_cons_succ, List.getElem?_cons_zero]; rfl) (by rfl) ?_ ?_; rotate_left; (· (intro u hu0 hu; go_simp; (try refine quiet_enter ?_); (first | with_reducible exact U1.out u (GG.out u hu0) | with_reducible exact U2.out u (GG.out u hu0) | with_reducible exact U3.out u (GG.out u hu0) | with_reducible exact LV.out u))); try simp only [Act.put, List.setIfInBounds_toArray, List.set_cons_zero, List.set_cons_succ]))
        (refine ord_move _ (by simp only [List.getElem?_cons_succ, List.getElem?_cons_zero]; rfl) (by rfl) (fun u hu K hK => ?_); go_simp)
        refine (LS.out u (GG.out u hu)).mono ?_
        rintro e w6 ⟨A6, c6, rfl, g6⟩
        refine hK.out _ _ g6 ?_
        clear hK K
        have gu := Grows.trans (GG.out u hu) g6
        clear hO ld k1 U1 U2 U3 LS GG
        have hO := Grows.refl w6
        repeat (first | (refine ord_take hO _ ?_ (by simp only [List.getElem?_cons_succ, List.getElem?_cons_zero]; rfl) (by rfl) ?_ ?_; rotate_left; (· (intro u hu0 hu; (try go_simp); (try with_reducible rfl))); try simp only [Act.put, List.setIfInBounds_toArray, List.set_cons_zero, List.set_cons_succ]) | (refine ord_skip _ (by simp only [List.getElem?_cons_succ, List.getElem?_cons_zero]; rfl) (by rfl) ?_; try simp only [Act.put, List.setIfInBounds_toArray, List.set_cons_zero, List.set_cons_succ]) | (refine ord_call hO _ ?_ (by simp only [List.getElem?_cons_succ, List.getElem?_cons_zero]; rfl) (by rfl) ?_ ?_; rotate_left; (· (intro u hu0 hu; go_simp; (try refine quiet_enter ?_); (with_reducible exact LV.out u))); try simp only [Act.put, List.setIfInBounds_toArray, List.set_cons_zero, List.set_cons_succ]))
        refine ord_done (fun w7 hu7 => ?_)
        simp only [List.drop_succ_cons, List.drop_zero]
        go_wp2_with fail
        refine NoPanic.normal ?_
        go_wp2_with fail
        go_ret
        exact ⟨rfl, Grows.trans G5 (Grows.trans gu hu7)⟩
      | false =>
        have RS := restart_d a m X D wr Ak kn kc ks S.dsk S.xs HKL.out (by omega) (hlk7 wr X T) (by omega) (by omega)
        have hds : dataSum D.waits ≤ D.weight := by unfold Dk.weight; omega
        have RR := fun (u : World) (h : RDk u (fun k => X k ∧ k ≠ B) sv lv wv D) (hl : Lies u u.heap.size Ak (ks.map .bool)) => restart_r D sv lv wv u _ Ak kn kc ks h HKL.out hl (by omega) (by omega) (by omega)
        have hrl := len_rst D.waits ks D.lasts
        have hrs : (restartD D ks).seen.length ≤ 1000000 := by show (rstF D.waits ks D.lasts).length ≤ _; omega
        have hrw := weight_restart hok ks
        go_wp2_with fail
        refine RS.mono ?_
        rintro e w4 ⟨rfl, d4, t4⟩
        have b4x := S.box.turned t4 (fun e => e.2 S.xb)
        have r4 := S.ref.turned t4 (fun k hk e => e.2 hk.1)
        have T4 := T.trans (t4.mono fun q _ e => e.1)
        have q0 := b4x.cell (k := 0) rfl
        have q1 := b4x.cell (k := 1) rfl
        have q2 := b4x.cell (k := 2) rfl
        have q3 := b4x.cell (k := 3) rfl
        have q4 := b4x.cell (k := 4) rfl
        go_wp2_with fail
        refine (RR w4 r4 (fun j u' hu => by
          obtain ⟨ad, e1, e2, e3⟩ := hlk7 w4 X T4 j u' hu
          exact ⟨ad, e1, e2.1, e3⟩)).mono ?_
        rintro e w5 ⟨v, rfl, r5, g5⟩
        have LK := like_r (restartD D ks) v v (.slice none 0 0) a m X _ w5 (d4.later g5) r5 hrs (by omega)
        have T5 := T4.trans (Turns.of_grows g5)
        have G5 : Grows w w5 := T5.grows fun q hq => by have := HM.out; omega
        clear RS RR q0 q1 q2 q3 q4 hlk7 S hrl hrs hrw
        go_wp2_with fail
        refine LK.mono ?_
        rintro e w6 ⟨rfl, g6⟩
        go_wp2_with fail
        refine (lives12_any _).mono ?_
        rintro e w9 ⟨rfl, g9⟩
        go_wp2_with fail
        go_ret
        exact ⟨rfl, Grows.trans G5 (Grows.trans g6 g9)⟩
end Go.Proofs.Ytbcldknecdbemaa
