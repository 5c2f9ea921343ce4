/-
  The walk of the law DiskPlays.
-/
import Derived.Test.YtbcldknecdbemaaK4
import Derived.Test.YtbcldknecdbemaaK5
import Derived.Test.YtbcldknecdbemaaJ4
namespace Go.Proofs.Ytbcldknecdbemaa
open Go.RowKit
set_option linter.unusedVariables false
set_option maxRecDepth 20000

theorem o_size : (Try.prog.info? 38).map (·.size) = some 6 := by kernel_rfl
/-- Both disks at hand. -/
structure PS (w : World) (a m B : Nat) (sv lv wv : Value) (D : Dk) (X : Nat → Prop) : Prop where
  dsk : Dsk w a m X D
  ref : RDk w (fun k => X k ∧ k ≠ B) sv lv wv D
  xs : ∀ k, X k → k < w.heap.size
  xb : X B
  box : Has w B [rv D.room, sv, lv, wv, rv D.power]
theorem PS.later {w w' : World} {a m B : Nat} {sv lv wv : Value} {D : Dk} {X : Nat → Prop} (h : PS w a m B sv lv wv D X) (hg : Grows w w') : PS w' a m B sv lv wv D X :=
  ⟨h.dsk.later hg, h.ref.later hg, fun k hk => Nat.lt_of_lt_of_le (h.xs k hk) hg.size, h.xb, h.box.later hg⟩
theorem wee_new (M : Int) (h : 1 ≤ M ∧ M ≤ 1048576) : Wee2 0 (newD M) := ⟨by show (0 : Nat) ≤ _; omega, by show (0 : Nat) ≤ 0; omega, by show (-1 : Int) ≤ 10; omega, h⟩

set_option maxHeartbeats 4000000 in
theorem diskplays_walk (room : Int) (A : Option Addr) (n c : Nat) (rs : List (List Value)) (w : World) (hn : -9223372036854775808 ≤ room ∧ room ≤ 9223372036854775807) (hl : rs.length = n) (hR : Recs w A 6 rs) (hnc : n ≤ c) (hc : c ≤ maxLen) (hO : ∀ r ∈ rs, DeedO w r) :
    Calls Try.prog 3 #[rv room, .slice A n c] w fun e w' => e = .returned (.bool true) ∧ Below w.heap.size w w' := by
  have R90 : ∀ u, Calls Try.prog 5 #[.int .i64 room, .int .i64 90] u fun e w' => e = .returned (.int .i64 (around room 90 : Int)) ∧ u = w' := fun u => around_any room 90 u hn (by omega)
  have hk := around_lt room (m := 90) (by omega)
  generalize around room 90 = k0 at *
  obtain ⟨M, hM⟩ : ∃ M, M = 1 + k0 := ⟨_, rfl⟩
  have hk1 : (1 : Int) + (k0 : Int) = (M : Int) := by omega
  have N0 := new_d (M : Int) w (by omega)
  have NR := fun u => new_r (M : Int) u (fun _ => False)
  have Z0 := wee_new (M : Int) (by omega)
  generalize newD (M : Int) = D0 at *
  clear hM
  have hc' := hc
  unfold maxLen at hc'
  go_enter Try.func3, Try.ntmps3
  go_wp2_with fail
  refine (R90 _).mono ?_
  rintro e w ⟨rfl, rfl⟩
  go_wp2_with fail
  refine N0.mono ?_
  rintro e w1 ⟨a, rfl, d1, g1⟩
  have hmm := g1.size
  generalize hme : w.heap.size = m at *
  have HM := Lib.hid hme
  clear hme
  go_wp2_with fail
  refine (NR _).mono ?_
  rintro e w2 ⟨rfl, r2, g2⟩
  have hbox := Has.new w2 31 zeroD
  have ga := grows_alloc w2 (.cells zeroD.toArray 31)
  have hone : ∀ u ∈ [rv D0.room, .slice none 0 0, .slice none 0 0, .slice none 0 0, rv D0.power], u.oneCell' = true := by
    intro u hu; simp at hu; rcases hu with rfl | rfl | rfl <;> rfl
  have HHK := Lib.hid hk1
  clear N0 R90 NR hk1 hk
  go_wp2_with (refine wpList_storeT rfl 31 (.tmp 8) (.tmp 27) rfl w2.heap.size _ [rv D0.room, .slice none 0 0, .slice none 0 0, .slice none 0 0, rv D0.power] 5 rfl rfl hbox rfl rfl d_size hone ?_; intro w3 b3 t3)
  have hs2 := g2.size
  have T3 : Turns (fun q => m ≤ q) w w3 := ((Turns.of_grows (Grows.trans g1 g2)).trans (Turns.of_grows ga)).trans (t3.mono fun q _ e => by omega)
  have S3 : PS w3 a m w2.heap.size (.slice none 0 0) (.slice none 0 0) (.slice none 0 0) D0 (fun k => k = w2.heap.size) :=
    ⟨(((d1.later g2).more (X' := fun k => k = w2.heap.size) (fun k e => .inr (Nat.le_of_eq e.symm))).later ga).turned t3 (fun k e h => h.2 e), ((r2.later ga).turned t3 (fun k e => e.elim)).mono (fun k e => e.elim), fun k e => by rw [e]; exact b3.lt, rfl, b3⟩
  clear hbox ga hone t3 b3 g2 r2 d1 HHK
  have HBm := Lib.hid (show m ≤ w2.heap.size from by omega)
  clear hs2 g1 hmm
  generalize w2.heap.size = B at *
  go_loopw [9] (fun i wr => ∃ (j : Nat) (D : Dk) (sv lv wv : Value) (X : Nat → Prop), j ≤ n ∧ j ≤ 24 ∧ i = .int .i64 (j : Int) ∧ Wee2 j D ∧ PS wr a m B sv lv wv D X ∧ Turns (fun q => m ≤ q) w wr) (fun i _ => n - (intOf i).toNat)
  case atStart => exact ⟨0, D0, _, _, _, _, Nat.zero_le _, Nat.zero_le _, rfl, Z0, S3, T3⟩
  case round =>
    clear S3 T3 Z0
    obtain ⟨j, D, sv, lv, wv, X, hj, hj12, rfl, P, S, T⟩ := hrel
    have G : Grows w wr := T.grows fun q hq => by have := HM.out; omega
    by_cases hlt : j < n
    · by_cases hlt2 : j < 24
      · obtain ⟨r, hr⟩ : ∃ r, rs[j]? = some r := ⟨_, List.getElem?_eq_getElem (by rw [hl]; exact hlt)⟩
        obtain ⟨o, ⟨A0, c0, A1, c1, hre, hbc, hcm, hlb, hkc, hkm, hlk⟩, i1, i2, i3, i4⟩ := hO r (List.mem_of_getElem? hr)
        obtain ⟨ad, hA, had, hcell⟩ := hR.at_ (by omega) hr
        subst hA
        have hki : (j : Int) < (n : Int) := by omega
        have hki2 : (j : Int) < 24 := by omega
        have hcO : ∀ k v, [rv o.what, rv o.p, rv o.to, rv o.n, .slice A0 o.b.length c0, .slice A1 o.keep.length c1][k]? = some v → w.cell? ((ad.add (j * 6)).add k) = some v := fun k v hk => by
          rw [add_add_addr]; exact hcell k v (by rw [hre]; exact hk)
        have had : ad.block < m := by rw [← HM.out]; exact had
        have hok := S.dsk.ok
        have hlow := S.dsk.low
        have PW := wee_does o P hok
        have b1 := P.wt
        have b2 := P.mn
        have b3 := P.pw
        have b4 := P.rm
        have b5 := hok.slen
        have DO : ∀ (X' : Nat → Prop) (u : World), Grows wr u → Dsk u a m X' D → RDk u (fun k => X k ∧ k ≠ B) sv lv wv D → (∀ k, X' k → k < u.heap.size) → (∀ k, (X k ∧ k ≠ B) → X' k) →
            Calls Try.prog 8 #[.pointer (some ⟨a, 0, none⟩), dV D sv lv wv, .agg #[rv o.what, rv o.p, rv o.to, rv o.n, .slice A0 o.b.length c0, .slice A1 o.keep.length c1]] u fun e w' => DoesOut (doesD D o) a m X' (fun k => X k ∧ k ≠ B) u e w' := fun X' u g hd hrr hx hox =>
          does_any D sv lv wv a m X' _ u o A0 A1 c0 c1 ⟨hd, hrr, hx, hox, hbc, hcm, fun k v hk => by
            obtain ⟨d, e, h1, h2⟩ := hlb k v hk
            exact ⟨d, e, by rw [← HM.out]; exact h1, hcell_later h2 (Grows.trans G g)⟩, hkc, hkm, fun k v hk => by
            obtain ⟨d, e, h1, h2⟩ := hlk k v hk
            exact ⟨d, e, by rw [← HM.out]; exact h1, hcell_later h2 (Grows.trans G g)⟩, i1, i2, i3, i4, by omega, by unfold Dk.many at b2; omega, by unfold Dk.many at b2; omega, by omega, by omega⟩
        generalize hdo : doesD D o = D' at *
        clear hdo hlb hlk hbc hkc hkm hcm hcell hre b1 b2 b3 b4 b5
        have PW2 := Lib.hid PW
        have PP := Lib.hid P
        clear PW P hr
        go_wp2_with fail
        have gd := (Grows.refl wr).drew
        have HS := Lib.hid S
        have hBl := S.xs B S.xb
        have ldB : ∀ u, Turns (fun k => m ≤ k ∧ ¬ X k) wr.drew u → (Instr.loadAt 31 (.pointer (some ⟨B, 0, none⟩))).run Try.prog u = .ok (dV D sv lv wv) u := fun u h => ((S.box.later gd).turned h (fun e => e.2 S.xb)).load Try.underlying31 rfl d_size
        have ldO : ∀ u, Turns (fun k => m ≤ k ∧ ¬ X k) wr.drew u → (Instr.loadAt 38 (.pointer (some (ad.add (j * 6))))).run Try.prog u = .ok (.agg #[rv o.what, rv o.p, rv o.to, rv o.n, .slice A0 o.b.length c0, .slice A1 o.keep.length c1]) u := fun u h => load_any u _ 38 [rv o.what, rv o.p, rv o.to, rv o.n, .slice A0 o.b.length c0, .slice A1 o.keep.length c1] _ (fun k v hk => h.cell (hcell_later (hcO k v hk) (Grows.trans G gd)) (fun e => by have h1 := e.1; rw [add_block, add_block] at h1; omega)) Try.underlying38 rfl o_size
        have hO := Turns.refl (fun k => m ≤ k ∧ ¬ X k) wr.drew
        clear S
        refine wp_region_planc (S := fun k => m ≤ k ∧ ¬ X k) 13 (.take 0 (.take 1 (.take 2 (.take 3 (.take 4 (.take 5 (.two 6 (.take 7 (.take 8 (.take 9 (.one 10 (.one 11 (.take 12 .fin)))))) 10 (.one 6 (.take 7 (.take 8 (.take 9 (.one 11 (.take 12 .fin))))))))))))) (by kernel_rfl) (by kernel_rfl) ?_
        repeat (first | (refine planc_load hO _ _ (by simp only [List.getElem?_cons_succ, List.getElem?_cons_zero]; rfl) (by rfl) 31 (.tmp 8) (by rfl) _ (by rfl) ldB ?_; try simp only [Act.put, List.setIfInBounds_toArray, List.set_cons_zero, List.set_cons_succ]) | (refine planc_load hO _ _ (by simp only [List.getElem?_cons_succ, List.getElem?_cons_zero]; rfl) (by rfl) 38 (.tmp 43) (by rfl) _ (by rfl) ldO ?_; try simp only [Act.put, List.setIfInBounds_toArray, List.set_cons_zero, List.set_cons_succ]) | (refine planc_take hO _ ?_ (by simp only [List.getElem?_cons_succ, List.getElem?_cons_zero]; rfl) (by rfl) ?_ ?_; rotate_left; (· (intro u hu0 hu; (try go_simp); (try with_reducible rfl))); try simp only [Act.put, List.setIfInBounds_toArray, List.set_cons_zero, List.set_cons_succ]))
        refine planc_two _ _ (by simp only [List.getElem?_cons_succ, List.getElem?_cons_zero]; rfl) (by simp only [List.getElem?_cons_succ, List.getElem?_cons_zero]; rfl) (by rfl) (by rfl) (fun u hu K hK => ?_) (fun u hu K hK => ?_)
        · go_simp
          have gu := Grows.trans gd hu
          have S := HS.out
          refine (DO X u gu (S.dsk.later gu) (S.ref.later gu) (fun k hk => Nat.lt_of_lt_of_le (S.xs k hk) gu.size) (fun k hk => hk.1)).mono ?_
          rintro e v1 ⟨sv', lv', wv', X1, rfl, d1, r1, hb1, hs1, hn1, t1⟩
          refine hK.out _ _ t1 ?_
          clear hK K ldB ldO hO
          have hO1 := Turns.refl (fun k => m ≤ k ∧ ¬ X k) v1
          repeat (first | (refine planc_take hO1 _ ?_ (by simp only [List.getElem?_cons_succ, List.getElem?_cons_zero]; rfl) (by rfl) ?_ ?_; rotate_left; (· (intro u hu0 hu; (try go_simp); (try with_reducible rfl))); try simp only [Act.put, List.setIfInBounds_toArray, List.set_cons_zero, List.set_cons_succ]))
          refine planc_move _ (by simp only [List.getElem?_cons_succ, List.getElem?_cons_zero]; rfl) (by rfl) (fun u2 hu2 K hK => ?_)
          go_simp
          refine hK.out _ _ (Turns.of_grows (grows_alloc _ _)) ?_
          clear hK K hO1
          have ga := Grows.trans hu2 (grows_alloc u2 (.cells zeroD.toArray 31))
          have hbx := Has.new u2 31 zeroD
          have hnb : v1.heap.size ≤ u2.heap.size := hu2.size
          have hlt : u2.heap.size < (u2.alloc (.cells zeroD.toArray 31)).heap.size := hbx.lt
          have hgu := gu.size
          have ht1 := t1.size
          change wpPlanC _ _ _ _ _ _ _ (u2.alloc (.cells zeroD.toArray 31))
          generalize u2.alloc (.cells zeroD.toArray 31) = w3 at *
          generalize u2.heap.size = nb at *
          have hBn : B ≠ nb := by omega
          have hmn : m ≤ nb := by have := HM.out; have := G.size; omega
          have hSn : m ≤ nb ∧ ¬ X nb := ⟨hmn, fun hx => by have := S.xs nb hx; omega⟩
          obtain ⟨X2, hX2⟩ : ∃ X2 : Nat → Prop, X2 = fun k => X1 k ∨ k = nb := ⟨_, rfl⟩
          have d3 : Dsk w3 a m (fun k => X1 k ∨ k = nb) D' := (d1.more (fun k hk => hk.imp id (fun e => by rw [e]; exact hnb))).later ga
          have r3 : RDk w3 (fun k => (X1 k ∨ k = nb) ∧ k ≠ B ∧ k ≠ nb) sv' lv' wv' D' := ((r1.cut).mono (fun k hk => ⟨.inl hk.1.1, by rcases hk.1.2 with h | h; exact h.2; omega, by have := hk.2; omega⟩)).later ga
          have bB3 := ((S.box.later gu).turned t1 (fun e => e.2 S.xb)).later ga
          have x3 : ∀ k, (X1 k ∨ k = nb) → k < w3.heap.size := fun k hk => by
            rcases hk with hk | hk
            · have := hb1 k hk; omega
            · omega
          have xB3 : X1 B ∨ B = nb := .inl (hs1 B S.xb)
          have T3 : Turns (fun q => m ≤ q) w w3 := ((T.trans (Turns.of_grows gu)).trans (t1.mono fun q _ e => e.1)).trans (Turns.of_grows ga)
          have d3 : Dsk w3 a m X2 D' := by rw [hX2]; exact d3
          have x3 : ∀ k, X2 k → k < w3.heap.size := by rw [hX2]; exact x3
          have xB3 : X2 B := by rw [hX2]; exact xB3
          have r3 : RDk w3 (fun k => X2 k ∧ k ≠ B ∧ k ≠ nb) sv' lv' wv' D' := by rw [hX2]; exact r3
          have xn : X2 nb := by rw [hX2]; exact .inr rfl
          clear hX2 d1 r1 t1 hb1 hs1 hn1 S
          have hone := dL_one r3
          unfold dL at hone
          refine planc_storeT _ (by simp only [List.getElem?_cons_succ, List.getElem?_cons_zero]; rfl) (by rfl) 31 (.tmp 10) (.tmp 46) rfl nb zeroD [rv D'.room, sv', lv', wv', rv D'.power] 5 rfl rfl hbx rfl rfl d_size hone hSn (fun u4 w5 hu4 b5 t5 => ?_)
          have hO5 := Turns.refl (fun k => m ≤ k ∧ ¬ X k) w5
          repeat (first | (refine planc_take hO5 _ ?_ (by simp only [List.getElem?_cons_succ, List.getElem?_cons_zero]; rfl) (by rfl) ?_ ?_; rotate_left; (· (intro u hu0 hu; (try go_simp); (try with_reducible rfl))); try simp only [Act.put, List.setIfInBounds_toArray, List.set_cons_zero, List.set_cons_succ]))
          refine planc_done (fun w6 hu6 => ?_)
          simp only [List.drop_succ_cons, List.drop_zero]
          have S6 : PS w6 a m B sv lv wv D' X2 → True := fun _ => trivial
          have d6 := ((d3.later hu4).turned t5 (fun k e h => h.2 (by rw [e]; exact xn))).later hu6
          have r6 := (((r3.later hu4).turned t5 (fun k hk e => hk.2.2 e)).later hu6).mono (ok' := fun k => X2 k ∧ k ≠ B) (fun k hk => ⟨hk.1, hk.2.1⟩)
          have bB6 := (((bB3.later hu4).turned t5 hBn).later hu6)
          have b6 := b5.later hu6
          have x6 : ∀ k, X2 k → k < w6.heap.size := fun k hk => Nat.lt_of_lt_of_le (x3 k hk) (Nat.le_trans hu4.size (Nat.le_trans t5.size hu6.size))
          have T6 : Turns (fun q => m ≤ q) w w6 := ((T3.trans (Turns.of_grows hu4)).trans (t5.mono fun q _ e => by rw [e]; exact hmn)).trans (Turns.of_grows hu6)
          clear S6 r3 d3 bB3 T3 t5 b5 hO5 x3 hbx hu4 hu6
          go_wp2_with fail
          refine NoPanic.normal ?_
          have q0 := b6.cell (k := 0) rfl
          have q1 := b6.cell (k := 1) rfl
          have q2 := b6.cell (k := 2) rfl
          have q3 := b6.cell (k := 3) rfl
          have q4 := b6.cell (k := 4) rfl
          go_wp2_with (refine wpList_storeT rfl 31 (.tmp 8) (.tmp 48) rfl B _ [rv D'.room, sv', lv', wv', rv D'.power] 5 rfl rfl bB6 rfl rfl d_size hone ?_; intro w7 b7 t7; have p0 := b7.cell (k := 0) rfl; have p1 := b7.cell (k := 1) rfl; have p2 := b7.cell (k := 2) rfl; have p3 := b7.cell (k := 3) rfl; have p4 := b7.cell (k := 4) rfl)
          have S7 : PS w7 a m B sv' lv' wv' D' X2 := ⟨d6.turned t7 (fun k e h => h.2 (by rw [e]; exact xB3)), r6.turned t7 (fun k hk e => hk.2 e), fun k hk => Nat.lt_of_lt_of_le (x6 k hk) t7.size, xB3, b7⟩
          have T7 : Turns (fun q => m ≤ q) w w7 := T6.trans (t7.mono fun q _ e => by rw [e]; exact (by have := HM.out; have := HBm.out; omega))
          have PQ := PW2.out.1
          have hk7 := S7.dsk.ok.slen
          have LK := like_r D' sv' lv' wv' a m X2 _ w7 S7.dsk S7.ref (by have := PQ.mn; unfold Dk.many at this; omega) (by have := PQ.wt; omega)
          clear d6 r6 bB6 b6 t7 b7 q0 q1 q2 q3 q4 x6 T6 p0 p1 p2 p3 p4 PQ hk7
          refine LK.mono ?_
          rintro e w8 ⟨rfl, g8⟩
          have S8 := S7.later g8
          have T8 := T7.trans (Turns.of_grows g8)
          clear S7 T7 LK
          go_wp2_with fail
          go_roundw
          case rel => exact ⟨j + 1, D', sv', lv', wv', X2, by omega, by omega, by go_num, PW2.out.1, S8, T8⟩
          case measure => simp [intOf]; omega
        · go_simp
          refine hK.out _ _ (Turns.of_grows (grows_alloc _ _)) ?_
          have gu := Grows.trans gd hu
          have S := HS.out
          have hbx0 := Has.new u 31 zeroD
          have ga := grows_alloc u (.cells zeroD.toArray 31)
          have hlt : u.heap.size < (u.alloc (.cells zeroD.toArray 31)).heap.size := hbx0.lt
          have hgu := gu.size
          have d0 := (S.dsk.later gu).more (X' := fun k => X k ∨ k = u.heap.size) (fun k hk => hk.imp id (fun e => Nat.le_of_eq e.symm))
          clear hK K ldB ldO hO
          change wpPlanC _ _ _ _ _ _ _ (u.alloc (.cells zeroD.toArray 31))
          generalize u.alloc (.cells zeroD.toArray 31) = w2 at *
          generalize u.heap.size = nb at *
          refine planc_move _ (by simp only [List.getElem?_cons_succ, List.getElem?_cons_zero]; rfl) (by rfl) (fun u2 hu2 K hK => ?_)
          go_simp
          have gu2 := Grows.trans ga hu2
          have hu2s := hu2.size
          refine (DO (fun k => X k ∨ k = nb) u2 (Grows.trans gu gu2) (d0.later gu2) (S.ref.later (Grows.trans gu gu2)) (fun k hk => by rcases hk with hk | hk; have := S.xs k hk; omega; omega) (fun k hk => .inl hk.1)).mono ?_
          rintro e w3 ⟨sv', lv', wv', X2, rfl, d3, r1, x3, hs1, hn1, t1⟩
          refine hK.out _ _ (t1.mono fun k _ e => ⟨e.1, fun h => e.2 (.inl h)⟩) ?_
          clear hK K
          have hO1 := Turns.refl (fun k => m ≤ k ∧ ¬ X k) w3
          repeat (first | (refine planc_take hO1 _ ?_ (by simp only [List.getElem?_cons_succ, List.getElem?_cons_zero]; rfl) (by rfl) ?_ ?_; rotate_left; (· (intro u hu0 hu; (try go_simp); (try with_reducible rfl))); try simp only [Act.put, List.setIfInBounds_toArray, List.set_cons_zero, List.set_cons_succ]))
          have hBn : B ≠ nb := by omega
          have hmn : m ≤ nb := by have := HM.out; have := G.size; omega
          have hSn : m ≤ nb ∧ ¬ X nb := ⟨hmn, fun hx => by have := S.xs nb hx; omega⟩
          have xn : X2 nb := hs1 nb (.inr rfl)
          have xB3 : X2 B := hs1 B (.inl S.xb)
          have hbx := (hbx0.later hu2).turned t1 (fun e => e.2 (.inr rfl))
          have r3 : RDk w3 (fun k => X2 k ∧ k ≠ B ∧ k ≠ nb) sv' lv' wv' D' := r1.mono (fun k hk => ⟨hk.1, by rcases hk.2 with h | h; exact h.2; omega, by rcases hk.2 with h | h; have := S.xs k h.1; omega; omega⟩)
          have bB3 := (S.box.later (Grows.trans gu gu2)).turned t1 (fun e => e.2 (.inl S.xb))
          have T3 : Turns (fun q => m ≤ q) w w3 := (T.trans (Turns.of_grows (Grows.trans gu gu2))).trans (t1.mono fun q _ e => e.1)
          clear d0 r1 t1 hs1 hn1 S hbx0 hO1
          have hone := dL_one r3
          unfold dL at hone
          refine planc_storeT _ (by simp only [List.getElem?_cons_succ, List.getElem?_cons_zero]; rfl) (by rfl) 31 (.tmp 10) (.tmp 46) rfl nb zeroD [rv D'.room, sv', lv', wv', rv D'.power] 5 rfl rfl hbx rfl rfl d_size hone hSn (fun u4 w5 hu4 b5 t5 => ?_)
          have hO5 := Turns.refl (fun k => m ≤ k ∧ ¬ X k) w5
          repeat (first | (refine planc_take hO5 _ ?_ (by simp only [List.getElem?_cons_succ, List.getElem?_cons_zero]; rfl) (by rfl) ?_ ?_; rotate_left; (· (intro u hu0 hu; (try go_simp); (try with_reducible rfl))); try simp only [Act.put, List.setIfInBounds_toArray, List.set_cons_zero, List.set_cons_succ]))
          refine planc_done (fun w6 hu6 => ?_)
          simp only [List.drop_succ_cons, List.drop_zero]
          have S6 : PS w6 a m B sv lv wv D' X2 → True := fun _ => trivial
          have d6 := ((d3.later hu4).turned t5 (fun k e h => h.2 (by rw [e]; exact xn))).later hu6
          have r6 := (((r3.later hu4).turned t5 (fun k hk e => hk.2.2 e)).later hu6).mono (ok' := fun k => X2 k ∧ k ≠ B) (fun k hk => ⟨hk.1, hk.2.1⟩)
          have bB6 := (((bB3.later hu4).turned t5 hBn).later hu6)
          have b6 := b5.later hu6
          have x6 : ∀ k, X2 k → k < w6.heap.size := fun k hk => Nat.lt_of_lt_of_le (x3 k hk) (Nat.le_trans hu4.size (Nat.le_trans t5.size hu6.size))
          have T6 : Turns (fun q => m ≤ q) w w6 := ((T3.trans (Turns.of_grows hu4)).trans (t5.mono fun q _ e => by rw [e]; exact hmn)).trans (Turns.of_grows hu6)
          clear S6 r3 d3 bB3 T3 t5 b5 hO5 x3 hbx hu4 hu6
          go_wp2_with fail
          refine NoPanic.normal ?_
          have q0 := b6.cell (k := 0) rfl
          have q1 := b6.cell (k := 1) rfl
          have q2 := b6.cell (k := 2) rfl
          have q3 := b6.cell (k := 3) rfl
          have q4 := b6.cell (k := 4) rfl
          go_wp2_with (refine wpList_storeT rfl 31 (.tmp 8) (.tmp 48) rfl B _ [rv D'.room, sv', lv', wv', rv D'.power] 5 rfl rfl bB6 rfl rfl d_size hone ?_; intro w7 b7 t7; have p0 := b7.cell (k := 0) rfl; have p1 := b7.cell (k := 1) rfl; have p2 := b7.cell (k := 2) rfl; have p3 := b7.cell (k := 3) rfl; have p4 := b7.cell (k := 4) rfl)
          have S7 : PS w7 a m B sv' lv' wv' D' X2 := ⟨d6.turned t7 (fun k e h => h.2 (by rw [e]; exact xB3)), r6.turned t7 (fun k hk e => hk.2 e), fun k hk => Nat.lt_of_lt_of_le (x6 k hk) t7.size, xB3, b7⟩
          have T7 : Turns (fun q => m ≤ q) w w7 := T6.trans (t7.mono fun q _ e => by rw [e]; exact (by have := HM.out; have := HBm.out; omega))
          have PQ := PW2.out.1
          have hk7 := S7.dsk.ok.slen
          have LK := like_r D' sv' lv' wv' a m X2 _ w7 S7.dsk S7.ref (by have := PQ.mn; unfold Dk.many at this; omega) (by have := PQ.wt; omega)
          clear d6 r6 bB6 b6 t7 b7 q0 q1 q2 q3 q4 x6 T6 p0 p1 p2 p3 p4 PQ hk7
          refine LK.mono ?_
          rintro e w8 ⟨rfl, g8⟩
          have S8 := S7.later g8
          have T8 := T7.trans (Turns.of_grows g8)
          clear S7 T7 LK
          go_wp2_with fail
          go_roundw
          case rel => exact ⟨j + 1, D', sv', lv', wv', X2, by omega, by omega, by go_num, PW2.out.1, S8, T8⟩
          case measure => simp [intOf]; omega
      · obtain rfl : j = 24 := by omega
        have hki : (24 : Int) < (n : Int) := by omega
        clear S P
        go_wp2_with fail
        refine (lives12_any _).mono ?_
        rintro e w9 ⟨rfl, g9⟩
        go_wp2_with fail
        go_ret
        exact ⟨rfl, Grows.trans G g9⟩
    · obtain rfl : j = n := by omega
      clear S P
      go_wp2_with fail
      refine (lives12_any _).mono ?_
      rintro e w9 ⟨rfl, g9⟩
      go_wp2_with fail
      go_ret
      exact ⟨rfl, Grows.trans G g9⟩
end Go.Proofs.Ytbcldknecdbemaa
