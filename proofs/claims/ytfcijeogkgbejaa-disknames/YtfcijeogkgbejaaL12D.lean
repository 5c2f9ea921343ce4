/-
  The walk of DiskNames.
-/
import Derived.Test.YtfcijeogkgbejaaK2
import Derived.Test.YtfcijeogkgbejaaJ1
namespace Go.Proofs.Ytfcijeogkgbejaa
open Go.RowKit
set_option linter.unusedVariables false
set_option maxRecDepth 20000

/-- The disk behind j writes of one byte. -/
structure Nm (j : Nat) (D : Dk) : Prop where
  pow : D.power = -1
  room : D.room = 100
  weight : D.weight ≤ j
  waits : D.waits.length ≤ j
  seen : D.seen.length ≤ j
theorem nm_zero : Nm 0 (newD 100) := ⟨rfl, rfl, by simp [newD, Dk.weight, fUsed, dataSum], by simp [newD], by simp [newD]⟩
theorem put_len (S : Fls) (p b : Byts) : (fPut S p b).length ≤ S.length + 1 := by
  have h1 := (fPut_perm S (p := p) (b := b)).length_eq
  have h2 := (fDel_sub S p).length_le
  rw [h1]; simp; omega
theorem nm_write {j : Nat} {D : Dk} (h : Nm j D) (p : Byts) : Nm (j + 1) (writeD D p [49]).1 := by
  have hw := weight_write D p [49]
  have ha := waits_write D p [49]
  have h1 := h.weight
  have h2 := h.waits
  have h3 := h.seen
  simp only [List.length_cons, List.length_nil] at hw
  refine ⟨?_, by rw [room_write]; exact h.room, by omega, by omega, ?_⟩
  · unfold writeD
    split
    · exact h.pow
    · split
      · exact h.pow
      · split
        · exact h.pow
        · show (if 0 < D.power then D.power - 1 else D.power) = _
          rw [h.pow]; rfl
  · unfold writeD
    split
    · show D.seen.length ≤ _; omega
    · split
      · show D.seen.length ≤ _; omega
      · split
        · show D.seen.length ≤ _; omega
        · show (fPut D.seen p [49]).length ≤ _
          have := put_len D.seen p [49]
          omega

/-- Both disks at hand: the program's, the reference's in its box, four texts. -/
structure St (w : World) (a m gt B : Nat) (ts : List Value) (sv lv wv : Value) (D : Dk) (X : Nat → Prop) : Prop where
  dsk : Dsk w a m X D
  ref : RDk w (fun k => X k ∧ k ≠ B) sv lv wv D
  xs : ∀ k, X k → k < w.heap.size
  xb : X B
  box : Has w B [rv D.room, sv, lv, wv, rv D.power]
  txt : Has w gt ts
theorem St.later {w w' : World} {a m gt B : Nat} {ts : List Value} {sv lv wv : Value} {D : Dk} {X : Nat → Prop} (h : St w a m gt B ts sv lv wv D X) (hg : Grows w w') : St w' a m gt B ts sv lv wv D X :=
  ⟨h.dsk.later hg, h.ref.later hg, fun k hk => Nat.lt_of_lt_of_le (h.xs k hk) hg.size, h.xb, h.box.later hg, h.txt.later hg⟩
theorem op_storeT {P : Program} {w : World} {op : Oper} {a : Act} {Q : Exit → Act → World → Prop} {K : Act → World → Prop} (ty : TypeId) (x y : Operand) (ho : op.op = .store ty x y)
    (b : Nat) (vs vs' : List Value) (n : Nat) (hx : a.eval x = .pointer (some ⟨b, 0, none⟩)) (hy : a.eval y = .agg vs'.toArray) (hb : Has w b vs) (hl : vs.length = n) (hl' : vs'.length = n) (hi : (P.info? ty).map (·.size) = some n)
    (h1 : ∀ v ∈ vs', v.oneCell' = true) (h : ∀ w', Has w' b vs' → Turns (fun k => k = b) w w' → K (a.put op.dst undef) w') : Oper.wp P op a w K Q := by
  have hz : vs'.toArray.size = n := by simp [hl']
  refine wp_store_mid ty x y ho b 0 vs'.toArray hx hy (by rw [hz, ← hl]; exact hb.there) (by rw [hz]; exact hi) (all_oneCell_toArray h1) ?_
  exact h _ (hb.put_ (by rw [hl, hl'])) (turns_cells b _ 0 w)
def Xn (w w' : World) (X : Nat → Prop) (k : Nat) : Prop := (X k ∨ w.heap.size ≤ k) ∧ k < w'.heap.size
/-- The reference has gone on. -/
theorem St.gone {w w' : World} {a m gt B : Nat} {ts : List Value} {sv lv wv sv' lv' wv' : Value} {D D' : Dk} {X : Nat → Prop} (h : St w a m gt B ts sv lv wv D X) (ht : Turns (fun k => k = B) w w') (hr : RDk w' (fun k => (X k ∨ w.heap.size ≤ k) ∧ k ≠ B) sv' lv' wv' D') :
    Dsk w' a m (Xn w w' X) D ∧ RDk w' (fun k => Xn w w' X k ∧ k ≠ B) sv' lv' wv' D' ∧ Xn w w' X B :=
  have hB : Xn w w' X B := ⟨.inl h.xb, Nat.lt_of_lt_of_le (h.xs B h.xb) ht.size⟩
  ⟨(h.dsk.more (X' := Xn w w' X) (fun k hk => hk.1)).turned ht (fun k e hk => hk.2 (by rw [e]; exact hB)), hr.cut.mono (fun k hk => ⟨⟨hk.1.1, hk.2⟩, hk.1.2⟩), hB⟩
theorem preF_snoc {S : Fls} {k : Nat} {x : Byts × Byts} (h : S[k]? = some x) (q : Byts) : preF (S.take (k + 1)) q = if prefB x.1 q = true then preF (S.take k) q ++ [x.1] else preF (S.take k) q := by
  rw [take_at h]
  unfold preF
  rw [List.filter_append, List.map_append]
  by_cases hb : prefB x.1 q = true
  · rw [if_pos hb]; simp [hb]
  · rw [if_neg hb]
    have hb' : prefB x.1 q = false := by simpa using hb
    simp [hb']
theorem tv_ones (l : List Byts) : ∀ u ∈ l.map tv, u.oneCell' = true := fun u hu => by
  obtain ⟨x, _, rfl⟩ := List.mem_map.1 hu
  rfl

set_option maxHeartbeats 4000000 in
theorem disknames_walk (s pre : Byts) (n : Int) (y : UInt8) (w : World) (hn : -9223372036854775808 ≤ n ∧ n ≤ 9223372036854775807) :
    Calls Try.prog 4 #[tv s, rv n, bv y, tv pre] w fun e w' => e = .returned (.bool true) ∧ Below w.heap.size w w' := by
  have R11 : ∀ u, Calls Try.prog 9 #[.int .i64 n, .int .i64 11] u fun e w' => e = .returned (.int .i64 (around n 11 : Int)) ∧ u = w' := fun u => around_any n 11 u hn (by omega)
  have hk := around_lt n (m := 11) (by omega)
  generalize around n 11 = k0 at *
  obtain ⟨M, hM⟩ : ∃ M, M = 90 + k0 := ⟨_, rfl⟩
  have hk1 : (90 : Int) + (k0 : Int) = (M : Int) := by omega
  have hM90 : 90 ≤ M ∧ M ≤ 100 := by omega
  clear hM
  have hcv := Lib.run_convert_bytes_const (P := Try.prog) w 35 5 #[.int .u8 120] 1 1 Try.underlying35 Try.underlying5
  have L1 := lies_mark w [120] (1, 2)
  have g1 := grows_alloc w (.cells (([120] : Byts).map bv).toArray 5 (1, 2))
  have FI := fun u (h : Grows (w.alloc (.cells (([120] : Byts).map bv).toArray 5 (1, 2))) u) => fill_own (some ⟨w.heap.size, 0, none⟩) 1 1 M [120] u rfl (L1.later h) (by unfold maxLen; omega) (by omega)
  have SH : ∀ u, Calls Try.prog 16 #[tv s, .int .i64 120] u fun e w' => e = .returned (tv (s.take 120)) ∧ Grows u w' := fun u => short_any s 120 u (by omega)
  obtain ⟨t0, ht0⟩ : ∃ t, t = s.take 120 := ⟨_, rfl⟩
  rw [← ht0] at SH
  have ht0l : t0.length ≤ 120 := by rw [ht0, List.length_take]; omega
  clear ht0
  go_enter Try.func4, Try.ntmps4
  go_wp2_with fail
  refine (R11 _).mono ?_
  rintro e w1 ⟨rfl, rfl⟩
  go_wp2_with fail
  refine (FI _ (Grows.refl _)).mono ?_
  rintro e w2 ⟨l, A2, c2, hl, rfl, hc2, hm2, ho2, b2⟩
  have F2 := fresh_own ho2 (Nat.le_refl _)
  obtain ⟨g, c', x, e1, hg1, hg2, hx, hcx, hfx⟩ := F2.at_ (k := 5) (by rw [hl]; omega)
  injection e1 with e1 e2 e3
  clear e2
  subst e1 e3
  have Fs : Fresh (w.alloc (.cells (([120] : Byts).map bv).toArray 5 (1, 2))) (w2.setCell ⟨g, 5, none⟩ (bv y)) (.slice (some ⟨g, 0, none⟩) M c2) (l.set 5 y) := by
    subst hl
    exact Fresh.set F2 (by omega) y
  have h5 : (5 : Int) < (M : Int) := by omega
  have g2 : Grows w w2 := Grows.trans g1 b2
  have T3 : Turns (fun q => w.heap.size ≤ q) w (w2.setCell ⟨g, 5, none⟩ (bv y)) := (Turns.of_grows g2).trans (Turns.of_set w2 (bv y) (by have := g1.size; omega))
  have G3 : Grows w (w2.setCell ⟨g, 5, none⟩ (bv y)) := T3.grows fun q h1 h2 => by omega
  obtain ⟨t1, ht1⟩ : ∃ t, t = l.set 5 y := ⟨_, rfl⟩
  have ht1l : t1.length ≤ 120 := by rw [ht1, List.length_set, hl]; omega
  rw [← ht1] at Fs
  clear ht1 hx hl hc2 hm2 ho2 b2 F2 hcv L1 FI R11 T3
  go_wp2_with fail
  change Code.wp _ _ _ _ (w2.setCell ⟨g, 5, none⟩ (bv y))
  generalize w2.setCell ⟨g, 5, none⟩ (bv y) = w3 at *
  clear hcx hfx g2
  have cs : ∀ u, Grows w3.drew u → (convert 35 9 (.slice (some ⟨g, 0, none⟩) M c2)).run Try.prog u = .ok (tv t1) u := fun u h => (Fs.later (Grows.trans (Grows.refl w3).drew h)).text
  refine wp_region_ord 6 [(0, true), (1, true), (2, true), (3, true), (4, false), (5, true)] (by kernel_rfl) (by kernel_rfl) ?_
  have hO := Grows.refl w3.drew
  repeat (first | (refine ord_take hO _ ?_ (by simp only [List.getElem?_cons_succ, List.getElem?_cons_zero]; rfl) (by rfl) ?_ ?_; rotate_left; (· (intro u hu0 hu; (try go_simp); (try with_reducible rfl))); try simp only [Act.put, List.setIfInBounds_toArray, List.set_cons_zero, List.set_cons_succ]) | (refine ord_skip _ (by simp only [List.getElem?_cons_succ, List.getElem?_cons_zero]; rfl) (by rfl) ?_; try simp only [Act.put, List.setIfInBounds_toArray, List.set_cons_zero, List.set_cons_succ]) | (refine ord_call hO _ ?_ (by simp only [List.getElem?_cons_succ, List.getElem?_cons_zero]; rfl) (by rfl) ?_ ?_; rotate_left; (· (intro u hu0 hu; go_simp; (try refine quiet_enter ?_); (exact SH u))); try simp only [Act.put, List.setIfInBounds_toArray, List.set_cons_zero, List.set_cons_succ]))
  (refine ord_move _ (by simp only [List.getElem?_cons_succ, List.getElem?_cons_zero]; rfl) (by rfl) (fun u hu K hK => ?_); go_simp)
  refine hK.out _ _ (grows_alloc _ _) ?_
  clear hK K hO cs
  have Gu : Grows w u := Grows.trans G3 (Grows.trans (Grows.refl w3).drew hu)
  have hbt := Has.new u 9 [tv t0, tv t1, tv [120, 0], tv []]
  have Gs := grows_alloc u (.cells [tv t0, tv t1, tv [120, 0], tv []].toArray 9)
  change wpOrd _ _ _ _ _ _ (u.alloc (.cells [tv t0, tv t1, tv [120, 0], tv []].toArray 9))
  generalize u.alloc (.cells [tv t0, tv t1, tv [120, 0], tv []].toArray 9) = w4 at *
  generalize hgt : u.heap.size = gt at *
  clear hgt
  have hO := Grows.refl w4
  repeat (first | (refine ord_take hO _ ?_ (by simp only [List.getElem?_cons_succ, List.getElem?_cons_zero]; rfl) (by rfl) ?_ ?_; rotate_left; (· (intro u hu0 hu; (try go_simp); (try with_reducible rfl))); try simp only [Act.put, List.setIfInBounds_toArray, List.set_cons_zero, List.set_cons_succ]) | (refine ord_skip _ (by simp only [List.getElem?_cons_succ, List.getElem?_cons_zero]; rfl) (by rfl) ?_; try simp only [Act.put, List.setIfInBounds_toArray, List.set_cons_zero, List.set_cons_succ]))
  refine ord_done (fun w5 hu5 => ?_)
  simp only [List.drop_succ_cons, List.drop_zero]
  have hbt5 := hbt.later hu5
  have G5 : Grows w w5 := Grows.trans Gu (Grows.trans Gs hu5)
  clear hO SH Fs hbt Gs hu5 hu G3 Gu hg1 hg2 h5 g1 hk1 hM90 hk
  have N0 := new_d 100 w5 (by omega)
  have NR := fun u => new_r 100 u (fun _ => False)
  have Z0 := nm_zero
  generalize newD 100 = D0 at *
  go_wp2_with fail
  refine NoPanic.normal ?_
  go_wp2_with fail
  refine N0.mono ?_
  rintro e w6 ⟨a, rfl, d6, g6⟩
  have hbt6 := hbt5.later g6
  have G6 := Grows.trans G5 g6
  have hgt := hbt5.lt
  have hwm := G5.size
  generalize hme : w5.heap.size = m at *
  have HM := Lib.hid hgt
  have HWM := Lib.hid hwm
  have hm6 := Lib.hid g6.size
  rw [hme] at hm6
  clear hme hgt hwm N0
  go_wp2_with fail
  refine (NR _).mono ?_
  rintro e w7 ⟨rfl, r7, g7⟩
  have hbox := Has.new w7 31 zeroD
  have ga := grows_alloc w7 (.cells zeroD.toArray 31)
  have hone : ∀ u ∈ [rv D0.room, .slice none 0 0, .slice none 0 0, .slice none 0 0, rv D0.power], u.oneCell' = true := by
    intro u hu; simp at hu; rcases hu with rfl | rfl | rfl <;> rfl
  go_wp2_with (refine wpList_storeT rfl 31 (.tmp 13) (.tmp 44) rfl w7.heap.size _ [rv D0.room, .slice none 0 0, .slice none 0 0, .slice none 0 0, rv D0.power] 5 rfl rfl hbox rfl rfl d_size hone ?_; intro w9 b9 t9)
  have hgt := HM.out
  have hs6 := hm6.out
  have hs7 := g7.size
  have T9 : Turns (fun q => m ≤ q) w w9 := (((Turns.of_grows G6).trans (Turns.of_grows g7)).trans (Turns.of_grows ga)).trans (t9.mono fun q _ e => by omega)
  have S9 : St w9 a m gt w7.heap.size [tv t0, tv t1, tv [120, 0], tv []] (.slice none 0 0) (.slice none 0 0) (.slice none 0 0) D0 (fun k => k = w7.heap.size) :=
    ⟨(((d6.later g7).more (X' := fun k => k = w7.heap.size) (fun k e => .inr (Nat.le_of_eq e.symm))).later ga).turned t9 (fun k e h => h.2 e), ((r7.later ga).turned t9 (fun k e => e.elim)).mono (fun k e => e.elim), fun k e => by rw [e]; exact b9.lt, rfl, b9, (hbt6.later (Grows.trans g7 ga)).turned t9 (by omega)⟩
  have hmB : m ≤ w7.heap.size := by omega
  clear hbox ga hone t9 b9 g7 r7 d6 hbt6 hbt5 NR hm6 hs6 hs7
  generalize w7.heap.size = B at *
  go_loopw [14] (fun i wr => ∃ (j : Nat) (D : Dk) (sv lv wv : Value) (X : Nat → Prop), j ≤ 4 ∧ i = .int .i64 (j : Int) ∧ Nm j D ∧ St wr a m gt B [tv t0, tv t1, tv [120, 0], tv []] sv lv wv D X ∧ Turns (fun q => m ≤ q) w wr) (fun i _ => 4 - (intOf i).toNat)
  case atStart => exact ⟨0, D0, _, _, _, _, Nat.zero_le _, rfl, Z0, S9, T9⟩
  case round =>
    obtain ⟨j, D, sv, lv, wv, X, hj, rfl, P, S, T⟩ := hrel
    by_cases hlt : j < 4
    · obtain ⟨p, hp, hpl⟩ : ∃ p, ([tv t0, tv t1, tv [120, 0], tv []] : List Value)[j]? = some (tv p) ∧ p.length ≤ 1000000 := by
        have : j = 0 ∨ j = 1 ∨ j = 2 ∨ j = 3 := by omega
        rcases this with rfl | rfl | rfl | rfl
        · exact ⟨t0, rfl, by omega⟩
        · exact ⟨t1, rfl, by omega⟩
        · exact ⟨[120, 0], rfl, by decide⟩
        · exact ⟨[], rfl, by decide⟩
      have c0 := S.txt.cell hp
      have b1 := P.weight
      have b2 := P.waits
      have b3 := P.seen
      have b4 := S.dsk.ok.used
      have WR1 := fun u (h : Grows wr u) => write_r D sv lv wv u (fun k => X k ∧ k ≠ B) p [49] (S.ref.later h) (by omega) (by omega) (by rw [P.pow]; omega) hpl (by simp; omega) S.dsk.ok (by rw [P.room]; omega)
      have WD1 := fun (u : World) (X' : Nat → Prop) (A : Option Addr) (h : Dsk u a m X' D) (hX : ∀ k, X' k → k < u.heap.size) (hl : Lies u u.heap.size A (([49] : Byts).map bv)) => write_d a m X' D u p A 1 1 [49] h hX rfl hl (by omega) (by omega) (by rw [P.room]; omega)
      have PN := nm_write P p
      generalize writeD D p [49] = R at *
      obtain ⟨D', r⟩ := R
      simp only at WR1 WD1 PN
      have hji : (j : Int) < 4 := by omega
      have hBl := S.xs B S.xb
      have Gd := (Grows.refl wr).drew
      have ld : ∀ u, Grows wr.drew u → (Instr.loadAt 31 (.pointer (some ⟨B, 0, none⟩))).run Try.prog u = .ok (dV D sv lv wv) u := fun u h => (S.box.later (Grows.trans Gd h)).load Try.underlying31 rfl d_size
      have f0 : ∀ u, Grows wr.drew u → u.cell? ⟨gt, j, none⟩ = some (tv p) := fun u h => hcell_later c0 (Grows.trans Gd h)
      clear c0 b1 b2 b3 b4
      have HPP := Lib.hid hp
      go_wp2_with fail
      refine wp_region_ov 10 (OV.ofS [(0, true), (1, true), (2, true), (3, true), (4, true)] (.both 5 9 (.pure 6 (.pure 7 (.pure 8 (.move 9 (.move 10 (.pure 11 .done)))))) (.move 5 (.pure 6 (.pure 7 (.pure 8 (.move 10 (.pure 11 .done)))))))) (by kernel_rfl) (by kernel_rfl) ?_
      refine ov_of_ord _ _ _ _ ?_
      have hO := Grows.refl wr.drew
      repeat (first | (refine ord_load hO _ _ (by simp only [List.getElem?_cons_succ, List.getElem?_cons_zero]; rfl) (by rfl) 31 (.tmp 13) (by rfl) _ (by rfl) ld ?_; try simp only [Act.put, List.setIfInBounds_toArray, List.set_cons_zero, List.set_cons_succ]) | (refine ord_take hO _ ?_ (by simp only [List.getElem?_cons_succ, List.getElem?_cons_zero]; rfl) (by rfl) ?_ ?_; rotate_left; (· (intro u hu0 hu; (try go_simp); (try with_reducible rfl))); try simp only [Act.put, List.setIfInBounds_toArray, List.set_cons_zero, List.set_cons_succ]) | (refine ord_skip _ (by simp only [List.getElem?_cons_succ, List.getElem?_cons_zero]; rfl) (by rfl) ?_; try simp only [Act.put, List.setIfInBounds_toArray, List.set_cons_zero, List.set_cons_succ]))
      refine ord_done (fun u1 hu1 => ?_)
      refine ov_both (fun u hu => ?_) (fun u hu => ?_)
      · have Gu : Grows wr u := Grows.trans Gd (Grows.trans hu1 hu)
        (refine ov_op _ (by simp only [List.getElem?_cons_succ, List.getElem?_cons_zero]; rfl) (by rfl) (fun K hK => ?_); go_simp)
        refine (WR1 u Gu).mono ?_
        rintro e w5 ⟨sv', wv', rfl, r5, g5⟩
        refine hK.out _ _ ⟨fun _ => g5, ?_⟩
        clear hK K hO ld f0
        repeat (refine ov_pure _ ?_ (by simp only [List.getElem?_cons_succ, List.getElem?_cons_zero]; rfl) (by rfl) ?_ ?_; rotate_left; (· (intro u; (try go_simp); (try with_reducible rfl))); try simp only [Act.put, List.setIfInBounds_toArray, List.set_cons_zero, List.set_cons_succ])
        refine ov_move (fun u5 hu5 => ?_)
        (refine ov_op _ (by simp only [List.getElem?_cons_succ, List.getElem?_cons_zero]; rfl) (by rfl) (fun K hK => ?_); go_simp)
        refine hK.out _ _ ⟨fun _ => grows_alloc _ _, ?_⟩
        clear hK K
        have hgu := Gu.size
        have hg5 := g5.size
        have hgu5 := hu5.size
        have r7 := (r5.cut.mono (ok' := fun k => (X k ∨ wr.heap.size ≤ k) ∧ k ≠ B ∧ k ≠ u5.heap.size) (fun k hk => by
          obtain ⟨hk | hk, h2⟩ := hk
          · exact ⟨.inl hk.1, hk.2, by omega⟩
          · exact ⟨.inr (by omega), by omega, by omega⟩)).later (Grows.trans hu5 (grows_alloc u5 (.cells zeroD.toArray 31)))
        have hbx := Has.new u5 31 zeroD
        have G7 := Grows.trans Gu (Grows.trans g5 (Grows.trans hu5 (grows_alloc u5 (.cells zeroD.toArray 31))))
        have hb15 : wr.heap.size ≤ u5.heap.size := (Grows.trans Gu (Grows.trans g5 hu5)).size
        change wpOV _ _ _ _ _ _ (u5.alloc (.cells zeroD.toArray 31))
        generalize u5.alloc (.cells zeroD.toArray 31) = w7 at *
        generalize u5.heap.size = b15 at *
        have hone := dL_one r7
        unfold dL at hone
        repeat (refine ov_pure _ ?_ (by simp only [List.getElem?_cons_succ, List.getElem?_cons_zero]; rfl) (by rfl) ?_ ?_; rotate_left; (· (intro u; (try go_simp); (try with_reducible rfl))); try simp only [Act.put, List.setIfInBounds_toArray, List.set_cons_zero, List.set_cons_succ])
        refine ov_move (fun u8 hu8 => ?_)
        (refine ov_op _ (by simp only [List.getElem?_cons_succ, List.getElem?_cons_zero]; rfl) (by rfl) (fun K hK => ?_))
        refine op_storeT 31 (.tmp 15) (.tmp 56) rfl b15 _ [rv D'.room, sv', lv, wv', rv D'.power] 5 rfl rfl (hbx.later hu8) rfl rfl d_size hone ?_
        intro w9 b9 t9
        refine hK.out _ _ ⟨fun h => absurd h (by omega), ?_⟩
        clear hK K
        repeat (refine ov_pure _ ?_ (by simp only [List.getElem?_cons_succ, List.getElem?_cons_zero]; rfl) (by rfl) ?_ ?_; rotate_left; (· (intro u; (try go_simp); (try with_reducible rfl))); try simp only [Act.put, List.setIfInBounds_toArray, List.set_cons_zero, List.set_cons_succ])
        refine ov_done (fun w10 hu10 => ?_)
        refine NoPanic.normal ?_
        have G10 : Grows wr w10 := Grows.trans (((Turns.of_grows (S := fun k => wr.heap.size ≤ k) (Grows.trans G7 hu8)).trans (t9.mono fun k _ e => by rw [e]; exact hb15)).grows (fun k h1 h2 => by omega)) hu10
        have r10 := ((r7.later hu8).turned t9 (fun k hk e => hk.2.2 e)).later hu10
        have b10 := b9.later hu10
        have S10 := S.later G10
        have q0 := b10.cell (k := 0) rfl
        have q1 := b10.cell (k := 1) rfl
        have q2 := b10.cell (k := 2) rfl
        have q3 := b10.cell (k := 3) rfl
        have q4 := b10.cell (k := 4) rfl
        clear r7 b9 t9 hbx hu10 hu8 G7
        go_wp2_with (refine wpList_storeT rfl 31 (.tmp 13) (.tmp 58) rfl B _ [rv D'.room, sv', lv, wv', rv D'.power] 5 rfl rfl S10.box rfl rfl d_size hone ?_; intro w12 b12 t12; have c12 := (S10.txt.turned t12 (by omega)).cell hp; have hcv := Lib.run_convert_bytes_const (P := Try.prog) w12 35 5 #[.int .u8 49] 1 1 Try.underlying35 Try.underlying5)
        have r12 := (r10.turned t12 (fun k hk e => hk.2.1 e)).mono (ok' := fun k => (X k ∨ wr.heap.size ≤ k) ∧ k ≠ B) (fun k hk => ⟨hk.1, hk.2.1⟩)
        obtain ⟨d12, r12, x12⟩ := S.gone ((Turns.of_grows G10).trans t12) r12
        have g13 := grows_alloc w12 (.cells (([49] : Byts).map bv).toArray 5 (1, 2))
        have W13 := WD1 _ (Xn wr w12 X) _ (d12.later g13) (fun k hk => Nat.lt_of_lt_of_le hk.2 g13.size) (lies_mark w12 [49] (1, 2))
        clear q0 q1 q2 q3 q4 S10 r10 b10
        refine W13.mono ?_
        rintro e w14 ⟨rfl, d14, t14⟩
        have S14 : St w14 a m gt B [tv t0, tv t1, tv [120, 0], tv []] sv' lv wv' D' (Xn wr w12 X) :=
          ⟨d14, (r12.later g13).turned t14 (fun k hk e => e.2 hk.1), fun k hk => Nat.lt_of_lt_of_le hk.2 (Nat.le_trans g13.size t14.size), x12, (b12.later g13).turned t14 (fun e => e.2 x12), (((S.txt.later G10).turned t12 (by omega)).later g13).turned t14 (fun e => by omega)⟩
        have T14 : Turns (fun q => m ≤ q) w w14 := (((T.trans (Turns.of_grows G10)).trans (t12.mono fun q _ e => by rw [e]; exact hmB)).trans (Turns.of_grows g13)).trans (t14.mono fun q _ e => e.1)
        clear c12 hcv W13 d12 r12 b12
        go_wp2_with fail
        go_roundw
        case rel => exact ⟨j + 1, D', sv', lv, wv', _, by omega, by go_num, PN, S14, T14⟩
        case measure => simp [intOf]; omega
      · have Gu : Grows wr u := Grows.trans Gd (Grows.trans hu1 hu)
        (refine ov_op _ (by simp only [List.getElem?_cons_succ, List.getElem?_cons_zero]; rfl) (by rfl) (fun K hK => ?_); go_simp)
        refine hK.out _ _ ⟨fun _ => grows_alloc _ _, ?_⟩
        clear hK K hO ld f0
        have hbx5 := Has.new u 31 zeroD
        have G5 := Grows.trans Gu (grows_alloc u (.cells zeroD.toArray 31))
        have hb15 : wr.heap.size ≤ u.heap.size := Gu.size
        change wpOV _ _ _ _ _ _ (u.alloc (.cells zeroD.toArray 31))
        generalize u.alloc (.cells zeroD.toArray 31) = w5 at *
        generalize u.heap.size = b15 at *
        refine ov_move (fun u5 hu5 => ?_)
        (refine ov_op _ (by simp only [List.getElem?_cons_succ, List.getElem?_cons_zero]; rfl) (by rfl) (fun K hK => ?_); go_simp)
        refine (WR1 u5 (Grows.trans G5 hu5)).mono ?_
        rintro e w7 ⟨sv', wv', rfl, r5, g7⟩
        refine hK.out _ _ ⟨fun _ => g7, ?_⟩
        clear hK K
        have hbl := (hbx5.later hu5).lt
        have hgu := (Grows.trans G5 hu5).size
        have r7 := r5.mono (ok' := fun k => (X k ∨ wr.heap.size ≤ k) ∧ k ≠ B ∧ k ≠ b15) (fun k hk => by
          rcases hk with hk | hk
          · exact ⟨.inl hk.1, hk.2, by have := S.xs k hk.1; omega⟩
          · exact ⟨.inr (by omega), by omega, by omega⟩)
        have hbx := hbx5.later (Grows.trans hu5 g7)
        have G7 := Grows.trans G5 (Grows.trans hu5 g7)
        have hone := dL_one r7
        unfold dL at hone
        repeat (refine ov_pure _ ?_ (by simp only [List.getElem?_cons_succ, List.getElem?_cons_zero]; rfl) (by rfl) ?_ ?_; rotate_left; (· (intro u; (try go_simp); (try with_reducible rfl))); try simp only [Act.put, List.setIfInBounds_toArray, List.set_cons_zero, List.set_cons_succ])
        refine ov_move (fun u8 hu8 => ?_)
        (refine ov_op _ (by simp only [List.getElem?_cons_succ, List.getElem?_cons_zero]; rfl) (by rfl) (fun K hK => ?_))
        refine op_storeT 31 (.tmp 15) (.tmp 56) rfl b15 _ [rv D'.room, sv', lv, wv', rv D'.power] 5 rfl rfl (hbx.later hu8) rfl rfl d_size hone ?_
        intro w9 b9 t9
        refine hK.out _ _ ⟨fun h => absurd h (by omega), ?_⟩
        clear hK K
        repeat (refine ov_pure _ ?_ (by simp only [List.getElem?_cons_succ, List.getElem?_cons_zero]; rfl) (by rfl) ?_ ?_; rotate_left; (· (intro u; (try go_simp); (try with_reducible rfl))); try simp only [Act.put, List.setIfInBounds_toArray, List.set_cons_zero, List.set_cons_succ])
        refine ov_done (fun w10 hu10 => ?_)
        refine NoPanic.normal ?_
        have G10 : Grows wr w10 := Grows.trans (((Turns.of_grows (S := fun k => wr.heap.size ≤ k) (Grows.trans G7 hu8)).trans (t9.mono fun k _ e => by rw [e]; exact hb15)).grows (fun k h1 h2 => by omega)) hu10
        have r10 := ((r7.later hu8).turned t9 (fun k hk e => hk.2.2 e)).later hu10
        have b10 := b9.later hu10
        have S10 := S.later G10
        have q0 := b10.cell (k := 0) rfl
        have q1 := b10.cell (k := 1) rfl
        have q2 := b10.cell (k := 2) rfl
        have q3 := b10.cell (k := 3) rfl
        have q4 := b10.cell (k := 4) rfl
        clear r7 b9 t9 hbx hu10 hu8 G7
        go_wp2_with (refine wpList_storeT rfl 31 (.tmp 13) (.tmp 58) rfl B _ [rv D'.room, sv', lv, wv', rv D'.power] 5 rfl rfl S10.box rfl rfl d_size hone ?_; intro w12 b12 t12; have c12 := (S10.txt.turned t12 (by omega)).cell hp; have hcv := Lib.run_convert_bytes_const (P := Try.prog) w12 35 5 #[.int .u8 49] 1 1 Try.underlying35 Try.underlying5)
        have r12 := (r10.turned t12 (fun k hk e => hk.2.1 e)).mono (ok' := fun k => (X k ∨ wr.heap.size ≤ k) ∧ k ≠ B) (fun k hk => ⟨hk.1, hk.2.1⟩)
        obtain ⟨d12, r12, x12⟩ := S.gone ((Turns.of_grows G10).trans t12) r12
        have g13 := grows_alloc w12 (.cells (([49] : Byts).map bv).toArray 5 (1, 2))
        have W13 := WD1 _ (Xn wr w12 X) _ (d12.later g13) (fun k hk => Nat.lt_of_lt_of_le hk.2 g13.size) (lies_mark w12 [49] (1, 2))
        clear q0 q1 q2 q3 q4 S10 r10 b10
        refine W13.mono ?_
        rintro e w14 ⟨rfl, d14, t14⟩
        have S14 : St w14 a m gt B [tv t0, tv t1, tv [120, 0], tv []] sv' lv wv' D' (Xn wr w12 X) :=
          ⟨d14, (r12.later g13).turned t14 (fun k hk e => e.2 hk.1), fun k hk => Nat.lt_of_lt_of_le hk.2 (Nat.le_trans g13.size t14.size), x12, (b12.later g13).turned t14 (fun e => e.2 x12), (((S.txt.later G10).turned t12 (by omega)).later g13).turned t14 (fun e => by omega)⟩
        have T14 : Turns (fun q => m ≤ q) w w14 := (((T.trans (Turns.of_grows G10)).trans (t12.mono fun q _ e => by rw [e]; exact hmB)).trans (Turns.of_grows g13)).trans (t14.mono fun q _ e => e.1)
        clear c12 hcv W13 d12 r12 b12
        go_wp2_with fail
        go_roundw
        case rel => exact ⟨j + 1, D', sv', lv, wv', _, by omega, by go_num, PN, S14, T14⟩
        case measure => simp [intOf]; omega
    · obtain rfl : j = 4 := by omega
      have SH5 : ∀ u, Calls Try.prog 16 #[tv pre, .int .i64 5] u fun e w' => e = .returned (tv (pre.take 5)) ∧ Grows u w' := fun u => short_any pre 5 u (by omega)
      obtain ⟨pt, hpt⟩ : ∃ t, t = pre.take 5 := ⟨_, rfl⟩
      rw [← hpt] at SH5
      have hptl : pt.length ≤ 5 := by rw [hpt, List.length_take]; omega
      clear hpt
      obtain ⟨i0, hi0, hz0, hz1, hz2⟩ := info_parts str_info
      have LV := lives12_any
      have n4 : D.seen.length ≤ 4 := P.seen
      have hW4 := P.weight
      obtain ⟨A, c, rfl⟩ := S.ref.seen.form
      have LS := fun u (h : Grows wr u) => list_d a m X D u pt (S.dsk.later h) (by omega)
      have LK := fun u (h : Grows wr u) => like_r D _ lv wv a m X _ u (S.dsk.later h) (S.ref.later h) (by omega) (by omega)
      obtain ⟨N, hNN⟩ : ∃ N, N = D.seen.length := ⟨_, rfl⟩
      have HN := Lib.hid hNN
      rw [← hNN] at n4 LK S
      have hgtB := S.box.lt
      have hwr : w.heap.size ≤ wr.heap.size := T.size
      clear hNN S9 T9
      go_wp2_with fail
      refine (SH5 _).mono ?_
      rintro e w20 ⟨rfl, g20⟩
      have S20 := S.later g20
      have T20 := T.trans (Turns.of_grows (S := fun q => m ≤ q) g20)
      have hw20 := T20.size
      clear S T hgtB
      go_wp2_with fail
      go_loopw [18, 19] (fun v i wq => ∃ k : Nat, k ≤ N ∧ i = .int .i64 (k : Int) ∧ wq.ownsRow w20.heap.size 9 1 v (preF (D.seen.take k) pt).length ((preF (D.seen.take k) pt).map tv) ∧ Grows w20 wq) (fun _ i _ => N - (intOf i).toNat)
      case atStart => exact ⟨0, Nat.zero_le _, rfl, World.ownsRow_nil _ _ _ _, Grows.refl _⟩
      case round =>
        rename World => wq
        obtain ⟨k, hk, rfl, hown, hg⟩ := hrel
        obtain ⟨Aw, cw, rfl, hcw⟩ := own_form hown
        have Sq := S20.later hg
        have b1 := Sq.box.cell (k := 1) rfl
        by_cases hlt : k < N
        · obtain ⟨x, hx⟩ : ∃ x, D.seen[k]? = some x := ⟨_, List.getElem?_eq_getElem (by rw [← HN.out]; exact hlt)⟩
          obtain ⟨gb, rfl, q0, _⟩ := Sq.ref.seen.at_ hx
          have hsn := preF_snoc hx pt
          have hpl := preF_len (D.seen.take k) pt
          have hpk : (preF (D.seen.take k) pt).length ≤ 4 := by rw [List.length_take] at hpl; omega
          obtain ⟨p, b⟩ := x
          simp only at q0 hsn
          have hs1 := size_mk p
          have hs2 := size_mk pt
          have HX := Lib.hid hx
          clear hx hpl
          generalize preF (D.seen.take k) pt = acc at *
          generalize hacc : preF (D.seen.take (k + 1)) pt = acc2 at *
          have HACC := Lib.hid hacc
          clear hacc
          by_cases hlen : pt.length ≤ p.length
          · have d1 : decide ((p.length : Int) ≥ (pt.length : Int)) = true := by simp; omega
            have SHP : ∀ u, Calls Try.prog 16 #[tv p, .int .i64 (pt.length : Int)] u fun e w' => e = .returned (tv (p.take pt.length)) ∧ Grows u w' := fun u => short_any p pt.length u (by omega)
            have e2 : ∀ t, binOp .eql t (tv (p.take pt.length)) (tv pt) = (pure (.bool (p.take pt.length == pt)) : Sem Value) := fun t => run_teq (P := Try.prog) t _ _
            have hpf : prefB p pt = (p.take pt.length == pt) := rfl
            rw [hpf] at hsn
            generalize p.take pt.length = pq at *
            cases hb : (pq == pt) with
            | false =>
              rw [hb] at e2
              rw [hb, if_neg (by exact Bool.false_ne_true)] at hsn
              subst hsn
              clear hb
              go_wp2_with fail
              refine (SHP _).mono ?_
              rintro e w22 ⟨rfl, g22⟩
              go_wp2_with fail
              go_roundw
              case rel => exact ⟨k + 1, by omega, by go_num, by rw [HACC.out]; exact own_later hown g22, Grows.trans hg g22⟩
              case measure => simp [intOf]; omega
            | true =>
              rw [hb] at e2
              rw [hb, if_pos rfl] at hsn
              have hqt : pq = pt := by simpa using hb
              have HSN := Lib.hid hsn
              clear hb hsn hqt
              go_wp2_with fail
              refine (SHP _).mono ?_
              rintro e w22 ⟨rfl, g22⟩
              have b1' := hcell_later b1 g22
              have q0' := hcell_later q0 g22
              have hga := grows_alloc w22 (.cells [tv p].toArray 9)
              have hnew := Lies.new w22 9 [tv p]
              have hown3 := own_later (own_later hown g22) hga
              have G22 := Grows.trans hg (Grows.trans g22 hga)
              have hsz3 := G22.size
              have HSZ := Lib.hid hsz3
              clear hsz3
              go_wp2_with (at_builtin; refine wpList_append_src _ rfl (.tmp 101) (.tmp 108) _ rfl w20.heap.size 9 i0 _ 16 Try.underlying44 hi0 hz0 hz1 hz2 rfl _ acc.length _ rfl hown3 _ _ 1 1 [tv p] rfl rfl hnew (tv_ones [p]) (by unfold maxLen; omega) (by omega) HSZ.out ?_; intro v4 w4 hown4 hg4 hat4; obtain ⟨A4, c4, rfl, hc4⟩ := own_form hown4)
              have G4 := G22.grown hg4 HSZ.out (fun g hg' => own_ge hown g hg')
              go_roundw
              case rel => exact ⟨k + 1, by omega, by go_num, by rw [HACC.out, HSN.out, List.map_append, List.length_append]; exact hown4, G4⟩
              case measure => simp [intOf]; omega
          · have d1 : decide ((p.length : Int) ≥ (pt.length : Int)) = false := by simp; omega
            have hpf : prefB p pt = false := by
              unfold prefB
              rw [List.take_of_length_le (by omega)]
              have : p ≠ pt := fun e => hlen (by rw [e]; exact Nat.le_refl _)
              simpa using this
            rw [hpf, if_neg (by exact Bool.false_ne_true)] at hsn
            subst hsn
            clear hpf
            go_wp2_with fail
            go_roundw
            case rel => exact ⟨k + 1, by omega, by go_num, by rw [HACC.out]; exact hown, hg⟩
            case measure => simp [intOf]; omega
        · obtain rfl : k = N := by omega
          have htk : D.seen.take k = D.seen := by rw [HN.out, List.take_length]
          rw [htk] at hown ⊢
          clear htk
          obtain ⟨A1, c1, e1, hwo⟩ := Texts.of_own rfl hown
          injection e1 with e1 _ e3
          subst e1 e3
          have Gq := Grows.trans g20 hg
          have SM := fun (u : World) (A' : Option Addr) (c' : Nat) (h : Grows wq u) (h1 : Texts u A' (preF D.seen pt).length c' (preF D.seen pt)) => same_any A' _ c' _ Aw _ cw _ u h1 (hwo.later h)
          have hsame : (preF D.seen pt == preF D.seen pt) = true := by simp
          rw [hsame] at SM
          have LSq := LS wq Gq
          have TO := fun (u : World) (v : Value) (base : Nat) (h : u.ownsRow base 9 1 v (preF D.seen pt).length ((preF D.seen pt).map tv)) => Texts.of_own rfl h
          generalize preF D.seen pt = want at *
          go_wp2_with fail
          refine LSq.mono ?_
          rintro e w30 ⟨v30, rfl, h30, g30⟩
          obtain ⟨A3, c3, rfl, x30⟩ := TO _ _ _ h30
          go_wp2_with fail
          refine (SM _ _ _ g30 x30).mono ?_
          rintro e w31 ⟨rfl, g31⟩
          have Gr := Grows.trans g30 g31
          have S31 := Sq.later Gr
          have k0 := S31.box.cell (k := 0) rfl
          have k1 := S31.box.cell (k := 1) rfl
          have k2 := S31.box.cell (k := 2) rfl
          have k3 := S31.box.cell (k := 3) rfl
          have k4 := S31.box.cell (k := 4) rfl
          have ldB := S31.box.load (P := Try.prog) Try.underlying31 rfl d_size
          go_wp2_with fail
          refine (LK _ (Grows.trans Gq Gr)).mono ?_
          rintro e w32 ⟨rfl, g32⟩
          go_wp2_with fail
          refine (LV _).mono ?_
          rintro e w33 ⟨rfl, g33⟩
          go_wp2_with fail
          go_ret
          refine ⟨rfl, ?_⟩
          have TF : Turns (fun q => m ≤ q) w w33 := T20.trans (Turns.of_grows (Grows.trans hg (Grows.trans Gr (Grows.trans g32 g33))))
          have := HWM.out
          exact TF.grows fun q h1 h2 => by omega
end Go.Proofs.Ytfcijeogkgbejaa
