/-
  The walk of DiskOwns.
-/
import Derived.Test.YtfcijeogkgbejaaJ4
import Derived.Test.YtfcijeogkgbejaaJ1
import Derived.Laws.BitsAllLaws
namespace Go.Proofs.Ytfcijeogkgbejaa
open Go.RowKit
set_option linter.unusedVariables false
set_option maxRecDepth 20000

theorem fresh_own {w0 w : World} {base n : Nat} {v : Value} {l : Byts} (h : w.ownsRow base 5 1 v n (l.map bv)) (hb : w0.heap.size ≤ base) : Fresh w0 w v l := by
  have hl : l.length = n := by have := h.1; simpa using this
  subst hl
  rcases h.2 with ⟨rfl, h0⟩ | ⟨g, c, cur, rfl, hg, hh, hnc, hm, hs, ht⟩
  · exact .inl ⟨rfl, by simpa using h0⟩
  · have hc : ∀ j u, (l.map bv)[j]? = some u → w.cell? ⟨g, j, none⟩ = some u := fun j u hu => by
      have hj : j < l.length := by have := (List.getElem?_eq_some_iff.1 hu).1; simpa using this
      have := (Lies.of_own h) j u hu
      obtain ⟨ad, e, _, hcl⟩ := this
      injection e with e
      rw [← e, add_plain, Nat.zero_add] at hcl
      exact hcl
    exact .inr ⟨g, c, rfl, hnc, hm, by omega, hc, fun j hj => by simp [World.frozen?, hh]⟩
theorem Fresh.set {w0 w : World} {g c : Nat} {l : Byts} (h : Fresh w0 w (.slice (some ⟨g, 0, none⟩) l.length c) l) {k : Nat} (hk : k < l.length) (z : UInt8) : Fresh w0 (w.setCell ⟨g, k, none⟩ (bv z)) (.slice (some ⟨g, 0, none⟩) l.length c) (l.set k z) := by
  rcases h with ⟨e, rfl⟩ | ⟨g', c', e, h1, h2, h3, h4, h5⟩
  · simp at hk
  · injection e with e1 _ e3
    injection e1 with e1
    injection e1 with e1
    subst e1 e3
    refine .inr ⟨g, c, by rw [List.length_set], by rw [List.length_set]; exact h1, h2, h3, fun j u hu => ?_, fun j hj => ?_⟩
    · rw [List.map_set] at hu
      have hj : j < l.length := by have := (List.getElem?_eq_some_iff.1 hu).1; simpa using this
      have hc := h4 j _ (List.getElem?_eq_getElem (by simpa using hj))
      by_cases hjk : k = j
      · subst hjk
        rw [List.getElem?_set_self (by simpa using hk)] at hu
        injection hu with hu
        subst hu
        exact World.cell?_setCell_same w _ _ hc
      · rw [List.getElem?_set_ne hjk, List.getElem?_eq_getElem (by simpa using hj)] at hu
        injection hu with hu
        subst hu
        rw [World.cell?_setCell_other w _ _ _ (by intro e; injection e with _ e; exact hjk e)]
        exact hc
    · rw [World.frozen?_setCell]
      exact h5 j (by simpa using hj)
theorem Fresh.at_ {w0 w : World} {v : Value} {l : Byts} (h : Fresh w0 w v l) {k : Nat} (hk : k < l.length) : ∃ g c x, v = .slice (some ⟨g, 0, none⟩) l.length c ∧ w0.heap.size ≤ g ∧ g < w.heap.size ∧ l[k]? = some x ∧ w.cell? ⟨g, k, none⟩ = some (bv x) ∧ w.frozen? ⟨g, k, none⟩ = false := by
  rcases h with ⟨rfl, rfl⟩ | ⟨g, c, rfl, h1, h2, h3, h4, h5⟩
  · simp at hk
  · have hx := h4 k (bv l[k]) (by rw [List.getElem?_map, List.getElem?_eq_getElem hk]; rfl)
    exact ⟨g, c, l[k], rfl, h3, World.block_lt_of_cell? w _ hx, List.getElem?_eq_getElem hk, hx, h5 k hk⟩
theorem Fresh.form {w0 w : World} {v : Value} {l : Byts} (h : Fresh w0 w v l) : ∃ A c, v = .slice A l.length c := by
  rcases h with ⟨rfl, rfl⟩ | ⟨g, c, rfl, _⟩
  · exact ⟨none, 0, rfl⟩
  · exact ⟨_, _, rfl⟩
theorem xor_bv (x y : UInt8) : ∃ z : UInt8, bits .xor .u8 (x.toNat : Int) (y.toNat : Int) = (z.toNat : Int) := by
  refine ⟨UInt8.ofNat (x.toNat ^^^ y.toNat), ?_⟩
  have hx := x.toNat_lt
  have hy := y.toNat_lt
  rw [u8_xor_nat _ _ hx hy]
  have : (UInt8.ofNat (x.toNat ^^^ y.toNat)).toNat = x.toNat ^^^ y.toNat := by rw [UInt8.toNat_ofNat']; exact Nat.mod_eq_of_lt (Nat.xor_lt_two_pow (n := 8) hx hy)
  rw [this]
def ownD1 (d : Byts) : Dk := ⟨100, [([97], d)], [], [.wr [97] d], -1⟩
def ownD2 (d : Byts) : Dk := ⟨100, [([97], d)], [([97], d)], [], -1⟩
theorem own_write (d : Byts) (h : d.length ≤ 20) : writeD (newD 100) [97] d = (ownD1 d, 0) := by
  have hn : namedB [97] = true := by decide
  unfold writeD
  rw [if_neg (by rw [hn]; simp), if_neg (by simp [newD]), if_neg (by simp [newD, fUsed, fGet]; omega)]
  rfl

set_option maxHeartbeats 4000000 in
theorem diskowns_walk (A : Option Addr) (n c : Nat) (bs : List UInt8) (y : UInt8) (w : World) (hl : bs.length = n) (hr : Lies w w.heap.size A (bs.map bv)) (hnc : n ≤ c) (hc : c ≤ maxLen) :
    Calls Try.prog 8 #[.slice A n c, bv y] w fun e w' => e = .returned (.bool true) ∧ Below w.heap.size w w' := by
  obtain ⟨d, hd⟩ : ∃ d, d = bs.take 20 := ⟨_, rfl⟩
  have hdl : d.length = min n 20 := by rw [hd, List.length_take, hl, Nat.min_comm]
  have FW := fun (u : World) (hu : Grows w u) => few_any A n c 20 (bs.map bv) u (by simpa using hl) (hr.later hu) (bv_one bs) hnc (by omega) hc
  rw [← List.map_take, ← hd, ← hdl] at FW
  have hd20 : d.length ≤ 20 := by omega
  have N0 := new_d 100 w (by omega)
  have s1 := own_write d hd20
  have s2 : syncD (ownD1 d) = (ownD2 d, 0) := rfl
  have s3 : readD (ownD2 d) [97] = (d, 0) := rfl
  have s4 : restartD (ownD2 d) [] = ownD2 d := rfl
  have q1 : (ownD1 d).weight ≤ 100000000 := by simp [ownD1, Dk.weight, fUsed, dataSum, Chg.data]; omega
  have q2 : (ownD2 d).weight ≤ 100000000 := by simp [ownD2, Dk.weight, fUsed, dataSum]; omega
  have WR := fun (a m : Nat) (X : Nat → Prop) (u : World) (A' : Option Addr) (c' : Nat) (h : Dsk u a m X (newD 100)) (hX : ∀ k, X k → k < u.heap.size) (hl : Lies u u.heap.size A' (d.map bv)) => write_d a m X _ u [97] A' d.length c' d h hX rfl hl (by simp [newD, Dk.weight, fUsed, dataSum]; omega) (by simp [newD]) (by simp [newD])
  have SY := fun (a m : Nat) (X : Nat → Prop) (u : World) (h : Dsk u a m X (ownD1 d)) (hX : ∀ k, X k → k < u.heap.size) => sync_d a m X _ u h hX q1 (by simp [ownD1])
  have RD := fun (a m : Nat) (X : Nat → Prop) (u : World) (h : Dsk u a m X (ownD2 d)) => read_d a m X _ u [97] h q2
  have RS := fun (a m : Nat) (X : Nat → Prop) (u : World) (h : Dsk u a m X (ownD2 d)) (hX : ∀ k, X k → k < u.heap.size) => restart_d a m X _ u none 0 0 [] h hX rfl (Nat.le_refl _) (fun j u hu => by simp at hu) q2 (by simp [ownD2])
  simp only [s1, s2, s3, s4] at WR SY RD RS
  have LV := lives12_any
  generalize newD 100 = D0 at *
  generalize ownD1 d = D1 at *
  generalize ownD2 d = D2 at *
  clear s1 s2 s3 s4 q1 q2 hd
  have HDL := Lib.hid hdl
  clear hdl
  go_enter Try.func8, Try.ntmps8
  go_wp2_with fail
  refine N0.mono ?_
  rintro e w1 ⟨a, rfl, d1, g1⟩
  have hmm := g1.size
  generalize hme : w.heap.size = m at *
  have HM := Lib.hid hme
  clear hme
  go_wp2_with fail
  refine (FW _ (by rw [← HM.out] at *; exact g1)).mono ?_
  rintro e w2 ⟨ov, rfl, ow, g2⟩
  obtain ⟨Ao, co, rfl, hco⟩ := own_form ow
  have FO : Fresh w1 w2 (.slice Ao d.length co) d := fresh_own ow (Nat.le_refl _)
  have d2 := (d1.more (X' := fun k => w1.heap.size ≤ k ∧ k < w2.heap.size) (fun k e => .inr e.1)).later g2
  have hX2 : ∀ k, (w1.heap.size ≤ k ∧ k < w2.heap.size) → k < w2.heap.size := fun k e => e.2
  have Lo := Lies.of_own ow
  go_wp2_with fail
  refine (WR a m _ _ Ao co d2 hX2 Lo).mono ?_
  rintro e w3 ⟨rfl, d3, t3⟩
  have hX3 : ∀ k, (w1.heap.size ≤ k ∧ k < w2.heap.size) → k < w3.heap.size := fun k e => Nat.lt_of_lt_of_le e.2 t3.size
  go_wp2_with fail
  refine (SY a m _ _ d3 hX3).mono ?_
  rintro e w4 ⟨rfl, d4, t4⟩
  have F4 := FO.turned (t3.trans t4) (fun k h1 h2 e => e.2 ⟨h1, h2⟩)
  go_wp2_with fail
  have T4 : Turns (fun q => m ≤ q) w w4 := ((Turns.of_grows (by rw [← HM.out] at *; exact g1)).trans (Turns.of_grows g2)).trans ((t3.mono fun q _ e => e.1).trans (t4.mono fun q _ e => e.1))
  have hAo : ∀ g, Ao = some ⟨g, 0, none⟩ → 0 < d.length → g < w2.heap.size := fun g e h0 => by
    obtain ⟨g', c', x, e1, _, h2, _⟩ := FO.at_ h0
    injection e1 with e1 _ _
    rw [e] at e1
    injection e1 with e1
    injection e1 with e1
    omega
  obtain ⟨L, hL⟩ : ∃ L, L = d.length := ⟨_, rfl⟩
  have HL := Lib.hid hL
  rw [← hL] at F4 hAo hco hd20 ⊢
  have F4' : Fresh w1 w4 (.slice Ao L co) d := F4
  clear ow FO Lo hL F4
  have HX := Lib.hid hX3
  go_loopw [10] (fun i wr => ∃ (k : Nat) (l' : Byts), k ≤ L ∧ i = .int .i64 (k : Int) ∧ Hid (l'.length = L) ∧ Fresh w1 wr (.slice Ao L co) l' ∧ Dsk wr a m (fun k => w1.heap.size ≤ k ∧ k < w2.heap.size) D2 ∧ Turns (fun q => m ≤ q) w wr) (fun i _ => L - (intOf i).toNat)
  case atStart => exact ⟨0, d, Nat.zero_le _, rfl, HL.out.symm, F4', d4, T4⟩
  case round =>
    obtain ⟨k, l', hk, rfl, HLL, F, dr, T⟩ := hrel
    by_cases hlt : k < L
    · obtain ⟨g, c', x, e1, hg1, hg2, hx, hcx, hfx⟩ := F.at_ (k := k) (by rw [HLL.out]; exact hlt)
      injection e1 with e1 _ e3
      subst e1 e3
      obtain ⟨z, hz⟩ := xor_bv x y
      have hgX := hAo g rfl (by omega)
      have Fs : Fresh w1 (wr.setCell ⟨g, k, none⟩ (bv z)) (.slice (some ⟨g, 0, none⟩) L co) (l'.set k z) := by
        have := HLL.out
        subst this
        exact Fresh.set F hlt z
      have ds := dr.turned (Turns.of_set (S := fun q => q = g) (b := g) (o := k) wr (bv z) rfl) (fun q e h => h.2 (by rw [e]; exact ⟨hg1, hgX⟩))
      have Ts : Turns (fun q => m ≤ q) w (wr.setCell ⟨g, k, none⟩ (bv z)) := T.trans (Turns.of_set wr _ (by omega))
      have HZ := Lib.hid hz
      clear hz hx hco
      go_wp2_with fail
      rw [HZ.out]
      exact ⟨⟨k + 1, l'.set k z, by omega, by go_num, by show _ = _; rw [List.length_set]; exact HLL.out, Fs, ds, Ts⟩, by simp [intOf]; omega⟩
    · obtain rfl : k = L := by omega
      have hwr := T.size
      go_wp2_with fail
      refine (RD a m _ _ dr).mono ?_
      rintro e w5 ⟨xv, rfl, FX, g5⟩
      obtain ⟨Ax, cx, rfl⟩ := FX.form
      rw [← HL.out] at FX ⊢
      have d5 := (dr.more (X' := fun q => wr.heap.size ≤ q ∧ q < w5.heap.size) (fun q e => .inr e.1)).later g5
      have T5 := T.trans (Turns.of_grows (S := fun q => m ≤ q) g5)
      have hAx : ∀ g, Ax = some ⟨g, 0, none⟩ → 0 < k → g < w5.heap.size := fun g e h0 => by
        obtain ⟨g', c', x, e1, _, h2, _⟩ := FX.at_ (k := 0) (by rw [← HL.out]; exact h0)
        injection e1 with e1 _ _
        rw [e] at e1
        injection e1 with e1
        injection e1 with e1
        omega
      go_wp2_with fail
      clear hAo F4' HX hX3 hX2 F dr hco
      go_loopw [13] (fun i wr2 => ∃ (j : Nat) (l2 : Byts), j ≤ k ∧ i = .int .i64 (j : Int) ∧ Hid (l2.length = k) ∧ Fresh wr wr2 (.slice Ax k cx) l2 ∧ Dsk wr2 a m (fun q => wr.heap.size ≤ q ∧ q < w5.heap.size) D2 ∧ Turns (fun q => m ≤ q) w wr2) (fun i _ => k - (intOf i).toNat)
      case atStart => exact ⟨0, d, Nat.zero_le _, rfl, HL.out.symm, FX, d5, T5⟩
      case round =>
        rename World => wq
        obtain ⟨j, l2, hj, rfl, HL2, F2, dr2, T2⟩ := hrel
        by_cases hlt2 : j < k
        · obtain ⟨g, c', x, e1, hg1, hg2, hx, hcx, hfx⟩ := F2.at_ (k := j) (by rw [HL2.out]; exact hlt2)
          injection e1 with e1 _ e3
          subst e1 e3
          obtain ⟨z, hz⟩ := xor_bv x y
          have hgX := hAx g rfl (by omega)
          have Fs : Fresh wr (wq.setCell ⟨g, j, none⟩ (bv z)) (.slice (some ⟨g, 0, none⟩) k cx) (l2.set j z) := by
            have := HL2.out
            subst this
            exact Fresh.set F2 hlt2 z
          have ds := dr2.turned (Turns.of_set (S := fun q => q = g) (b := g) (o := j) wq (bv z) rfl) (fun q e h => h.2 (by rw [e]; exact ⟨hg1, hgX⟩))
          have Ts : Turns (fun q => m ≤ q) w (wq.setCell ⟨g, j, none⟩ (bv z)) := T2.trans (Turns.of_set wq _ (by have := T.size; have := HM.out; omega))
          have HZ := Lib.hid hz
          clear hz hx
          go_wp2_with fail
          rw [HZ.out]
          exact ⟨⟨j + 1, l2.set j z, by omega, by go_num, by show _ = _; rw [List.length_set]; exact HL2.out, Fs, ds, Ts⟩, by simp [intOf]; omega⟩
        · obtain rfl : j = k := by omega
          clear hAx FX d5 F2
          go_wp2_with fail
          refine (RD a m _ _ dr2).mono ?_
          rintro e w7 ⟨yv, rfl, FY, g7⟩
          have d7 := (dr2.more (X' := fun q => wq.heap.size ≤ q ∧ q < w7.heap.size) (fun q e => .inr e.1)).later g7
          go_wp2_with fail
          refine (RS a m _ _ d7 (fun q e => e.2)).mono ?_
          rintro e w8 ⟨rfl, d8, t8⟩
          have FY8 := FY.turned t8 (fun q h1 h2 e => e.2 ⟨h1, h2⟩)
          go_wp2_with fail
          refine (RD a m _ _ d8).mono ?_
          rintro e w9 ⟨zv, rfl, FZ, g9⟩
          have T9 : Turns (fun q => m ≤ q) w w9 := ((T2.trans (Turns.of_grows g7)).trans (t8.mono fun q _ e => e.1)).trans (Turns.of_grows g9)
          have G9 : Grows w w9 := T9.grows fun q hq => by have := HM.out; omega
          go_wp2_with fail
          refine (FW _ G9).mono ?_
          rintro e w10 ⟨ov2, rfl, ow2, g10⟩
          have FV : Fresh w9 w10 ov2 d := fresh_own ow2 (Nat.le_refl _)
          have c1 := FV.text
          have c2 := ((FY8.later g9).later g10).text
          have c3 := (FZ.later g10).text
          have e1 : ∀ t, binOp .eql t (tv d) (tv d) = (pure (.bool true) : Sem Value) := fun t => by rw [run_teq (P := Try.prog)]; simp
          go_wp2_with fail
          refine (LV _).mono ?_
          rintro e w11 ⟨rfl, g11⟩
          go_wp2_with fail
          go_ret
          exact ⟨rfl, by have := HM.out; subst this; exact Grows.trans (Grows.trans G9 g10) g11⟩
end Go.Proofs.Ytfcijeogkgbejaa
