/-
  tree.fieldsMay, formed, Depth, May: they answer fieldsB, allB, deepF, mayOf.
-/
import Derived.Test.YtanofmejokgijaaTrG
namespace Go.Proofs.Ytanofmejokgijaa
open Go.RowKit
set_option linter.unusedVariables false

set_option maxRecDepth 20000 in
set_option maxHeartbeats 2000000 in
theorem fieldsmay_any (ad : Addr) (o : Own) (h : Hang) (ok : Nat → Prop) (w : World) (hr : RecAt w ok (some ad) 0 (nodeCells o h)) (ho : OwnOn w ok o h) :
    Calls Try.prog 61 #[.pointer (some ad)] w fun e w' => e = .returned (.bool (fieldsB o h.nk)) ∧ Grows w w' := by
  have c2 := rec_cell hr (j := 1) rfl
  have c3 := rec_cell hr (j := 2) rfl
  have c4 := rec_cell hr (j := 3) rfl
  have c5 := rec_cell hr (j := 4) rfl
  have c10 := rec_cell hr (j := 9) rfl
  have U1 := upto_any o.mode 4095 w
  have U2 := upto_any o.uid 2147483647 w
  have U3 := upto_any o.gid 2147483647 w
  have U4 := upto_any o.mtime 1099511627776 w
  have A5 := attrsmay_any h.aa h.na h.ca o.attrs ok w ho.alen ho.attrs
  have K6 : ∀ u, Grows w u → Calls Try.prog 81 #[.pointer (some ad)] u fun e w' => e = .returned (.bool (kindB o h.nk)) ∧ Grows u w' := fun u hu => kindmay_any ad o h ok u (rec_later hr hu) ho.dlen
  have K6' := Lib.hid K6
  unfold fieldsB
  generalize upB o.mode 4095 = b1 at *
  generalize upB o.uid 2147483647 = b2 at *
  generalize upB o.gid 2147483647 = b3 at *
  generalize upB o.mtime 1099511627776 = b4 at *
  generalize attrsM o.attrs = b5 at *
  generalize kindB o h.nk = b6 at *
  clear K6 ho hr
  go_enter Try.func61, Try.ntmps61
  go_wp2_with fail
  refine U1.mono ?_
  rintro e w' ⟨rfl, rfl⟩
  cases b1
  · go_wp2
    go_ret
    exact ⟨rfl, Grows.refl _⟩
  go_wp2_with fail
  refine U2.mono ?_
  rintro e w' ⟨rfl, rfl⟩
  cases b2
  · go_wp2
    go_ret
    exact ⟨rfl, Grows.refl _⟩
  go_wp2_with fail
  refine U3.mono ?_
  rintro e w' ⟨rfl, rfl⟩
  cases b3
  · go_wp2
    go_ret
    exact ⟨rfl, Grows.refl _⟩
  go_wp2_with fail
  refine U4.mono ?_
  rintro e w' ⟨rfl, rfl⟩
  cases b4
  · go_wp2
    go_ret
    exact ⟨rfl, Grows.refl _⟩
  go_wp2_with fail
  refine A5.mono ?_
  rintro e w1 ⟨rfl, hg1⟩
  cases b5
  · go_wp2
    go_ret
    exact ⟨rfl, hg1⟩
  go_wp2_with fail
  refine (K6'.out w1 hg1).mono ?_
  rintro e w2 ⟨rfl, hg2⟩
  go_wp2
  go_ret
  exact ⟨rfl, Grows.trans hg1 hg2⟩

set_option maxRecDepth 20000 in
set_option maxHeartbeats 2000000 in
theorem formed1_any (ad : Addr) (d : Nat) (cb : Nat) (g : Bool) (ok : Nat → Prop) (o : Own) (k : Fo) (h : Hang) (w : World) (hr : RecAt w ok (some ad) 0 (nodeCells o h)) (hn : NodeOn w ok o k h) (hb : Has w cb [.bool g]) (hne : ¬ ok cb) (hd : d ≤ 1000000) (hk : lenF k ≤ 1000000) :
    Calls Try.prog 59 #[.pointer (some ad), .int .i64 d, .pointer (some ⟨cb, 0, none⟩)] w fun e w' => ∃ (b : Bool), b = (g && chkN d o k) ∧ e = .returned (if b then .slice h.ak h.nk h.ck else .slice none 0 0) ∧ Has w' cb [.bool b] ∧ Turns (fun x => x = cb) w w' := by
  have hnk : (tops k).length = h.nk := by rw [tops_len]; exact hn.klen
  unfold chkN
  rw [hnk]
  have c0 := hb.cell (k := 0) rfl
  have c1 := rec_cell hr (j := 0) rfl
  have f0 := hb.free 0
  have N1 := name_any o.name w
  have F2 : ∀ u, Grows w u → Calls Try.prog 61 #[.pointer (some ad)] u fun e w' => e = .returned (.bool (fieldsB o h.nk)) ∧ Grows u w' := fun u hu => fieldsmay_any ad o h ok u (rec_later hr hu) (hn.later hu).own
  have R3 : ∀ u, Grows w u → Calls Try.prog 62 #[.pointer (some ad)] u fun e w' => e = .returned (.bool (riseB (tops k))) ∧ Grows u w' := fun u hu => kidsrise_any ad o h k ok u (rec_later hr hu) (hn.later hu) hk
  have T1 : ∀ u, Grows w u → ∀ b, RecAt (u.setCell ⟨cb, 0, none⟩ (.bool b)) ok (some ad) 0 (nodeCells o h) := fun u hu b => (rec_later hr hu).turn (Turns.of_set (S := fun x => x = cb) u _ rfl) (fun x hx e => hne (e ▸ hx))
  have fin : ∀ u b, Grows w u → Has (u.setCell ⟨cb, 0, none⟩ (.bool b)) cb [.bool b] ∧ Turns (fun x => x = cb) w (u.setCell ⟨cb, 0, none⟩ (.bool b)) := fun u b hu => ⟨by have := (hb.later hu).set_ (k := 0) (by simp) (.bool b); simpa using this, (Turns.of_grows hu).trans (Turns.of_set u _ rfl)⟩
  have F2' := Lib.hid F2
  have R3' := Lib.hid R3
  have T1' := Lib.hid T1
  have FIN := Lib.hid fin
  have HB := Lib.hid hb
  generalize nameB o.name = b1 at *
  generalize fieldsB o h.nk = b2 at *
  generalize riseB (tops k) = b3 at *
  clear F2 R3 T1 fin hr hb hnk
  cases g
  · have G0 := Grows.refl w
    have c0b := (FIN.out w false G0).1.cell (k := 0) rfl
    go_enter Try.func59, Try.ntmps59
    go_wp2
    go_ret
    exact ⟨false, by simp, rfl, (FIN.out w false G0).1, (FIN.out w false G0).2⟩
  by_cases hd0 : d = 0
  · subst hd0
    have G0 := Grows.refl w
    go_enter Try.func59, Try.ntmps59
    go_wp2_with fail
    refine (F2'.out w G0).mono ?_
    rintro e w1 ⟨rfl, hg1⟩
    cases b2
    · have c0' := HB.out.later hg1 |>.cell (k := 0) rfl
      have f0' := (HB.out.later hg1).free 0
      have c0b := (FIN.out w1 false hg1).1.cell (k := 0) rfl
      go_wp2
      go_ret
      exact ⟨false, by simp, rfl, (FIN.out w1 false hg1).1, (FIN.out w1 false hg1).2⟩
    go_wp2_with fail
    refine (R3'.out w1 hg1).mono ?_
    rintro e w2 ⟨rfl, hg2'⟩
    have hg2 := Grows.trans hg1 hg2'
    clear hg2' hg1
    cases b3
    · have c0' := HB.out.later hg2 |>.cell (k := 0) rfl
      have f0' := (HB.out.later hg2).free 0
      have c0b := (FIN.out w2 false hg2).1.cell (k := 0) rfl
      go_wp2
      go_ret
      exact ⟨false, by simp, rfl, (FIN.out w2 false hg2).1, (FIN.out w2 false hg2).2⟩
    · have c0' := HB.out.later hg2 |>.cell (k := 0) rfl
      have f0' := (HB.out.later hg2).free 0
      have c0b := (FIN.out w2 true hg2).1.cell (k := 0) rfl
      have c11 := rec_cell (T1'.out w2 hg2 true) (j := 10) rfl
      go_wp2
      go_ret
      exact ⟨true, by simp, rfl, (FIN.out w2 true hg2).1, (FIN.out w2 true hg2).2⟩
  have hdz : ((d : Int) == 0) = false := by simp; omega
  have hdd : decide (d = 0) = false := by simp; omega
  rw [hdd]
  clear hd0 hdd
  go_enter Try.func59, Try.ntmps59
  go_wp2_with fail
  refine N1.mono ?_
  rintro e w0 ⟨rfl, hg0⟩
  cases b1
  · have c0' := HB.out.later hg0 |>.cell (k := 0) rfl
    have f0' := (HB.out.later hg0).free 0
    have c0b := (FIN.out w0 false hg0).1.cell (k := 0) rfl
    go_wp2
    go_ret
    exact ⟨false, by simp, rfl, (FIN.out w0 false hg0).1, (FIN.out w0 false hg0).2⟩
  go_wp2_with fail
  refine (F2'.out w0 hg0).mono ?_
  rintro e w1 ⟨rfl, hg1'⟩
  have hg1 := Grows.trans hg0 hg1'
  clear hg1' hg0
  cases b2
  · have c0' := HB.out.later hg1 |>.cell (k := 0) rfl
    have f0' := (HB.out.later hg1).free 0
    have c0b := (FIN.out w1 false hg1).1.cell (k := 0) rfl
    go_wp2
    go_ret
    exact ⟨false, by simp, rfl, (FIN.out w1 false hg1).1, (FIN.out w1 false hg1).2⟩
  go_wp2_with fail
  refine (R3'.out w1 hg1).mono ?_
  rintro e w2 ⟨rfl, hg2'⟩
  have hg2 := Grows.trans hg1 hg2'
  clear hg2' hg1
  cases b3
  · have c0' := HB.out.later hg2 |>.cell (k := 0) rfl
    have f0' := (HB.out.later hg2).free 0
    have c0b := (FIN.out w2 false hg2).1.cell (k := 0) rfl
    go_wp2
    go_ret
    exact ⟨false, by simp, rfl, (FIN.out w2 false hg2).1, (FIN.out w2 false hg2).2⟩
  · have c0' := HB.out.later hg2 |>.cell (k := 0) rfl
    have f0' := (HB.out.later hg2).free 0
    have c0b := (FIN.out w2 true hg2).1.cell (k := 0) rfl
    have c11 := rec_cell (T1'.out w2 hg2 true) (j := 10) rfl
    go_wp2
    go_ret
    exact ⟨true, by simp, rfl, (FIN.out w2 true hg2).1, (FIN.out w2 true hg2).2⟩
end Go.Proofs.Ytanofmejokgijaa
