/-
  Contracts of frame's asTheyWere.
-/
import Derived.Test.YthnjbmaiebiehaaFrB
namespace Go.Proofs.Ythnjbmaiebiehaa
open Go.RowKit
set_option linter.unusedVariables false

/-- What asTheyWere answers. -/
def WOut (o : Option (List UInt8)) (w : World) (e : Ending) (w' : World) : Prop :=
  (∃ b v, o = some b ∧ e = .returned v ∧ w'.ownsRow w.heap.size 5 1 v b.length (b.map bv) ∧ Grows w w') ∨ (o = none ∧ e = .panicked (why 2) ∧ Grows w w')

set_option maxRecDepth 20000 in
set_option maxHeartbeats 4000000 in
theorem were_any (pk : Bool) (A : Option Addr) (m c : Nat) (l : List UInt8) (k s : Nat) (w : World) (hl : l.length = m) (hr : Lies w w.heap.size A (l.map bv)) (hc : m ≤ c) (hm : m ≤ 1000000000) (hk : k < 4294967296) :
    Calls Try.prog 28 #[.agg #[.bool pk, iv k, .slice A m c, uv s]] w fun e w' => WOut (wereOf pk k l) w e w' := by
  have hb0 := Has.new w 48 [.bool pk, iv k, .slice A m c, uv s]
  have hg0 := grows_alloc w (.cells #[.bool pk, iv k, .slice A m c, uv s] 48)
  have hr0 := hr.later hg0
  have f0 := hb0.cell (k := 0) rfl
  have f1 := hb0.cell (k := 1) rfl
  have f2 := hb0.cell (k := 2) rfl
  cases pk with
  | false =>
    go_enter Try.func28, Try.ntmps28
    by_cases hmk : m = k
    · subst hmk
      have HW : Hid (wereOf false m l = some l) := by show _ = _; unfold wereOf; rw [if_neg (by decide), if_pos hl]
      have HL := Lib.hid hl
      go_wp2_with fail
      refine (must_yes 2 _).mono ?_
      rintro e w' ⟨rfl, rfl⟩
      go_wp2_with fail
      refine (clone_any A m c l _ HL.out hr0 (by omega)).mono ?_
      rintro e w1 ⟨v, rfl, hown, hg1⟩
      go_wp2_with fail
      go_ret
      exact .inl ⟨l, _, HW.out, rfl, by rw [HL.out]; exact own_base hown hg0.size, Grows.trans hg0 hg1⟩
    · have HW : Hid (wereOf false k l = none) := by show _ = _; unfold wereOf; rw [if_neg (by decide), if_neg (by omega)]
      have hq : ((m : Int) == (k : Int)) = false := by simp; omega
      go_wp2_with fail
      refine (must_no 2 _).mono ?_
      rintro e w' ⟨rfl, rfl⟩
      exact ⟨rfl, .inr ⟨HW.out, rfl, hg0⟩⟩
  | true =>
    have HW : Hid (wereOf true k l = if (unpackOf l k).2 = 0 ∧ (unpackOf l k).1.length = k then some (unpackOf l k).1 else none) := by show _ = _; unfold wereOf; rw [if_pos rfl]
    go_enter Try.func28, Try.ntmps28
    go_wp2_with fail
    refine (unpack_any A m c l (k : Int) _ hl hr0 hc hm (by omega)).mono ?_
    rintro e w1 ⟨v, rfl, hown, hg1⟩
    have f1' := hcell_later f1 hg1
    have hgf := Grows.trans hg0 hg1
    replace hown := own_base hown hg0.size
    clear f0 f2 hb0 hr0 hr hl hg1
    change World at w1
    obtain ⟨b, er, hu⟩ : ∃ b er, unpackOf l k = (b, er) := ⟨_, _, rfl⟩
    rw [hu] at hown HW
    simp only [hu]
    clear hu
    obtain ⟨ln, hln⟩ : ∃ ln, b.length = ln := ⟨_, rfl⟩
    simp only [hln] at hown HW
    have HLN := Lib.hid hln
    clear hln
    obtain ⟨A', c', rfl, hc'⟩ := own_form hown
    by_cases he : er = 0
    · subst he
      by_cases hk2 : ln = k
      · subst hk2
        go_wp2_with fail
        refine (must_yes 2 _).mono ?_
        rintro e w' ⟨rfl, rfl⟩
        go_wp2_with fail
        refine (must_yes 2 _).mono ?_
        rintro e w' ⟨rfl, rfl⟩
        go_wp2_with fail
        go_ret
        exact .inl ⟨b, _, by rw [HW.out, if_pos (by simp)], rfl, by rw [HLN.out]; exact hown, hgf⟩
      · have hq : ((ln : Int) == (k : Int)) = false := by simp; omega
        go_wp2_with fail
        refine (must_yes 2 _).mono ?_
        rintro e w' ⟨rfl, rfl⟩
        go_wp2_with fail
        refine (must_no 2 _).mono ?_
        rintro e w' ⟨rfl, rfl⟩
        exact ⟨rfl, .inr ⟨by rw [HW.out, if_neg (by simpa using hk2)], rfl, hgf⟩⟩
    · have hq : ((er : Int) == 0) = false := by simp; omega
      go_wp2_with fail
      refine (must_no 2 _).mono ?_
      rintro e w' ⟨rfl, rfl⟩
      exact ⟨rfl, .inr ⟨by rw [HW.out, if_neg (by simp [he])], rfl, hgf⟩⟩
end Go.Proofs.Ythnjbmaiebiehaa
