/-
  The reference's NameOf, Made, Short, and the layer's example.
-/
import Derived.Test.YtanofmejokgijaaPaF
namespace Go.Proofs.Ytanofmejokgijaa
open Go.RowKit
set_option linter.unusedVariables false

def nameL : List (List UInt8) := [[97], [98], [97, 98], [97, 46, 98], [97, 45], [122], [66], [46, 46, 46], [97, 32, 98], [97, 97, 97, 97, 97, 97, 97, 97, 97, 97, 97, 97, 97, 97, 97, 97, 97, 97, 97, 97, 97, 97, 97, 97]]
def nameOf (z : Int) : List UInt8 := nameL.getD (around z 10) []
theorem nameL_name : ∀ x ∈ nameL, nameB x = true ∧ x.length ≤ 24 := by decide +kernel
theorem nameOf_mem (z : Int) : nameOf z ∈ nameL := by
  have h : around z 10 < nameL.length := around_lt z (by omega)
  unfold nameOf
  rw [List.getD_eq_getElem?_getD, List.getElem?_eq_getElem h]
  exact List.getElem_mem h
theorem nameOf_name (z : Int) : nameB (nameOf z) = true ∧ (nameOf z).length ≤ 24 := nameL_name _ (nameOf_mem z)

set_option maxHeartbeats 400000 in
theorem nameof_any (z : Int) (w : World) (hz : -9223372036854775808 ≤ z ∧ z ≤ 9223372036854775807) :
    Calls Try.prog 63 #[.int .i64 z] w fun e w' => e = .returned (tv (nameOf z)) ∧ Grows w w' := by
  have hlt : around z 10 < 10 := around_lt z (by omega)
  have hr := fun u => around_any z 10 u hz (by omega)
  have hn := Lies.new w 9 [.string ⟨#[97]⟩, .string ⟨#[98]⟩, .string ⟨#[97, 98]⟩, .string ⟨#[97, 46, 98]⟩, .string ⟨#[97, 45]⟩, .string ⟨#[122]⟩, .string ⟨#[66]⟩, .string ⟨#[46, 46, 46]⟩, .string ⟨#[97, 32, 98]⟩, .string ⟨#[97, 97, 97, 97, 97, 97, 97, 97, 97, 97, 97, 97, 97, 97, 97, 97, 97, 97, 97, 97, 97, 97, 97, 97]⟩]
  obtain ⟨k, hk⟩ : ∃ k, k = around z 10 := ⟨_, rfl⟩
  obtain ⟨R, hR⟩ : ∃ R, R = nameOf z := ⟨_, rfl⟩
  rw [← hR]
  unfold nameOf at hR
  rw [← hk] at hr hlt hR
  have hx : (nameL.map tv)[k]? = some (tv R) := by
    have : k < nameL.length := hlt
    rw [List.getElem?_map, hR, List.getD_eq_getElem?_getD, List.getElem?_eq_getElem this]; rfl
  obtain ⟨ad, e, _, cx⟩ := hn.at_ (j := k) (u := tv R) hx
  injection e with e
  subst e
  rw [add_plain, Nat.zero_add] at cx
  have q0 : (0 : Int) ≤ (k : Int) := Int.natCast_nonneg _
  have q1 : (k : Int) < 10 := by omega
  have HR := Lib.hid hr
  clear hn hx hR hk hr
  go_enter Try.func63, Try.ntmps63
  go_wp2_with (go_at_call 15; refine (HR.out _).mono ?_; rintro e w' ⟨rfl, rfl⟩)
  go_ret
  exact ⟨rfl, grows_alloc _ _⟩

theorem join_len {m : Nat} : ∀ ls : List (List UInt8), (∀ x ∈ ls, x.length ≤ m) → (joinOf ls).length ≤ ls.length * (m + 1)
  | [], _ => by simp [joinOf]
  | [x], h => by have := h x (by simp); simp [joinOf]; omega
  | x :: y :: r, h => by
    have h1 := h x (by simp)
    have ih := join_len (y :: r) (fun z hz => h z (by simp at hz ⊢; exact .inr hz))
    rw [join_cons]
    simp only [List.length_append, List.length_cons] at ih ⊢
    have : (r.length + 1 + 1) * (m + 1) = (r.length + 1) * (m + 1) + (m + 1) := by rw [Nat.add_mul (r.length + 1) 1]; omega
    omega
/-- The names of the first so many numbers. -/
def namesOf (zs : List Int) (m : Nat) : List (List UInt8) := (zs.take m).map nameOf
theorem namesOf_name (zs : List Int) (m : Nat) : ∀ x ∈ namesOf zs m, nameB x = true ∧ x.length ≤ 24 := fun x hx => by
  obtain ⟨z, _, rfl⟩ := List.mem_map.1 hx
  exact nameOf_name z
theorem namesOf_len (zs : List Int) (m : Nat) : (namesOf zs m).length ≤ m := by unfold namesOf; simp; omega
theorem namesOf_at {zs : List Int} {k m : Nat} {z : Int} (h : zs[k]? = some z) (hk : k < m) : (namesOf zs m).take k ++ [nameOf z] = (namesOf zs m).take (k + 1) := by
  have : (namesOf zs m)[k]? = some (nameOf z) := by unfold namesOf; rw [List.getElem?_map, List.getElem?_take, if_pos hk, h]; rfl
  rw [take_at this]
theorem namesOf_join (zs : List Int) (m : Nat) : (joinOf (namesOf zs m)).length ≤ m * 25 := by
  have h1 := join_len (m := 24) (namesOf zs m) (fun x hx => (namesOf_name zs m x hx).2)
  have h2 := Nat.mul_le_mul_right 25 (namesOf_len zs m)
  omega
def madeOf (zs : List Int) : List UInt8 := joinOf (namesOf zs 6)

set_option maxHeartbeats 400000 in
theorem short_any (l : List UInt8) (m : Nat) (w : World) (hm : m ≤ 1000000) :
    Calls Try.prog 23 #[tv l, .int .i64 (m : Int)] w fun e w' => e = .returned (tv (l.take m)) ∧ Grows w w' := by
  have hsz := size_mk l
  by_cases h : m < l.length
  · have h' : (m : Int) < (l.length : Int) := by omega
    have ct : ∀ u, (Instr.slice 9 (tv l) none (some (.int .i64 (m : Int))) none).run Try.prog u = .ok (tv (l.take m)) u := fun u => by
      rw [run_slice_string_to_if u 9 _ .i64 (m : Int) Try.underlying9, if_pos ⟨by omega, by rw [size_mk]; omega⟩, tcut]
      rfl
    generalize l.take m = R at *
    go_enter Try.func23, Try.ntmps23
    go_wp2
    go_ret
    exact ⟨rfl, Grows.refl _⟩
  · have h' : ¬ (m : Int) < (l.length : Int) := by omega
    rw [List.take_of_length_le (by omega)]
    go_enter Try.func23, Try.ntmps23
    go_wp2
    go_ret
    exact ⟨rfl, Grows.refl _⟩

end Go.Proofs.Ytanofmejokgijaa
