/-
  The reference's NameOf, Made, Short, and the layer's example.
-/
import Derived.Test.YtjdgdpofnpajmaaPaF
namespace Go.Proofs.Ytjdgdpofnpajmaa
open Go.RowKit
set_option linter.unusedVariables false

def nameL : List (List UInt8) := [[97], [98], [97, 98], [97, 46, 98], [97, 45], [122], [66], [46, 46, 46], [97, 32, 98], [97, 97, 97, 97, 97, 97, 97, 97, 97, 97, 97, 97, 97, 97, 97, 97, 97, 97, 97, 97, 97, 97, 97, 97]]
def nameOf (z : Int) : List UInt8 := nameL.getD (around z 10) []
theorem nameL_name : ∀ x ∈ nameL, nameB x = true ∧ x.length ≤ 24 := by decide +kernel
theorem nameOf_mem (z : Int) : nameOf z ∈ nameL := by
  have h : around z 10 < nameL.length := around_lt z (by omega)
  unfold nameOf
  rw [List.getD_eq_getElem?_getD, List.getElem?_eq_getElem h]
  exact List.getElem_mem h
theorem nameOf_name (z : Int) : nameB (nameOf z) = true ∧ (nameOf z).length ≤ 24 := nameL_name _ (nameOf_mem z)

set_option maxHeartbeats 400000 in
theorem nameof_any (z : Int) (w : World) (hz : -9223372036854775808 ≤ z ∧ z ≤ 9223372036854775807) :
    Calls Try.prog 14 #[.int .i64 z] w fun e w' => e = .returned (tv (nameOf z)) ∧ Grows w w' := by
  have hlt : around z 10 < 10 := around_lt z (by omega)
  have hr := fun u => around_any z 10 u hz (by omega)
  have hn := Lies.new w 9 [.string ⟨#[97]⟩, .string ⟨#[98]⟩, .string ⟨#[97, 98]⟩, .string ⟨#[97, 46, 98]⟩, .string ⟨#[97, 45]⟩, .string ⟨#[122]⟩, .string ⟨#[66]⟩, .string ⟨#[46, 46, 46]⟩, .string ⟨#[97, 32, 98]⟩, .string ⟨#[97, 97, 97, 97, 97, 97, 97, 97, 97, 97, 97, 97, 97, 97, 97, 97, 97, 97, 97, 97, 97, 97, 97, 97]⟩]
  obtain ⟨k, hk⟩ : ∃ k, k = around z 10 := ⟨_, rfl⟩
  obtain ⟨R, hR⟩ : ∃ R, R = nameOf z := ⟨_, rfl⟩
  rw [← hR]
  unfold nameOf at hR
  rw [← hk] at hr hlt hR
  have hx : (nameL.map tv)[k]? = some (tv R) := by
    have : k < nameL.length := hlt
    rw [List.getElem?_map, hR, List.getD_eq_getElem?_getD, List.getElem?_eq_getElem this]; rfl
  obtain ⟨ad, e, _, cx⟩ := hn.at_ (j := k) (u := tv R) hx
  injection e with e
  subst e
  rw [add_plain, Nat.zero_add] at cx
  have q0 : (0 : Int) ≤ (k : Int) := Int.natCast_nonneg _
  have q1 : (k : Int) < 10 := by omega
  have HR := Lib.hid hr
  clear hn hx hR hk hr
  go_enter Try.func14, Try.ntmps14
  go_wp2_with (go_at_call 9; refine (HR.out _).mono ?_; rintro e w' ⟨rfl, rfl⟩)
  go_ret
  exact ⟨rfl, grows_alloc _ _⟩

theorem join_len {m : Nat} : ∀ ls : List (List UInt8), (∀ x ∈ ls, x.length ≤ m) → (joinOf ls).length ≤ ls.length * (m + 1)
  | [], _ => by simp [joinOf]
  | [x], h => by have := h x (by simp); simp [joinOf]; omega
  | x :: y :: r, h => by
    have h1 := h x (by simp)
    have ih := join_len (y :: r) (fun z hz => h z (by simp at hz ⊢; exact .inr hz))
    rw [join_cons]
    simp only [List.length_append, List.length_cons] at ih ⊢
    have : (r.length + 1 + 1) * (m + 1) = (r.length + 1) * (m + 1) + (m + 1) := by rw [Nat.add_mul (r.length + 1) 1]; omega
    omega
/-- The names of the first so many numbers. -/
def namesOf (zs : List Int) (m : Nat) : List (List UInt8) := (zs.take m).map nameOf
theorem namesOf_name (zs : List Int) (m : Nat) : ∀ x ∈ namesOf zs m, nameB x = true ∧ x.length ≤ 24 := fun x hx => by
  obtain ⟨z, _, rfl⟩ := List.mem_map.1 hx
  exact nameOf_name z
theorem namesOf_len (zs : List Int) (m : Nat) : (namesOf zs m).length ≤ m := by unfold namesOf; simp; omega
theorem namesOf_at {zs : List Int} {k m : Nat} {z : Int} (h : zs[k]? = some z) (hk : k < m) : (namesOf zs m).take k ++ [nameOf z] = (namesOf zs m).take (k + 1) := by
  have : (namesOf zs m)[k]? = some (nameOf z) := by unfold namesOf; rw [List.getElem?_map, List.getElem?_take, if_pos hk, h]; rfl
  rw [take_at this]
theorem namesOf_join (zs : List Int) (m : Nat) : (joinOf (namesOf zs m)).length ≤ m * 25 := by
  have h1 := join_len (m := 24) (namesOf zs m) (fun x hx => (namesOf_name zs m x hx).2)
  have h2 := Nat.mul_le_mul_right 25 (namesOf_len zs m)
  omega
def madeOf (zs : List Int) : List UInt8 := joinOf (namesOf zs 6)

set_option maxHeartbeats 1000000 in
theorem made_any7 (A : Option Addr) (n c : Nat) (zs : List Int) (w : World) (hl : zs.length = n) (hr : Lies w w.heap.size A (zs.map zv)) (hc : n ≤ maxLen) (hz : ∀ z ∈ zs, -9223372036854775808 ≤ z ∧ z ≤ 9223372036854775807) :
    Calls Try.prog 20 #[.slice A n c] w fun e w' => e = .returned (tv (madeOf zs)) ∧ Grows w w' := by
  unfold maxLen at hc
  obtain ⟨i0, hi0, hz0, hz1, hz2⟩ := info_parts str_info
  obtain ⟨N, hN⟩ : ∃ N, N = namesOf zs 6 := ⟨_, rfl⟩
  have hst : ∀ k z, zs[k]? = some z → k < 6 → N.take k ++ [nameOf z] = N.take (k + 1) := fun k z h1 h2 => by rw [hN]; exact namesOf_at h1 h2
  have hNl : N.length = min n 6 := by rw [hN]; unfold namesOf; simp [hl]; omega
  have hjl : (joinOf N).length ≤ 150 := by rw [hN]; exact namesOf_join zs 6
  unfold madeOf
  rw [← hN]
  have HST := Lib.hid hst
  have HNL := Lib.hid hNl
  have HJL := Lib.hid hjl
  have HL := Lib.hid hl
  have HZ := Lib.hid hz
  clear hst hNl hjl hN hl hz
  obtain ⟨R, hR⟩ : ∃ R, R = joinOf N := ⟨_, rfl⟩
  rw [← hR]
  have HR := Lib.hid hR
  clear hR
  go_enter Try.func20, Try.ntmps20
  go_wp2
  go_loopw [3, 4] (fun v i wr => ∃ k : Nat, k ≤ n ∧ k ≤ 6 ∧ i = .int .i64 k ∧ wr.ownsRow w.heap.size 9 1 v k ((N.take k).map tv) ∧ Grows w wr) (fun _ i _ => n - (intOf i).toNat)
  case atStart => exact ⟨0, Nat.zero_le _, Nat.zero_le _, rfl, World.ownsRow_nil _ _ _ _, Grows.refl _⟩
  case round =>
    obtain ⟨k, k1, k2, rfl, hown, hg⟩ := hrel
    by_cases hlt : k < n
    · by_cases hlt6 : k < 6
      · obtain ⟨z, hzk⟩ : ∃ z, zs[k]? = some z := ⟨_, List.getElem?_eq_getElem (by rw [HL.out]; exact hlt)⟩
        obtain ⟨ad, rfl, _, cx⟩ := (hr.later hg).at_ (j := k) (u := zv z) (by rw [List.getElem?_map, hzk]; rfl)
        have HS := Lib.hid (HST.out k z hzk hlt6)
        have NC := Lib.hid (nameof_any z wr (HZ.out z (List.mem_of_getElem? hzk)))
        obtain ⟨x, hx⟩ : ∃ x, x = nameOf z := ⟨_, rfl⟩
        rw [← hx] at HS NC
        clear hzk hx
        have q1 : (k : Int) < (n : Int) := by omega
        have q2 : (k : Int) < 6 := by omega
        go_wp2_with (first
          | (go_at_call 14; refine NC.out.mono ?_; rintro e w1 ⟨rfl, hg1⟩; have hnew := Lies.new w1 9 [tv x]; have hown1 := own_later hown hg1; have hgw := grow_trans hg hg1; have hwb := hgw.size)
          | (at_builtin; refine wpList_append_src _ rfl (.tmp 15) (.tmp 21) _ rfl w.heap.size 9 i0 _ 16 Try.underlying26 hi0 hz0 hz1 hz2 rfl u3 k _ rfl (hown1.alloc _) _ _ 1 1 [tv x] rfl rfl hnew (by simp [Value.oneCell']) (by unfold maxLen; omega) (by omega) (by rw [World.size_alloc]; omega) ?_; intro v' w' hown' hg' hat'))
        have hb3 : Below w.heap.size w w' := (hgw.alloc (by omega) _).grown hg' (by rw [World.size_alloc]; omega) (own_ge hown1)
        rw [show [tv x] = [x].map tv from rfl, ← List.map_append, HS.out] at hown'
        go_roundw
        case rel => exact ⟨k + 1, by omega, by omega, by go_num, hown', hb3⟩
        case measure => simp [intOf]; omega
      · obtain rfl : k = 6 := by omega
        have hE : N.take 6 = N := List.take_of_length_le (by rw [HNL.out]; omega)
        rw [hE] at hown
        obtain ⟨A', c', rfl, ht⟩ := Texts.of_own (by rw [HNL.out]; omega) hown
        have HC := Lib.hid (rjoin_any A' 6 c' N wr ht (by have := HJL.out; omega))
        rw [← HR.out] at HC
        clear hE hown
        have q1 : (6 : Int) < (n : Int) := by omega
        go_wp2_with (go_at_call 15; refine HC.out.mono ?_; rintro e w1 ⟨rfl, hg1⟩)
        go_ret
        exact ⟨rfl, grow_trans hg hg1⟩
    · obtain rfl : k = n := by omega
      have hE : N.take k = N := List.take_of_length_le (by rw [HNL.out]; omega)
      rw [hE] at hown
      obtain ⟨A', c', rfl, ht⟩ := Texts.of_own (by rw [HNL.out]; omega) hown
      have HC := Lib.hid (rjoin_any A' k c' N wr ht (by have := HJL.out; omega))
      rw [← HR.out] at HC
      clear hE hown
      go_wp2_with (go_at_call 15; refine HC.out.mono ?_; rintro e w1 ⟨rfl, hg1⟩)
      go_ret
      exact ⟨rfl, grow_trans hg hg1⟩

set_option maxHeartbeats 400000 in
theorem short_any (l : List UInt8) (m : Nat) (w : World) (hm : m ≤ 1000000) :
    Calls Try.prog 10 #[tv l, .int .i64 (m : Int)] w fun e w' => e = .returned (tv (l.take m)) ∧ Grows w w' := by
  have hsz := size_mk l
  by_cases h : m < l.length
  · have h' : (m : Int) < (l.length : Int) := by omega
    have ct : ∀ u, (Instr.slice 9 (tv l) none (some (.int .i64 (m : Int))) none).run Try.prog u = .ok (tv (l.take m)) u := fun u => by
      rw [run_slice_string_to_if u 9 _ .i64 (m : Int) Try.underlying9, if_pos ⟨by omega, by rw [size_mk]; omega⟩, tcut]
      rfl
    generalize l.take m = R at *
    go_enter Try.func10, Try.ntmps10
    go_wp2
    go_ret
    exact ⟨rfl, Grows.refl _⟩
  · have h' : ¬ (m : Int) < (l.length : Int) := by omega
    rw [List.take_of_length_le (by omega)]
    go_enter Try.func10, Try.ntmps10
    go_wp2
    go_ret
    exact ⟨rfl, Grows.refl _⟩

set_option maxHeartbeats 400000 in
theorem lives7 (w : World) : Calls Try.prog 13 #[] w fun e w' => e = .returned (.bool true) ∧ Grows w w' := by
  have hc := compare_any [97, 47, 98] [97, 46, 98] w (by simp) (by simp)
  rw [show compareOf [97, 47, 98] [97, 46, 98] = -1 from by decide +kernel] at hc
  have hn := fun u => name_any [97, 46, 98] u
  rw [show nameB [97, 46, 98] = true from by decide +kernel] at hn
  have hj := fun u : World => join_any (some ⟨u.heap.size, 0, none⟩) 2 2 [[97], [98]] (u.alloc (.cells #[.string ⟨#[97]⟩, .string ⟨#[98]⟩] 9)) ⟨rfl, Nat.le_refl _, by unfold maxLen; omega, by rw [World.size_alloc]; exact Lies.new u 9 [tv [97], tv [98]], .inr ⟨_, _, rfl⟩⟩ (by omega) (by decide)
  rw [show joinOf [[97], [98]] = [97, 47, 98] from by decide +kernel] at hj
  have HC := Lib.hid hc
  have HN := Lib.hid hn
  have HJ := Lib.hid hj
  clear hc hn hj
  go_enter Try.func13, Try.ntmps13
  go_wp2_with (first
    | (go_at_call 21; refine HC.out.mono ?_; rintro e w1 ⟨rfl, hg1⟩)
    | (go_at_call 11; refine (HN.out _).mono ?_; rintro e w2 ⟨rfl, hg2⟩)
    | (go_at_call 19; refine (HJ.out _).mono ?_; rintro e w3 ⟨rfl, hg3⟩))
  go_ret
  exact ⟨rfl, grow_trans hg1 (grow_trans hg2 (grow_trans (grows_alloc _ _) hg3))⟩
end Go.Proofs.Ytjdgdpofnpajmaa
