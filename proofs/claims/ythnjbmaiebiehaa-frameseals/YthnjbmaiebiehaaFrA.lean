/-
  Contracts of frame's small functions: must, what is deferred, putNumber, number; and of bytes.Clone.
-/
import Derived.Test.YthnjbmaiebiehaaCrcD
import Derived.Test.YthnjbmaiebiehaaL5A
import Derived.Defers
import Derived.Recover
import Derived.WalkLawsBesides
namespace Go.Proofs.Ythnjbmaiebiehaa
open Go.RowKit
set_option linter.unusedVariables false

/-- What is given up with an error's number. -/
abbrev why (er : Nat) : List PanicEntry := [{ v := .iface 28 (iv er), recovered := false }]

theorem must_yes (er : Nat) (w : World) : Calls Try.prog 27 #[.bool true, iv er] w fun e w' => e = .returned (.tuple #[]) ∧ w = w' := by
  go_enter Try.func27, Try.ntmps27
  go_wp2
  go_end0
  exact ⟨rfl, rfl⟩
theorem must_no (er : Nat) (w : World) : Calls Try.prog 27 #[.bool false, iv er] w fun e w' => e = .panicked (why er) ∧ w = w' := by
  go_enter Try.func27, Try.ntmps27
  go_wp2
  exact ⟨rfl, rfl, rfl⟩
theorem assert_err (W : World) (v : Value) : (Instr.typeAssert (.iface 28 v) 20 28 false).run Try.prog W = .ok v W := by kernel_rfl

theorem catch_panicking (p : Addr) (x : Int) (er : Nat) (older : List PanicEntry) (w : World) (hc : w.cell? p = some (.int .i64 x)) (hz : w.frozen? p = false) :
    CallsD Try.prog 43 #[.pointer (some p)] (.panicking ({ v := .iface 28 (iv er), recovered := false } :: older)) w fun e u' w' =>
      e = .returned (.tuple #[]) ∧ u' = .panicking ({ v := .iface 28 (iv er), recovered := true } :: older) ∧ w' = w.setCell p (iv er) := by
  refine callsD_of_wpS Try.func43 rfl fun c₀ cs hu => ?_
  apply wpS_seq
  apply wpS_region
  simp [wpOpsS, go_sem, recoverD, hu, Try.ntmps43, Exit.thenS]
  refine wpS_of_wp ?_
  have e1 : #[Value.pointer (some p)] ++ ((Array.replicate 6 undef).setIfInBounds 1 (Value.iface 28 (iv er))).setIfInBounds 0 (Value.iface 28 (iv er)) = #[.pointer (some p), .iface 28 (iv er), .iface 28 (iv er), undef, undef, undef, undef] := rfl
  rw [e1]
  clear e1
  have ha := assert_err w (iv er)
  go_wp2
  simp [bodyPostS, results, Try.results43]
theorem catch_idle (p : Addr) (w : World) :
    CallsD Try.prog 43 #[.pointer (some p)] .returning w fun e u' w' => e = .returned (.tuple #[]) ∧ u' = .returning ∧ w' = w := by
  refine callsD_of_wpS Try.func43 rfl fun c₀ cs hu => ?_
  apply wpS_seq
  apply wpS_region
  simp [wpOpsS, go_sem, recoverD, hu, Try.ntmps43, Exit.thenS]
  refine wpS_of_wp ?_
  have e1 : #[Value.pointer (some p)] ++ ((Array.replicate 6 undef).setIfInBounds 1 Value.nilIface).setIfInBounds 0 Value.nilIface = #[.pointer (some p), .nilIface, .nilIface, undef, undef, undef, undef] := rfl
  rw [e1]
  clear e1
  go_wp2
  cases c₀
  simp_all [bodyPostS, results, Try.results43]

theorem catch_panickingP (p : Addr) (x : Int) (er : Nat) (older : List PanicEntry) (w : World) (hc : w.cell? p = some (.int .i64 x)) (hz : w.frozen? p = false) :
    CallsD Try.prog 47 #[.pointer (some p)] (.panicking ({ v := .iface 28 (iv er), recovered := false } :: older)) w fun e u' w' =>
      e = .returned (.tuple #[]) ∧ u' = .panicking ({ v := .iface 28 (iv er), recovered := true } :: older) ∧ w' = w.setCell p (iv er) := by
  refine callsD_of_wpS Try.func47 rfl fun c₀ cs hu => ?_
  apply wpS_seq
  apply wpS_region
  simp [wpOpsS, go_sem, recoverD, hu, Try.ntmps47, Exit.thenS]
  refine wpS_of_wp ?_
  have e1 : #[Value.pointer (some p)] ++ ((Array.replicate 6 undef).setIfInBounds 1 (Value.iface 28 (iv er))).setIfInBounds 0 (Value.iface 28 (iv er)) = #[.pointer (some p), .iface 28 (iv er), .iface 28 (iv er), undef, undef, undef, undef] := rfl
  rw [e1]
  clear e1
  have ha := assert_err w (iv er)
  go_wp2
  simp [bodyPostS, results, Try.results47]
theorem catch_idleP (p : Addr) (w : World) :
    CallsD Try.prog 47 #[.pointer (some p)] .returning w fun e u' w' => e = .returned (.tuple #[]) ∧ u' = .returning ∧ w' = w := by
  refine callsD_of_wpS Try.func47 rfl fun c₀ cs hu => ?_
  apply wpS_seq
  apply wpS_region
  simp [wpOpsS, go_sem, recoverD, hu, Try.ntmps47, Exit.thenS]
  refine wpS_of_wp ?_
  have e1 : #[Value.pointer (some p)] ++ ((Array.replicate 6 undef).setIfInBounds 1 Value.nilIface).setIfInBounds 0 Value.nilIface = #[.pointer (some p), .nilIface, .nilIface, undef, undef, undef, undef] := rfl
  rw [e1]
  clear e1
  go_wp2
  cases c₀
  simp_all [bodyPostS, results, Try.results47]

set_option maxHeartbeats 1000000 in
theorem putnum_any (v : Value) (base n : Nat) (l : List UInt8) (s : Nat) (w : World) (hs : s < 4294967296) (hown : w.ownsRow base 5 1 v n (l.map bv)) (hbase : base ≤ w.heap.size) (hn : n ≤ 1000000000000) :
    Calls Try.prog 22 #[v, uv s] w fun e w' => ∃ v', e = .returned v' ∧ w'.ownsRow base 5 1 v' (n + 4) ((l ++ four s).map bv) ∧ Below base w w' := by
  obtain ⟨i0, hi0, hz0, hz1, hz2⟩ := info_parts byte_info
  go_enter Try.func22, Try.ntmps22
  go_wp2_with fail
  go_loopw [0, 6] (fun v i wr => ∃ k : Nat, k ≤ 4 ∧ i = .int .i64 k ∧ wr.ownsRow base 5 1 v (n + k) ((l ++ (four s).take k).map bv) ∧ Below base w wr) (fun _ i _ => 4 - (intOf i).toNat)
  case atStart => exact ⟨0, by omega, rfl, by simpa using hown, Below.refl _ _⟩
  case round =>
    clear hown
    obtain ⟨k, hk, rfl, hown, hgr⟩ := hrel
    have hsz := hgr.size
    by_cases hlt : k < 4
    · have HF := Lib.hid (four_take s k hlt)
      have hnew := Lies.new wr 5 [bv (UInt8.ofNat (s / 2 ^ (8 * k)))]
      go_wp2_with (at_builtin; refine wpList_append_src _ rfl (.tmp 9) (.tmp 15) _ rfl base 5 i0 _ 1 Try.underlying22 hi0 hz0 hz1 hz2 rfl _ (n + k) _ rfl (hown.alloc _) _ _ 1 1 [bv (UInt8.ofNat (s / 2 ^ (8 * k)))] rfl rfl hnew (by simp [Value.oneCell']) (by unfold maxLen; omega) (by omega) (by rw [World.size_alloc]; omega) ?_; intro v' w' hown' hg' hat')
      have hb2 : Below base wr w' := ((Below.refl _ wr).alloc (by omega) _).grown hg' (by rw [World.size_alloc]; omega) (own_ge hown)
      rw [show [bv (UInt8.ofNat (s / 2 ^ (8 * k)))] = [UInt8.ofNat (s / 2 ^ (8 * k))].map bv from rfl, ← List.map_append, List.append_assoc, ← HF.out] at hown'
      go_roundw
      case rel => exact ⟨k + 1, by omega, by go_num, hown', Below.trans hgr hb2⟩
      case measure => simp [intOf]; omega
    · obtain rfl : k = 4 := by omega
      go_wp2
      go_ret
      rw [List.take_of_length_le (by rw [four_len]; exact Nat.le_refl _)] at hown
      exact ⟨_, rfl, hown, hgr⟩

set_option maxHeartbeats 1000000 in
theorem fnumber_any (A : Option Addr) (c : Nat) (l : List UInt8) (w : World) (hl : l.length = 4) (hr : Lies w w.heap.size A (l.map bv)) :
    Calls Try.prog 44 #[.slice A 4 c] w fun e w' => e = .returned (uv (numTo l 4)) ∧ w = w' := by
  have HL := Lib.hid hl
  clear hl
  go_enter Try.func44, Try.ntmps44
  go_wp2
  go_loop [3, 5] (fun x i => ∃ k : Nat, k ≤ 4 ∧ i = .int .i64 k ∧ x = uv (numTo l k)) (fun _ i => 4 - (intOf i).toNat)
  case atStart => exact ⟨0, by omega, rfl, rfl⟩
  case round =>
    obtain ⟨k, hk, rfl, rfl⟩ := hrel
    by_cases hlt : k < 4
    · obtain ⟨b, hbk⟩ : ∃ b, l[k]? = some b := ⟨_, List.getElem?_eq_getElem (by rw [HL.out]; exact hlt)⟩
      obtain ⟨ad, rfl, _, cx⟩ := hr.at_ (j := k) (u := bv b) (by rw [List.getElem?_map, hbk]; rfl)
      have HS : Hid (numTo l (k + 1) = numTo l k + b.toNat * 2 ^ (8 * k)) := by show _ = _; rw [numTo, List.getD, hbk]; rfl
      have hx := numTo_lt l k
      clear hbk
      generalize numTo l k = x at *
      have hb8 := b.toNat_lt
      go_wp2
      go_round
      case rel => exact ⟨k + 1, by omega, by go_num, by rw [HS.out, or_place x b.toNat k hlt hx hb8]⟩
      case measure => simp [intOf]; omega
    · obtain rfl : k = 4 := by omega
      go_wp2
      go_ret
      exact ⟨rfl, rfl⟩
theorem fnumber_g (A : Option Addr) (c : Nat) {x : Nat} {l : List UInt8} (hx : Hid (numTo l 4 = x)) (w : World) (hl : l.length = 4) (hr : Lies w w.heap.size A (l.map bv)) :
    Calls Try.prog 44 #[.slice A 4 c] w fun e w' => e = .returned (uv x) ∧ Grows w w' := by
  have h := hx.out
  subst h
  exact (fnumber_any A c l w hl hr).mono fun e w' ⟨he, hw⟩ => ⟨he, by subst hw; exact Grows.refl _⟩

theorem clone_any (A : Option Addr) (n c : Nat) (l : List UInt8) (w : World) (hl : l.length = n) (hr : Lies w w.heap.size A (l.map bv)) (hn : n ≤ 1000000000000) :
    Calls Try.prog 45 #[.slice A n c] w fun e w' => ∃ v, e = .returned v ∧ w'.ownsRow w.heap.size 5 1 v n (l.map bv) ∧ Grows w w' := by
  obtain ⟨i0, hi0, hz0, hz1, hz2⟩ := info_parts byte_info
  cases A with
  | none =>
    have h0 := hr.none_empty
    have h1 : l = [] := by simpa using h0
    subst h1
    obtain rfl : n = 0 := by simpa using hl.symm
    have hq : ∀ u : World, (binOp .eql 22 (.slice none 0 c) (.slice none 0 0)).run Try.prog u = .ok (.bool true) u := fun u => by kernel_rfl
    go_enter Try.func45, Try.ntmps45
    go_wp2
    go_ret
    exact ⟨_, rfl, World.ownsRow_nil _ _ _ _, Grows.refl _⟩
  | some ad =>
    have hrow : (w.alloc (.cells #[] 5)).ownsRow w.heap.size 5 1 (.slice (some ⟨w.heap.size, 0, none⟩) 0 0) 0 [] :=
      ⟨rfl, .inr ⟨w.heap.size, 0, #[], rfl, Nat.le_refl _, heap_alloc_new w _, by omega, by unfold maxLen; omega, rfl, rfl⟩⟩
    have hga := grows_alloc w (.cells #[] 5)
    have hrl := hr.later hga
    have hq : ∀ u : World, (binOp .eql 22 (.slice (some ad) n c) (.slice none 0 0)).run Try.prog u = .ok (.bool false) u := fun u => by kernel_rfl
    go_enter Try.func45, Try.ntmps45
    go_wp2_with (at_builtin; refine wpList_append_src _ rfl (.tmp 5) (.tmp 6) _ rfl w.heap.size 5 i0 _ 1 Try.underlying22 hi0 hz0 hz1 hz2 rfl _ 0 _ rfl hrow _ _ n c (l.map bv) rfl (by rw [List.length_map]; exact hl) hrl (bv_one l) (by unfold maxLen; omega) (by omega) (by rw [World.size_alloc]; omega) ?_; intro v' w' hown' hg' hat')
    have hb2 : Grows w w' := Below.grown hga hg' (by rw [World.size_alloc]; omega) (own_ge hrow)
    rw [Nat.zero_add, List.nil_append] at hown'
    go_ret
    exact ⟨_, rfl, hown', hb2⟩
end Go.Proofs.Ythnjbmaiebiehaa
