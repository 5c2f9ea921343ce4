/-
  tree.all, whatever function is handed to it: an invariant over how many have been asked.
-/
import Derived.Test.YtanofmejokgijaaThR
import Derived.Test.YtanofmejokgijaaRAro
namespace Go.Proofs.Ytanofmejokgijaa
open Go.RowKit
set_option linter.unusedVariables false

theorem allA_size : (Try.prog.info? 91).map (·.size) = some 2 := by kernel_rfl
set_option maxRecDepth 20000 in
set_option maxHeartbeats 1000000 in
theorem allA_any (q : FuncId) (cap : Array Value) (hq : ∀ (x y : Value) (w : World), (callFunc q (#[x, y] ++ cap)).run Try.prog w = .ok (.enter q (#[x, y] ++ cap)) w)
    (J F : Nat → World → Prop) (A : Option Addr) (n c : Nat) (w : World) (hn : n ≤ 1000000000) (hA : 0 < n → ∃ ad, A = some ad)
    (hholds : ∀ i ad u, i < n → A = some ad → J i u → Calls Try.prog q (#[.int .i64 (i : Nat), .pointer (some (ad.add (i * 2)))] ++ cap) u fun e u' => (e = .returned (.bool true) ∧ J (i + 1) u') ∨ (e = .returned (.bool false) ∧ F i u'))
    (h0 : J 0 w) :
    Calls Try.prog 95 #[.slice A n c, .func (.func q) #[] cap] w fun e w' => (e = .returned (.bool true) ∧ J n w') ∨ (e = .returned (.bool false) ∧ ∃ i, i < n ∧ F i w') := by
  go_enter Try.func95, Try.ntmps95
  go_wp2
  go_loopw [8] (fun i wr => ∃ k : Nat, k ≤ n ∧ i = .int .i64 k ∧ J k wr) (fun i _ => n - (intOf i).toNat)
  case atStart => exact ⟨0, Nat.zero_le _, rfl, h0⟩
  case round =>
    obtain ⟨k, hk, rfl, hj⟩ := hrel
    by_cases hlt : k < n
    · have hd : decide ((k : Int) < (n : Int)) = true := by simp; omega
      obtain ⟨ad, rfl⟩ := hA (by omega)
      have S := Lib.hid (hholds k ad wr hlt rfl hj)
      clear hj
      go_wp2
      refine S.out.mono ?_
      rintro e u' (⟨rfl, hj⟩ | ⟨rfl, hf⟩)
      · go_wp2
        go_roundw
        case rel => exact ⟨k + 1, by omega, by go_num, hj⟩
        case measure => simp [intOf]; omega
      · go_wp2
        go_ret
        exact .inr ⟨rfl, k, hlt, hf⟩
    · obtain rfl : k = n := by omega
      go_wp2
      go_ret
      exact .inl ⟨rfl, hj⟩

theorem allN_size : (Try.prog.info? 28).map (·.size) = some 12 := by kernel_rfl
set_option maxRecDepth 20000 in
set_option maxHeartbeats 1000000 in
theorem allN_any (q : FuncId) (cap : Array Value) (hq : ∀ (x y : Value) (w : World), (callFunc q (#[x, y] ++ cap)).run Try.prog w = .ok (.enter q (#[x, y] ++ cap)) w)
    (J F : Nat → World → Prop) (A : Option Addr) (n c : Nat) (w : World) (hn : n ≤ 1000000000) (hA : 0 < n → ∃ ad, A = some ad)
    (hholds : ∀ i ad u, i < n → A = some ad → J i u → Calls Try.prog q (#[.int .i64 (i : Nat), .pointer (some (ad.add (i * 12)))] ++ cap) u fun e u' => (e = .returned (.bool true) ∧ J (i + 1) u') ∨ (e = .returned (.bool false) ∧ F i u'))
    (h0 : J 0 w) :
    Calls Try.prog 101 #[.slice A n c, .func (.func q) #[] cap] w fun e w' => (e = .returned (.bool true) ∧ J n w') ∨ (e = .returned (.bool false) ∧ ∃ i, i < n ∧ F i w') := by
  go_enter Try.func101, Try.ntmps101
  go_wp2
  go_loopw [8] (fun i wr => ∃ k : Nat, k ≤ n ∧ i = .int .i64 k ∧ J k wr) (fun i _ => n - (intOf i).toNat)
  case atStart => exact ⟨0, Nat.zero_le _, rfl, h0⟩
  case round =>
    obtain ⟨k, hk, rfl, hj⟩ := hrel
    by_cases hlt : k < n
    · have hd : decide ((k : Int) < (n : Int)) = true := by simp; omega
      obtain ⟨ad, rfl⟩ := hA (by omega)
      have S := Lib.hid (hholds k ad wr hlt rfl hj)
      clear hj
      go_wp2
      refine S.out.mono ?_
      rintro e u' (⟨rfl, hj⟩ | ⟨rfl, hf⟩)
      · go_wp2
        go_roundw
        case rel => exact ⟨k + 1, by omega, by go_num, hj⟩
        case measure => simp [intOf]; omega
      · go_wp2
        go_ret
        exact .inr ⟨rfl, k, hlt, hf⟩
    · obtain rfl : k = n := by omega
      go_wp2
      go_ret
      exact .inl ⟨rfl, hj⟩

theorem allE__size : (Try.prog.info? 43).map (·.size) = some 13 := by kernel_rfl
set_option maxRecDepth 20000 in
set_option maxHeartbeats 1000000 in
theorem allE__any (q : FuncId) (cap : Array Value) (hq : ∀ (x y : Value) (w : World), (callFunc q (#[x, y] ++ cap)).run Try.prog w = .ok (.enter q (#[x, y] ++ cap)) w)
    (J F : Nat → World → Prop) (A : Option Addr) (n c : Nat) (w : World) (hn : n ≤ 1000000000) (hA : 0 < n → ∃ ad, A = some ad)
    (hholds : ∀ i ad u, i < n → A = some ad → J i u → Calls Try.prog q (#[.int .i64 (i : Nat), .pointer (some (ad.add (i * 13)))] ++ cap) u fun e u' => (e = .returned (.bool true) ∧ J (i + 1) u') ∨ (e = .returned (.bool false) ∧ F i u'))
    (h0 : J 0 w) :
    Calls Try.prog 69 #[.slice A n c, .func (.func q) #[] cap] w fun e w' => (e = .returned (.bool true) ∧ J n w') ∨ (e = .returned (.bool false) ∧ ∃ i, i < n ∧ F i w') := by
  go_enter Try.func69, Try.ntmps69
  go_wp2
  go_loopw [8] (fun i wr => ∃ k : Nat, k ≤ n ∧ i = .int .i64 k ∧ J k wr) (fun i _ => n - (intOf i).toNat)
  case atStart => exact ⟨0, Nat.zero_le _, rfl, h0⟩
  case round =>
    obtain ⟨k, hk, rfl, hj⟩ := hrel
    by_cases hlt : k < n
    · have hd : decide ((k : Int) < (n : Int)) = true := by simp; omega
      obtain ⟨ad, rfl⟩ := hA (by omega)
      have S := Lib.hid (hholds k ad wr hlt rfl hj)
      clear hj
      go_wp2
      refine S.out.mono ?_
      rintro e u' (⟨rfl, hj⟩ | ⟨rfl, hf⟩)
      · go_wp2
        go_roundw
        case rel => exact ⟨k + 1, by omega, by go_num, hj⟩
        case measure => simp [intOf]; omega
      · go_wp2
        go_ret
        exact .inr ⟨rfl, k, hlt, hf⟩
    · obtain rfl : k = n := by omega
      go_wp2
      go_ret
      exact .inl ⟨rfl, hj⟩
end Go.Proofs.Ytanofmejokgijaa
