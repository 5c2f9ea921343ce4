/-
  Contracts, joined (FrM FrA FrG FrB FrC FrD FrE).
-/
import Derived.Test.YtbcldknecdbemaaDoorP3
import Derived.Test.YtbcldknecdbemaaDoorP4
import Derived.Test.YtbcldknecdbemaaDoorP5
import Derived.Defers
import Derived.Recover
import Derived.WalkLawsBesides

/-
  A chunk's frame, as functions of lists (of no program): what is sealed, what is opened, and that one is opened as it was.
-/
namespace Go.Proofs.YtbcldknecdbemaaDoor
open Go.RowKit
set_option linter.unusedVariables false
set_option maxRecDepth 20000

def formB (f : List UInt8) : Bool := decide (10 ≤ f.length) && (f.getD 0 0 == 76 && (f.getD 1 0 == 0 || f.getD 1 0 == 1))
def pkB (f : List UInt8) : Bool := f.getD 1 0 == 1
def toldN (f : List UInt8) : Nat := numTo ((f.drop 2).take 4) 4
def keptL (f : List UInt8) : List UInt8 := (f.drop 6).take (f.length - 10)
def sumN (f : List UInt8) : Nat := numTo (f.drop (f.length - 4)) 4
/-- The bytes that are kept, as they were. -/
def wereOf (pk : Bool) (k : Nat) (l : List UInt8) : Option (List UInt8) :=
  if pk = true then (if (unpackOf l k).2 = 0 ∧ (unpackOf l k).1.length = k then some (unpackOf l k).1 else none) else if l.length = k then some l else none
def sumOf (s : Nat) : Option (List UInt8) → List UInt8 × Nat
  | none => ([], 2)
  | some b => if crcOf b = s then (b, 0) else ([], 7)
def openOf (f : List UInt8) (most : Int) : List UInt8 × Nat :=
  if formB f = false then ([], 2) else if most < (toldN f : Int) then ([], 3) else sumOf (sumN f) (wereOf (pkB f) (toldN f) (keptL f))
def frameOf (t : UInt8) (k : Nat) (mid : List UInt8) (s : Nat) : List UInt8 := [76, t] ++ fourC k ++ mid ++ fourC s
def sealOf (b : List UInt8) : List UInt8 := if (packOf b).length < b.length then frameOf 1 b.length (packOf b) (crcOf b) else frameOf 0 b.length b (crcOf b)

theorem four_eq (s : Nat) : fourC s = [UInt8.ofNat s, UInt8.ofNat (s / 256), UInt8.ofNat (s / 65536), UInt8.ofNat (s / 16777216)] := by simp [fourC, List.range, List.range.loop]
theorem num_four (s : Nat) (h : s < 4294967296) : numTo (fourC s) 4 = s := (num_inj (fourC s) s (four_len s) h).2 rfl
theorem toldN_lt (f : List UInt8) : toldN f < 4294967296 := numTo_lt _ 4
theorem sumN_lt (f : List UInt8) : sumN f < 4294967296 := numTo_lt _ 4
theorem keptL_len {f : List UInt8} {m : Nat} (h : f.length = m + 10) : (keptL f).length = m := by unfold keptL; rw [List.length_take, List.length_drop]; omega

section
variable (t : UInt8) (k : Nat) (mid : List UInt8) (s : Nat)
theorem frame_cons : frameOf t k mid s = 76 :: t :: UInt8.ofNat k :: UInt8.ofNat (k / 256) :: UInt8.ofNat (k / 65536) :: UInt8.ofNat (k / 16777216) :: (mid ++ fourC s) := by
  unfold frameOf; rw [four_eq k]; simp
theorem frame_len : (frameOf t k mid s).length = mid.length + 10 := by rw [frame_cons]; simp [four_len]
theorem frame_form (h : t = 0 ∨ t = 1) : formB (frameOf t k mid s) = true := by
  unfold formB
  rw [frame_len, frame_cons]
  rcases h with rfl | rfl <;> simp
theorem frame_pk : pkB (frameOf t k mid s) = (t == 1) := by unfold pkB; rw [frame_cons]; rfl
theorem frame_told (h : k < 4294967296) : toldN (frameOf t k mid s) = k := by
  unfold toldN
  rw [frame_cons]
  have : (List.take 4 (List.drop 2 (76 :: t :: UInt8.ofNat k :: UInt8.ofNat (k / 256) :: UInt8.ofNat (k / 65536) :: UInt8.ofNat (k / 16777216) :: (mid ++ fourC s)))) = fourC k := by rw [four_eq k]; rfl
  rw [this]
  exact num_four k h
theorem frame_kept : keptL (frameOf t k mid s) = mid := by
  unfold keptL
  rw [frame_len, frame_cons]
  show List.take _ (mid ++ fourC s) = mid
  rw [show mid.length + 10 - 10 = mid.length by omega, List.take_left]
theorem frame_sum (h : s < 4294967296) : sumN (frameOf t k mid s) = s := by
  unfold sumN
  rw [frame_len, show mid.length + 10 - 4 = mid.length + 6 by omega, frame_cons]
  show numTo (List.drop mid.length (mid ++ fourC s)) 4 = s
  rw [List.drop_left]
  exact num_four s h
end
theorem crcOf_lt (b : List UInt8) : crcOf b < 4294967296 := cmore_lt (s := 0) (by omega) b

/-- A frame, however its bytes are kept, is opened. -/
theorem open_frame (t : UInt8) (b mid : List UInt8) (most : Int) (ht : t = 0 ∨ t = 1) (hb : b.length < 4294967296) (hm : wereOf (t == 1) b.length mid = some b) :
    openOf (frameOf t b.length mid (crcOf b)) most = if most < (b.length : Int) then ([], 3) else (b, 0) := by
  unfold openOf
  rw [frame_form _ _ _ _ ht, frame_told _ _ _ _ hb, frame_pk, frame_kept, frame_sum _ _ _ _ (crcOf_lt b), hm]
  simp [sumOf]
theorem were_plain (b : List UInt8) : wereOf ((0 : UInt8) == 1) b.length b = some b := by unfold wereOf; rw [if_neg (by decide), if_pos rfl]
theorem were_packed {b p : List UInt8} (h : unpackOf p b.length = (b, 0)) : wereOf ((1 : UInt8) == 1) b.length p = some b := by
  unfold wereOf
  rw [if_pos (by decide), h, if_pos ⟨rfl, rfl⟩]
theorem unpack_own (b : List UInt8) : unpackOf (packOf b) b.length = (b, 0) := by rw [unpack_pack b _ (by omega), if_pos (Int.le_refl _)]
theorem open_seal (b : List UInt8) (most : Int) (hb : b.length < 4294967296) : openOf (sealOf b) most = if most < (b.length : Int) then ([], 3) else (b, 0) := by
  unfold sealOf
  split
  · exact open_frame 1 b _ most (.inr rfl) hb (were_packed (unpack_own b))
  · exact open_frame 0 b _ most (.inl rfl) hb (were_plain b)
theorem seal_form (b : List UInt8) : formB (sealOf b) = true := by
  unfold sealOf
  split
  · exact frame_form _ _ _ _ (.inr rfl)
  · exact frame_form _ _ _ _ (.inl rfl)
theorem seal_told (b : List UInt8) (hb : b.length < 4294967296) : toldN (sealOf b) = b.length := by
  unfold sealOf
  split <;> exact frame_told _ _ _ _ hb
theorem seal_len (b : List UInt8) : (sealOf b).length ≤ b.length + 10 ∧ 10 ≤ (sealOf b).length ∧ pkB (sealOf b) = decide ((sealOf b).length < b.length + 10) := by
  unfold sealOf
  split
  · rename_i h
    rw [frame_len, frame_pk]
    exact ⟨by omega, by omega, by rw [decide_eq_true (by omega)]; rfl⟩
  · rw [frame_len, frame_pk]
    exact ⟨by omega, by omega, by rw [decide_eq_false (by omega)]; rfl⟩
theorem seal_nil : sealOf [] = [76, 0, 0, 0, 0, 0, 0, 0, 0, 0] := by
  unfold sealOf
  rw [if_neg (by simp), frame_cons]
  decide
theorem openOf_nil {f : List UInt8} {most : Int} (h : (openOf f most).2 ≠ 0) : (openOf f most).1 = [] := by
  unfold openOf at *
  split
  · rfl
  · rename_i h1
    rw [if_neg h1] at h
    split
    · rfl
    · rename_i h2
      rw [if_neg h2] at h
      unfold sumOf at *
      split
      · rfl
      · rename_i b hb
        rw [hb] at h
        simp only [] at h
        split
        · rename_i h3; rw [if_pos h3] at h; exact absurd rfl h
        · rfl
end Go.Proofs.YtbcldknecdbemaaDoor

/-
  Contracts of frame's small functions: must, what is deferred, putNumber, number; and of bytes.Clone.
-/
namespace Go.Proofs.YtbcldknecdbemaaDoor
open Go.RowKit
set_option linter.unusedVariables false
set_option maxRecDepth 20000

/-- What is given up with an error's number. -/
abbrev why (er : Nat) : List PanicEntry := [{ v := .iface 38 (iv er), recovered := false }]

theorem must_yes (er : Nat) (w : World) : Calls Tryd.prog 106 #[.bool true, iv er] w fun e w' => e = .returned (.tuple #[]) ∧ w = w' := by
  go_enter Tryd.func106, Tryd.ntmps106
  go_wp2
  go_end0
  exact ⟨rfl, rfl⟩
theorem must_no (er : Nat) (w : World) : Calls Tryd.prog 106 #[.bool false, iv er] w fun e w' => e = .panicked (why er) ∧ w = w' := by
  go_enter Tryd.func106, Tryd.ntmps106
  go_wp2
  exact ⟨rfl, rfl, rfl⟩
theorem assert_err (W : World) (v : Value) : (Instr.typeAssert (.iface 38 v) 20 38 false).run Tryd.prog W = .ok v W := by kernel_rfl

theorem catch_panicking (p : Addr) (x : Int) (er : Nat) (older : List PanicEntry) (w : World) (hc : w.cell? p = some (.int .i64 x)) (hz : w.frozen? p = false) :
    CallsD Tryd.prog 132 #[.pointer (some p)] (.panicking ({ v := .iface 38 (iv er), recovered := false } :: older)) w fun e u' w' =>
      e = .returned (.tuple #[]) ∧ u' = .panicking ({ v := .iface 38 (iv er), recovered := true } :: older) ∧ w' = w.setCell p (iv er) := by
  refine callsD_of_wpS Tryd.func132 rfl fun c₀ cs hu => ?_
  apply wpS_seq
  apply wpS_region
  simp [wpOpsS, go_sem, recoverD, hu, Tryd.ntmps132, Exit.thenS]
  refine wpS_of_wp ?_
  have e1 : #[Value.pointer (some p)] ++ ((Array.replicate 6 undef).setIfInBounds 1 (Value.iface 38 (iv er))).setIfInBounds 0 (Value.iface 38 (iv er)) = #[.pointer (some p), .iface 38 (iv er), .iface 38 (iv er), undef, undef, undef, undef] := rfl
  rw [e1]
  clear e1
  have ha := assert_err w (iv er)
  go_wp2
  simp [bodyPostS, results, Tryd.results132]
theorem catch_idle (p : Addr) (w : World) :
    CallsD Tryd.prog 132 #[.pointer (some p)] .returning w fun e u' w' => e = .returned (.tuple #[]) ∧ u' = .returning ∧ w' = w := by
  refine callsD_of_wpS Tryd.func132 rfl fun c₀ cs hu => ?_
  apply wpS_seq
  apply wpS_region
  simp [wpOpsS, go_sem, recoverD, hu, Tryd.ntmps132, Exit.thenS]
  refine wpS_of_wp ?_
  have e1 : #[Value.pointer (some p)] ++ ((Array.replicate 6 undef).setIfInBounds 1 Value.nilIface).setIfInBounds 0 Value.nilIface = #[.pointer (some p), .nilIface, .nilIface, undef, undef, undef, undef] := rfl
  rw [e1]
  clear e1
  go_wp2
  cases c₀
  simp_all [bodyPostS, results, Tryd.results132]

set_option maxHeartbeats 1000000 in
theorem putnum_any (v : Value) (base n : Nat) (l : List UInt8) (s : Nat) (w : World) (hs : s < 4294967296) (hown : w.ownsRow base 5 1 v n (l.map bv)) (hbase : base ≤ w.heap.size) (hn : n ≤ 1000000000000) :
    Calls Tryd.prog 97 #[v, uv s] w fun e w' => ∃ v', e = .returned v' ∧ w'.ownsRow base 5 1 v' (n + 4) ((l ++ fourC s).map bv) ∧ Below base w w' := by
  obtain ⟨i0, hi0, hz0, hz1, hz2⟩ := info_parts byte_info
  go_enter Tryd.func97, Tryd.ntmps97
  go_wp2_with fail
  go_loopw [0, 6] (fun v i wr => ∃ k : Nat, k ≤ 4 ∧ i = .int .i64 k ∧ wr.ownsRow base 5 1 v (n + k) ((l ++ (fourC s).take k).map bv) ∧ Below base w wr) (fun _ i _ => 4 - (intOf i).toNat)
  case atStart => exact ⟨0, by omega, rfl, by simpa using hown, Below.refl _ _⟩
  case round =>
    clear hown
    obtain ⟨k, hk, rfl, hown, hgr⟩ := hrel
    have hsz := hgr.size
    by_cases hlt : k < 4
    · have HF := Lib.hid (four_take s k hlt)
      have hnew := Lies.new wr 5 [bv (UInt8.ofNat (s / 2 ^ (8 * k)))]
      go_wp2_with (at_builtin; refine wpList_append_src _ rfl (.tmp 9) (.tmp 15) _ rfl base 5 i0 _ 1 Tryd.underlying22 hi0 hz0 hz1 hz2 rfl _ (n + k) _ rfl (hown.alloc _) _ _ 1 1 [bv (UInt8.ofNat (s / 2 ^ (8 * k)))] rfl rfl hnew (by simp [Value.oneCell']) (by unfold maxLen; omega) (by omega) (by rw [World.size_alloc]; omega) ?_; intro v' w' hown' hg' hat')
      have hb2 : Below base wr w' := ((Below.refl _ wr).alloc (by omega) _).grown hg' (by rw [World.size_alloc]; omega) (own_ge hown)
      rw [show [bv (UInt8.ofNat (s / 2 ^ (8 * k)))] = [UInt8.ofNat (s / 2 ^ (8 * k))].map bv from rfl, ← List.map_append, List.append_assoc, ← HF.out] at hown'
      go_roundw
      case rel => exact ⟨k + 1, by omega, by go_num, hown', Below.trans hgr hb2⟩
      case measure => simp [intOf]; omega
    · obtain rfl : k = 4 := by omega
      go_wp2
      go_ret
      rw [List.take_of_length_le (by rw [four_len]; exact Nat.le_refl _)] at hown
      exact ⟨_, rfl, hown, hgr⟩

set_option maxHeartbeats 1000000 in
theorem fnumber_any (A : Option Addr) (c : Nat) (l : List UInt8) (w : World) (hl : l.length = 4) (hr : Lies w w.heap.size A (l.map bv)) :
    Calls Tryd.prog 133 #[.slice A 4 c] w fun e w' => e = .returned (uv (numTo l 4)) ∧ w = w' := by
  have HL := Lib.hid hl
  clear hl
  go_enter Tryd.func133, Tryd.ntmps133
  go_wp2
  go_loop [3, 5] (fun x i => ∃ k : Nat, k ≤ 4 ∧ i = .int .i64 k ∧ x = uv (numTo l k)) (fun _ i => 4 - (intOf i).toNat)
  case atStart => exact ⟨0, by omega, rfl, rfl⟩
  case round =>
    obtain ⟨k, hk, rfl, rfl⟩ := hrel
    by_cases hlt : k < 4
    · obtain ⟨b, hbk⟩ : ∃ b, l[k]? = some b := ⟨_, List.getElem?_eq_getElem (by rw [HL.out]; exact hlt)⟩
      obtain ⟨ad, rfl, _, cx⟩ := hr.at_ (j := k) (u := bv b) (by rw [List.getElem?_map, hbk]; rfl)
      have HS : Hid (numTo l (k + 1) = numTo l k + b.toNat * 2 ^ (8 * k)) := by show _ = _; rw [numTo, List.getD, hbk]; rfl
      have hx := numTo_lt l k
      clear hbk
      generalize numTo l k = x at *
      have hb8 := b.toNat_lt
      go_wp2
      go_round
      case rel => exact ⟨k + 1, by omega, by go_num, by rw [HS.out, or_place x b.toNat k hlt hx hb8]⟩
      case measure => simp [intOf]; omega
    · obtain rfl : k = 4 := by omega
      go_wp2
      go_ret
      exact ⟨rfl, rfl⟩
theorem fnumber_g (A : Option Addr) (c : Nat) {x : Nat} {l : List UInt8} (hx : Hid (numTo l 4 = x)) (w : World) (hl : l.length = 4) (hr : Lies w w.heap.size A (l.map bv)) :
    Calls Tryd.prog 133 #[.slice A 4 c] w fun e w' => e = .returned (uv x) ∧ Grows w w' := by
  have h := hx.out
  subst h
  exact (fnumber_any A c l w hl hr).mono fun e w' ⟨he, hw⟩ => ⟨he, by subst hw; exact Grows.refl _⟩

theorem clone_any (A : Option Addr) (n c : Nat) (l : List UInt8) (w : World) (hl : l.length = n) (hr : Lies w w.heap.size A (l.map bv)) (hn : n ≤ 1000000000000) :
    Calls Tryd.prog 134 #[.slice A n c] w fun e w' => ∃ v, e = .returned v ∧ w'.ownsRow w.heap.size 5 1 v n (l.map bv) ∧ Grows w w' := by
  obtain ⟨i0, hi0, hz0, hz1, hz2⟩ := info_parts byte_info
  cases A with
  | none =>
    have h0 := hr.none_empty
    have h1 : l = [] := by simpa using h0
    subst h1
    obtain rfl : n = 0 := by simpa using hl.symm
    have hq : ∀ u : World, (binOp .eql 22 (.slice none 0 c) (.slice none 0 0)).run Tryd.prog u = .ok (.bool true) u := fun u => by kernel_rfl
    go_enter Tryd.func134, Tryd.ntmps134
    go_wp2
    go_ret
    exact ⟨_, rfl, World.ownsRow_nil _ _ _ _, Grows.refl _⟩
  | some ad =>
    have hrow : (w.alloc (.cells #[] 5)).ownsRow w.heap.size 5 1 (.slice (some ⟨w.heap.size, 0, none⟩) 0 0) 0 [] :=
      ⟨rfl, .inr ⟨w.heap.size, 0, #[], rfl, Nat.le_refl _, heap_alloc_new w _, by omega, by unfold maxLen; omega, rfl, rfl⟩⟩
    have hga := grows_alloc w (.cells #[] 5)
    have hrl := hr.later hga
    have hq : ∀ u : World, (binOp .eql 22 (.slice (some ad) n c) (.slice none 0 0)).run Tryd.prog u = .ok (.bool false) u := fun u => by kernel_rfl
    go_enter Tryd.func134, Tryd.ntmps134
    go_wp2_with (at_builtin; refine wpList_append_src _ rfl (.tmp 5) (.tmp 6) _ rfl w.heap.size 5 i0 _ 1 Tryd.underlying22 hi0 hz0 hz1 hz2 rfl _ 0 _ rfl hrow _ _ n c (l.map bv) rfl (by rw [List.length_map]; exact hl) hrl (bv_one l) (by unfold maxLen; omega) (by omega) (by rw [World.size_alloc]; omega) ?_; intro v' w' hown' hg' hat')
    have hb2 : Grows w w' := Below.grown hga hg' (by rw [World.size_alloc]; omega) (own_ge hrow)
    rw [Nat.zero_add, List.nil_append] at hown'
    go_ret
    exact ⟨_, rfl, hown', hb2⟩
end Go.Proofs.YtbcldknecdbemaaDoor

/-
  Contract of frame's Seal.
-/
namespace Go.Proofs.YtbcldknecdbemaaDoor
open Go.RowKit
set_option linter.unusedVariables false
set_option maxRecDepth 20000

set_option maxRecDepth 20000 in
set_option maxHeartbeats 4000000 in
theorem seal_any (A : Option Addr) (n c : Nat) (bs : List UInt8) (w : World) (hl : bs.length = n) (hr : Lies w w.heap.size A (bs.map bv)) (hc : n ≤ c) (hn : n ≤ 1000000000) :
    Calls Tryd.prog 69 #[.slice A n c] w fun e w' => ∃ v, e = .returned v ∧ w'.ownsRow w.heap.size 5 1 v (sealOf bs).length ((sealOf bs).map bv) ∧ Grows w w' := by
  obtain ⟨i0, hi0, hz0, hz1, hz2⟩ := info_parts byte_info
  have HL := Lib.hid hl
  have hC := crcOf_lt bs
  have hwn : IntKind.u32.wrap (n : Int) = (n : Int) := by unfold IntKind.wrap; simp [IntKind.signed, IntKind.bits]; omega
  go_enter Tryd.func69, Tryd.ntmps69
  go_wp2_with fail
  refine (pack_out A n c bs w hl hr hc hn).mono ?_
  rintro e w1 ⟨p, pn, cp, Ap, HP, HPN, hpn, rfl, hcp, hLp, hg1⟩
  have hr1 := hr.later hg1
  have hpn2 : pn ≤ 2000000001 := by omega
  clear hr hl hpn
  by_cases hlt : pn < n
  · have hlt' : (pn : Int) < (n : Int) := by omega
    have HS : Hid (sealOf bs = frameOf 1 n p (crcOf bs)) := by show _ = _; unfold sealOf; rw [HP.out, HPN.out, HL.out, if_pos hlt]
    have HFL : Hid ((frameOf 1 n p (crcOf bs)).length = 2 + 4 + pn + 4) := by show _ = _; rw [frame_len, HPN.out]; omega
    have hnew := fun u : World => Lies.new u 5 [.int .u8 76, .int .u8 1]
    have hkn : pn ≤ 2000000001 := by omega
    go_wp2_with (first
      | (at_make; refine wpList_make_room _ rfl _ _ _ rfl w1.heap.size 5 i0 _ Tryd.underlying22 hi0 hz0 hz1 rfl .i64 .i64 _ _ 0 (10 + pn) rfl rfl (by omega) (by omega) (by omega) (by rw [hz2]; omega) (by unfold maxLen; omega) (Nat.le_refl _) ?_; intro w2 hown2 hg2 hsz2; clear hsz2)
      | (at_builtin; (refine wpList_append_src _ rfl (.tmp 20) (.tmp 22) _ rfl w1.heap.size 5 i0 _ 1 Tryd.underlying22 hi0 hz0 hz1 hz2 rfl _ 0 _ rfl (hown2.alloc _) _ _ 2 2 [.int .u8 76, .int .u8 1] rfl rfl (hnew _) (by simp [Value.oneCell']) (by unfold maxLen; omega) (by omega) (by rw [World.size_alloc]; have := hg2.size; omega) ?_; intro v3 w3 hown3 hg3 hat3)))
    have hB3 : Below w1.heap.size w1 w3 := (Below.alloc hg2 (by have := hg2.size; omega) _).grown hg3 (by rw [World.size_alloc]; have := hg2.size; omega) (own_ge hown2)
    rw [show List.replicate 0 (Value.int IntKind.u8 0) ++ [Value.int IntKind.u8 76, Value.int IntKind.u8 1] = ([76, 1] : List UInt8).map bv from rfl] at hown3
    clear hown2 hg2 hg3 hat3 hnew
    refine (putnum_any v3 w1.heap.size (0 + 2) [76, 1] n w3 (by omega) hown3 hB3.size (by omega)).mono ?_
    rintro e w4 ⟨v4, rfl, hown4, hB4⟩
    have hB14 := hB3.trans hB4
    have hLk := (hLp).below hB14
    have hszk := hB14.size
    clear hown3 hB3 hB4
    go_wp2_with (at_builtin; refine wpList_append_src _ rfl (.tmp 29) (.tmp 30) _ rfl w1.heap.size 5 i0 _ 1 Tryd.underlying22 hi0 hz0 hz1 hz2 rfl _ (0 + 2 + 4) _ rfl hown4 _ _ pn _ (p.map bv) rfl (by rw [List.length_map]; exact HPN.out) hLk (bv_one p) (by unfold maxLen; omega) (by omega) hszk ?_; intro v5 w5 hown5 hg5 hat5)
    have hB15 : Below w1.heap.size w1 w5 := hB14.grown hg5 hszk (own_ge hown4)
    rw [← List.map_append] at hown5
    clear hown4 hg5 hat5 hLk hB14 hszk
    refine (crcsum_any A n c bs w5 HL.out (hr1.later hB15) (by omega)).mono ?_
    rintro e w6 ⟨rfl, hg6⟩
    have hown6 := own_later hown5 hg6
    have hB16 := Below.trans hB15 (hg6.mono hB15.size)
    clear hown5 hB15 hg6
    generalize hsx : crcOf bs = s at *
    have HSX := Lib.hid hsx
    clear hsx
    go_wp2_with fail
    refine (putnum_any v5 w1.heap.size (0 + 2 + 4 + pn) _ s w6 hC hown6 hB16.size (by omega)).mono ?_
    rintro e w7 ⟨v7, rfl, hown7, hB7⟩
    have hB17 := hB16.trans hB7
    go_wp2_with fail
    go_ret
    refine ⟨_, rfl, ?_, Grows.trans hg1 hB17⟩
    rw [HS.out, HFL.out]
    have := own_baseL hown7 hg1.size
    rw [Nat.zero_add] at this
    exact this
  · have hlt' : ¬ ((pn : Int) < (n : Int)) := by omega
    have HS : Hid (sealOf bs = frameOf 0 n bs (crcOf bs)) := by show _ = _; unfold sealOf; rw [HP.out, HPN.out, HL.out, if_neg hlt]
    have HFL : Hid ((frameOf 0 n bs (crcOf bs)).length = 2 + 4 + n + 4) := by show _ = _; rw [frame_len, HL.out]; omega
    have hnew := fun u : World => Lies.new u 5 [.int .u8 76, .int .u8 0]
    have hkn : n ≤ 2000000001 := by omega
    go_wp2_with (first
      | (at_make; refine wpList_make_room _ rfl _ _ _ rfl w1.heap.size 5 i0 _ Tryd.underlying22 hi0 hz0 hz1 rfl .i64 .i64 _ _ 0 (10 + n) rfl rfl (by omega) (by omega) (by omega) (by rw [hz2]; omega) (by unfold maxLen; omega) (Nat.le_refl _) ?_; intro w2 hown2 hg2 hsz2; clear hsz2)
      | (at_builtin; (refine wpList_append_src _ rfl (.tmp 20) (.tmp 22) _ rfl w1.heap.size 5 i0 _ 1 Tryd.underlying22 hi0 hz0 hz1 hz2 rfl _ 0 _ rfl (hown2.alloc _) _ _ 2 2 [.int .u8 76, .int .u8 0] rfl rfl (hnew _) (by simp [Value.oneCell']) (by unfold maxLen; omega) (by omega) (by rw [World.size_alloc]; have := hg2.size; omega) ?_; intro v3 w3 hown3 hg3 hat3)))
    have hB3 : Below w1.heap.size w1 w3 := (Below.alloc hg2 (by have := hg2.size; omega) _).grown hg3 (by rw [World.size_alloc]; have := hg2.size; omega) (own_ge hown2)
    rw [show List.replicate 0 (Value.int IntKind.u8 0) ++ [Value.int IntKind.u8 76, Value.int IntKind.u8 0] = ([76, 0] : List UInt8).map bv from rfl] at hown3
    clear hown2 hg2 hg3 hat3 hnew
    refine (putnum_any v3 w1.heap.size (0 + 2) [76, 0] n w3 (by omega) hown3 hB3.size (by omega)).mono ?_
    rintro e w4 ⟨v4, rfl, hown4, hB4⟩
    have hB14 := hB3.trans hB4
    have hLk := (hr1).below hB14
    have hszk := hB14.size
    clear hown3 hB3 hB4
    go_wp2_with (at_builtin; refine wpList_append_src _ rfl (.tmp 29) (.tmp 30) _ rfl w1.heap.size 5 i0 _ 1 Tryd.underlying22 hi0 hz0 hz1 hz2 rfl _ (0 + 2 + 4) _ rfl hown4 _ _ n _ (bs.map bv) rfl (by rw [List.length_map]; exact HL.out) hLk (bv_one bs) (by unfold maxLen; omega) (by omega) hszk ?_; intro v5 w5 hown5 hg5 hat5)
    have hB15 : Below w1.heap.size w1 w5 := hB14.grown hg5 hszk (own_ge hown4)
    rw [← List.map_append] at hown5
    clear hown4 hg5 hat5 hLk hB14 hszk
    refine (crcsum_any A n c bs w5 HL.out (hr1.later hB15) (by omega)).mono ?_
    rintro e w6 ⟨rfl, hg6⟩
    have hown6 := own_later hown5 hg6
    have hB16 := Below.trans hB15 (hg6.mono hB15.size)
    clear hown5 hB15 hg6
    generalize hsx : crcOf bs = s at *
    have HSX := Lib.hid hsx
    clear hsx
    go_wp2_with fail
    refine (putnum_any v5 w1.heap.size (0 + 2 + 4 + n) _ s w6 hC hown6 hB16.size (by omega)).mono ?_
    rintro e w7 ⟨v7, rfl, hown7, hB7⟩
    have hB17 := hB16.trans hB7
    go_wp2_with fail
    go_ret
    refine ⟨_, rfl, ?_, Grows.trans hg1 hB17⟩
    rw [HS.out, HFL.out]
    have := own_baseL hown7 hg1.size
    rw [Nat.zero_add] at this
    exact this
theorem seal_out (A : Option Addr) (n c : Nat) (bs : List UInt8) (w : World) (hl : bs.length = n) (hr : Lies w w.heap.size A (bs.map bv)) (hc : n ≤ c) (hn : n ≤ 1000000000) :
    Calls Tryd.prog 69 #[.slice A n c] w fun e w' => ∃ (f : List UInt8) (fn c' : Nat) (A' : Option Addr), Hid (sealOf bs = f) ∧ Hid (f.length = fn) ∧ 10 ≤ fn ∧ fn ≤ n + 10 ∧ e = .returned (.slice A' fn c') ∧ fn ≤ c' ∧ w'.ownsRow w.heap.size 5 1 (.slice A' fn c') fn (f.map bv) ∧ Lies w' w'.heap.size A' (f.map bv) ∧ Grows w w' := by
  refine (seal_any A n c bs w hl hr hc hn).mono ?_
  rintro e w' ⟨v, rfl, hown, hg⟩
  obtain ⟨A', c', rfl, hc'⟩ := own_form hown
  have h1 := seal_len bs
  rw [hl] at h1
  exact ⟨_, _, c', A', rfl, rfl, h1.2.1, h1.1, rfl, hc', hown, Lies.of_own hown, hg⟩
end Go.Proofs.YtbcldknecdbemaaDoor

/-
  Contracts of frame's split.
-/
namespace Go.Proofs.YtbcldknecdbemaaDoor
open Go.RowKit
set_option linter.unusedVariables false
set_option maxRecDepth 20000

theorem parts_desc : (Tryd.prog.underlying 154).map (·.isRow) = some true := by kernel_rfl
theorem parts_size : (Tryd.prog.info? 154).map (·.size) = some 4 := by kernel_rfl

/-- What split answers. -/
def SOut (f : List UInt8) (w : World) (e : Ending) (w' : World) : Prop :=
  (formB f = true ∧ ∃ (A' : Option Addr) (c' : Nat), e = .returned (.agg #[.bool (pkB f), iv (toldN f), .slice A' (f.length - 10) c', uv (sumN f)]) ∧ f.length - 10 ≤ c' ∧ Lies w' w.heap.size A' ((keptL f).map bv) ∧ Grows w w') ∨
  (formB f = false ∧ e = .panicked (why 2) ∧ Grows w w')

set_option maxRecDepth 20000 in
set_option maxHeartbeats 4000000 in
theorem split_any (A : Option Addr) (n c : Nat) (f : List UInt8) (w : World) (hl : f.length = n) (hr : Lies w w.heap.size A (f.map bv)) (hc : n ≤ c) (hn : n ≤ 1000000000) :
    Calls Tryd.prog 105 #[.slice A n c] w fun e w' => SOut f w e w' := by
  obtain ⟨td, htd, htr⟩ := Option.map_eq_some_iff.1 parts_desc
  have hb0 := Has.new w 154 [.bool false, .int .i64 0, .slice none 0 0, .int .u32 0]
  have hg0 := grows_alloc w (.cells #[.bool false, .int .i64 0, .slice none 0 0, .int .u32 0] 154)
  have no : ∀ w', Grows w w' → formB f = false → SOut f w (.panicked (why 2)) w' := fun w' hg h => .inr ⟨h, rfl, hg⟩
  go_enter Tryd.func105, Tryd.ntmps105
  by_cases h10 : n < 10
  · have h10' : ¬ (10 ≤ (n : Int)) := by omega
    have HF : Hid (formB f = false) := by show _ = _; unfold formB; rw [hl]; simp; omega
    go_wp2_with fail
    refine (must_no 2 _).mono ?_
    rintro e w' ⟨rfl, rfl⟩
    exact ⟨rfl, no _ hg0 HF.out⟩
  · have h10' : 10 ≤ (n : Int) := by omega
    obtain ⟨m, hm⟩ : ∃ m, n = m + 10 := ⟨n - 10, by omega⟩
    have HM := Lib.hid hm
    clear hm
    obtain ⟨x0, hx0⟩ : ∃ x, f[0]? = some x := ⟨_, List.getElem?_eq_getElem (by omega)⟩
    obtain ⟨x1, hx1⟩ : ∃ x, f[1]? = some x := ⟨_, List.getElem?_eq_getElem (by omega)⟩
    have HL := Lib.hid hl
    have HF : Hid (formB f = (x0 == 76 && (x1 == 0 || x1 == 1))) := by
      show _ = _
      unfold formB
      rw [hl, List.getD, List.getD, hx0, hx1]
      rw [decide_eq_true (by omega)]
      simp
    have HP : Hid (pkB f = (x1 == 1)) := by show _ = _; unfold pkB; rw [List.getD, hx1]; rfl
    clear hl
    have hr0 := hr.later hg0
    obtain ⟨ad, rfl, _, c0⟩ := hr0.at_ (j := 0) (u := bv x0) (by rw [List.getElem?_map, hx0]; rfl)
    have c1 := hr0.cells 1 (bv x1) (by rw [List.getElem?_map, hx1]; rfl)
    rw [add_zero_eq] at c0
    have c1 : (w.alloc (.cells #[.bool false, .int .i64 0, .slice none 0 0, .int .u32 0] 154)).cell? ⟨ad.block, ad.off + 1, none⟩ = some (bv x1) := by rw [show ad.add 1 = ⟨ad.block, ad.off + 1, none⟩ from by simp [Addr.add]] at c1; exact c1
    clear hx0 hx1
    by_cases h76 : x0 = 76
    · subst h76
      by_cases h01 : x1 = 0 ∨ x1 = 1
      · have HT : Hid (formB f = true) := by show _ = _; rw [HF.out]; rcases h01 with rfl | rfl <;> rfl
        have HN : Hid (f.length - 10 = m) := by show _ = _; rw [HL.out, HM.out]; omega
        have HE : Hid ((n : Int) - 4 = ((m + 6 : Nat) : Int)) := by show _ = _; rw [HM.out]; omega
        obtain ⟨Aa, hca, hLa⟩ := cut_mid (P := Tryd.prog) Tryd.underlying22 byte_oneL (some ad) n c .i64 .i64 2 6 2 6 rfl rfl (by omega) (by omega)
        obtain ⟨Ab, hcb, hLb⟩ := cut_mid (P := Tryd.prog) Tryd.underlying22 byte_oneL (some ad) n c .i64 .i64 6 ((n : Int) - 4) 6 (m + 6) rfl HE.out (by omega) (by have := HM.out; omega)
        obtain ⟨Ac, hcc, hLc⟩ := cut_from (P := Tryd.prog) Tryd.underlying22 byte_oneL (some ad) n c .i64 ((n : Int) - 4) (m + 6) HE.out (by have := HM.out; omega) hc
        rw [show 6 - 2 = 4 from rfl] at hca
        rw [show m + 6 - 6 = m by omega] at hcb
        rw [show n - (m + 6) = 4 by have := HM.out; omega] at hcc
        have hla := hLa _ _ _ hr0
        have hlb := hLb _ _ _ hr
        have hlc := hLc _ _ _ (by rw [List.length_map]; exact HL.out) hr0
        rw [← List.map_drop, ← List.map_take] at hla hlb
        rw [← List.map_drop] at hlc
        have hX : toldN f < 4294967296 := toldN_lt f
        have hS : sumN f < 4294967296 := sumN_lt f
        have HX : Hid (numTo ((f.drop 2).take (6 - 2)) 4 = toldN f) := rfl
        have HS : Hid (numTo (f.drop (m + 6)) 4 = sumN f) := by show _ = _; unfold sumN; rw [HL.out, show n - 4 = m + 6 by have := HM.out; omega]
        have HXL : Hid (((f.drop 2).take (6 - 2)).length = 4) := by show _ = _; rw [List.length_take, List.length_drop, HL.out]; omega
        have HSL : Hid ((f.drop (m + 6)).length = 4) := by show _ = _; rw [List.length_drop, HL.out]; have := HM.out; omega
        have HKL : Hid ((f.drop 6).take (m + 6 - 6) = keptL f) := by show _ = _; unfold keptL; rw [HL.out, show n - 10 = m + 6 - 6 by have := HM.out; omega]
        rw [HKL.out] at hlb
        clear hLa hLb hLc
        unfold SOut at *
        generalize toldN f = x at *
        generalize sumN f = s at *
        have H01 := Lib.hid h01
        rcases h01 with rfl | rfl
        all_goals
          go_wp2_with fail
          refine (must_yes 2 _).mono ?_
          rintro e w' ⟨rfl, rfl⟩
          go_wp2_with fail
          refine (must_yes 2 _).mono ?_
          rintro e w' ⟨rfl, rfl⟩
          go_wp2_with fail
          refine (must_yes 2 _).mono ?_
          rintro e w' ⟨rfl, rfl⟩
          go_wp2_with fail
          change Code.wp _ _ _ _ (w.alloc (.cells #[.bool false, .int .i64 0, .slice none 0 0, .int .u32 0] 154))
          clear c0
          generalize w.alloc (.cells #[.bool false, .int .i64 0, .slice none 0 0, .int .u32 0] 154) = w0 at *
          refine wp_region_ord 16 [(0, true), (1, true), (2, true), (3, true), (4, true), (5, true), (6, true), (7, true), (8, true), (9, true), (10, true), (11, true), (12, true), (13, true), (14, true), (15, true)] (by kernel_rfl) (by kernel_rfl) ?_
          have hgd : Grows w0 w0.drew := (Grows.refl w0).drew
          have hla := Lib.hid (hla.later hgd)
          have hlc := Lib.hid (hlc.later hgd)
          have hld := hcell_later c1 hgd
          have hO := Grows.refl w0.drew
          have HGD := Lib.hid hgd
          clear hgd c1 hr0
          have hn1 : (1 : Int) < (n : Int) := by omega
          have hwx : IntKind.i64.wrap (x : Int) = (x : Int) := by unfold IntKind.wrap; simp [IntKind.signed, IntKind.bits]; omega
          generalize w0.drew = wd at *
          have ld1 : ∀ u, Grows wd u → u.cell? ⟨ad.block, ad.off + 1, none⟩ = some (bv _) := fun u h => hcell_later hld h
          repeat (first | (refine ord_cut hO _ ?_ (by simp only [List.getElem?_cons_succ, List.getElem?_cons_zero]; rfl) (by rfl) 22 (.tmp 31) (some (.const (.int .i64 2))) (some (.const (.int .i64 6))) none (by rfl) ?_ ?_; rotate_left; (· (exact hca)); try simp only [Act.put, List.setIfInBounds_toArray, List.set_cons_zero, List.set_cons_succ]) | (refine ord_cut hO _ ?_ (by simp only [List.getElem?_cons_succ, List.getElem?_cons_zero]; rfl) (by rfl) 22 (.tmp 35) (some (.const (.int .i64 6))) (some (.tmp 36)) none (by rfl) ?_ ?_; rotate_left; (· (exact hcb)); try simp only [Act.put, List.setIfInBounds_toArray, List.set_cons_zero, List.set_cons_succ]) | (refine ord_cut hO _ ?_ (by simp only [List.getElem?_cons_succ, List.getElem?_cons_zero]; rfl) (by rfl) 22 (.tmp 38) (some (.tmp 39)) none none (by rfl) ?_ ?_; rotate_left; (· (exact hcc)); try simp only [Act.put, List.setIfInBounds_toArray, List.set_cons_zero, List.set_cons_succ]) | (refine ord_take hO _ ?_ (by simp only [List.getElem?_cons_succ, List.getElem?_cons_zero]; rfl) (by rfl) ?_ ?_; rotate_left; (· (intro u hu0 hu; (try go_simp); (try with_reducible rfl))); try simp only [Act.put, List.setIfInBounds_toArray, List.set_cons_zero, List.set_cons_succ]) | (refine ord_skip _ (by simp only [List.getElem?_cons_succ, List.getElem?_cons_zero]; rfl) (by rfl) ?_; try simp only [Act.put, List.setIfInBounds_toArray, List.set_cons_zero, List.set_cons_succ]) | (refine ord_call hO _ ?_ (by simp only [List.getElem?_cons_succ, List.getElem?_cons_zero]; rfl) (by rfl) ?_ ?_; rotate_left; (· (intro u hu0 hu; go_simp; (try refine quiet_enter ?_); (first | with_reducible exact fnumber_g _ _ HX _ HXL.out (hla.out.later hu0) | with_reducible exact fnumber_g _ _ HS _ HSL.out (hlc.out.later hu0)))); try simp only [Act.put, List.setIfInBounds_toArray, List.set_cons_zero, List.set_cons_succ]))
          clear hO ld1 hca hcb hcc hld
          (refine ord_done (fun u hu => ?_); simp only [List.drop_succ_cons, List.drop_zero])
          have hgu := Grows.trans HGD.out hu
          have hb1 := hb0.later hgu
          have hgu := Grows.trans hg0 hgu
          clear hu HGD hla hlc hb0 hg0
          go_wp2_with (refine wpList_storev rfl 154 (.tmp 2) (.tmp 42) rfl w.heap.size [.bool false, .int .i64 0, .slice none 0 0, .int .u32 0] [.bool _, iv x, .slice Ab m (c - 6), uv s] 4 rfl rfl hb1 rfl rfl parts_size (by simp [Value.oneCell']) ?_; intro w5 hb5 hbel5)
          refine NoPanic.normal ?_
          go_wp2_with fail
          refine bodyPost_ret (res_has (vs := [.bool _, iv x, .slice Ab m (c - 6), uv s]) rfl _ rfl htd htr parts_size hb5) rfl ?_
          have hgf := hbel5 w.heap.size w (Nat.le_refl _) hgu
          refine .inl ⟨HT.out, Ab, c - 6, ?_, by rw [HN.out]; have := HM.out; omega, hlb.below hgf, hgf⟩
          rw [HN.out, HP.out]
          rfl
      · have HT : Hid (formB f = false) := by
          show _ = _
          rw [HF.out]
          have h0 : (x1 == 0) = false := by simpa using fun h => h01 (.inl h)
          have h1 : (x1 == 1) = false := by simpa using fun h => h01 (.inr h)
          rw [h0, h1]; rfl
        have g0 : ((x1.toNat : Int) == 0) = false := by simpa using fun h : (x1.toNat : Int) = 0 => h01 (.inl (UInt8.toNat_inj.1 (by simp; omega)))
        have g1 : ((x1.toNat : Int) == 1) = false := by simpa using fun h : (x1.toNat : Int) = 1 => h01 (.inr (UInt8.toNat_inj.1 (by simp; omega)))
        go_wp2_with fail
        refine (must_yes 2 _).mono ?_
        rintro e w' ⟨rfl, rfl⟩
        go_wp2_with fail
        refine (must_yes 2 _).mono ?_
        rintro e w' ⟨rfl, rfl⟩
        go_wp2_with fail
        refine (must_no 2 _).mono ?_
        rintro e w' ⟨rfl, rfl⟩
        exact ⟨rfl, no _ hg0 HT.out⟩
    · have HT : Hid (formB f = false) := by
        show _ = _
        rw [HF.out]
        have h0 : (x0 == 76) = false := by simpa using h76
        rw [h0]; rfl
      have g0 : ((x0.toNat : Int) == 76) = false := by simpa using fun h : (x0.toNat : Int) = 76 => h76 (UInt8.toNat_inj.1 (by simp; omega))
      go_wp2_with fail
      refine (must_yes 2 _).mono ?_
      rintro e w' ⟨rfl, rfl⟩
      go_wp2_with fail
      refine (must_no 2 _).mono ?_
      rintro e w' ⟨rfl, rfl⟩
      exact ⟨rfl, no _ hg0 HT.out⟩
end Go.Proofs.YtbcldknecdbemaaDoor

/-
  Contracts of frame's asTheyWere.
-/
namespace Go.Proofs.YtbcldknecdbemaaDoor
open Go.RowKit
set_option linter.unusedVariables false
set_option maxRecDepth 20000

/-- What asTheyWere answers. -/
def WOut (o : Option (List UInt8)) (w : World) (e : Ending) (w' : World) : Prop :=
  (∃ b v, o = some b ∧ e = .returned v ∧ w'.ownsRow w.heap.size 5 1 v b.length (b.map bv) ∧ Grows w w') ∨ (o = none ∧ e = .panicked (why 2) ∧ Grows w w')

set_option maxRecDepth 20000 in
set_option maxHeartbeats 4000000 in
theorem were_any (pk : Bool) (A : Option Addr) (m c : Nat) (l : List UInt8) (k s : Nat) (w : World) (hl : l.length = m) (hr : Lies w w.heap.size A (l.map bv)) (hc : m ≤ c) (hm : m ≤ 1000000000) (hk : k < 4294967296) :
    Calls Tryd.prog 107 #[.agg #[.bool pk, iv k, .slice A m c, uv s]] w fun e w' => WOut (wereOf pk k l) w e w' := by
  have hb0 := Has.new w 154 [.bool pk, iv k, .slice A m c, uv s]
  have hg0 := grows_alloc w (.cells #[.bool pk, iv k, .slice A m c, uv s] 154)
  have hr0 := hr.later hg0
  have f0 := hb0.cell (k := 0) rfl
  have f1 := hb0.cell (k := 1) rfl
  have f2 := hb0.cell (k := 2) rfl
  cases pk with
  | false =>
    go_enter Tryd.func107, Tryd.ntmps107
    by_cases hmk : m = k
    · subst hmk
      have HW : Hid (wereOf false m l = some l) := by show _ = _; unfold wereOf; rw [if_neg (by decide), if_pos hl]
      have HL := Lib.hid hl
      go_wp2_with fail
      refine (must_yes 2 _).mono ?_
      rintro e w' ⟨rfl, rfl⟩
      go_wp2_with fail
      refine (clone_any A m c l _ HL.out hr0 (by omega)).mono ?_
      rintro e w1 ⟨v, rfl, hown, hg1⟩
      go_wp2_with fail
      go_ret
      exact .inl ⟨l, _, HW.out, rfl, by rw [HL.out]; exact own_baseL hown hg0.size, Grows.trans hg0 hg1⟩
    · have HW : Hid (wereOf false k l = none) := by show _ = _; unfold wereOf; rw [if_neg (by decide), if_neg (by omega)]
      have hq : ((m : Int) == (k : Int)) = false := by simp; omega
      go_wp2_with fail
      refine (must_no 2 _).mono ?_
      rintro e w' ⟨rfl, rfl⟩
      exact ⟨rfl, .inr ⟨HW.out, rfl, hg0⟩⟩
  | true =>
    have HW : Hid (wereOf true k l = if (unpackOf l k).2 = 0 ∧ (unpackOf l k).1.length = k then some (unpackOf l k).1 else none) := by show _ = _; unfold wereOf; rw [if_pos rfl]
    go_enter Tryd.func107, Tryd.ntmps107
    go_wp2_with fail
    refine (unpack_any A m c l (k : Int) _ hl hr0 hc hm (by omega)).mono ?_
    rintro e w1 ⟨v, rfl, hown, hg1⟩
    have f1' := hcell_later f1 hg1
    have hgf := Grows.trans hg0 hg1
    replace hown := own_baseL hown hg0.size
    clear f0 f2 hb0 hr0 hr hl hg1
    change World at w1
    obtain ⟨b, er, hu⟩ : ∃ b er, unpackOf l k = (b, er) := ⟨_, _, rfl⟩
    rw [hu] at hown HW
    simp only [hu]
    clear hu
    obtain ⟨ln, hln⟩ : ∃ ln, b.length = ln := ⟨_, rfl⟩
    simp only [hln] at hown HW
    have HLN := Lib.hid hln
    clear hln
    obtain ⟨A', c', rfl, hc'⟩ := own_form hown
    by_cases he : er = 0
    · subst he
      by_cases hk2 : ln = k
      · subst hk2
        go_wp2_with fail
        refine (must_yes 2 _).mono ?_
        rintro e w' ⟨rfl, rfl⟩
        go_wp2_with fail
        refine (must_yes 2 _).mono ?_
        rintro e w' ⟨rfl, rfl⟩
        go_wp2_with fail
        go_ret
        exact .inl ⟨b, _, by rw [HW.out, if_pos (by simp)], rfl, by rw [HLN.out]; exact hown, hgf⟩
      · have hq : ((ln : Int) == (k : Int)) = false := by simp; omega
        go_wp2_with fail
        refine (must_yes 2 _).mono ?_
        rintro e w' ⟨rfl, rfl⟩
        go_wp2_with fail
        refine (must_no 2 _).mono ?_
        rintro e w' ⟨rfl, rfl⟩
        exact ⟨rfl, .inr ⟨by rw [HW.out, if_neg (by simpa using hk2)], rfl, hgf⟩⟩
    · have hq : ((er : Int) == 0) = false := by simp; omega
      go_wp2_with fail
      refine (must_no 2 _).mono ?_
      rintro e w' ⟨rfl, rfl⟩
      exact ⟨rfl, .inr ⟨by rw [HW.out, if_neg (by simp [he])], rfl, hgf⟩⟩
end Go.Proofs.YtbcldknecdbemaaDoor

/-
  A region that draws its order and may give up at its end (of no program); contracts of what frame's Open attempts.
-/
namespace Go.Proofs.YtbcldknecdbemaaDoor
open Go.RowKit
set_option linter.unusedVariables false
set_option maxRecDepth 20000

theorem wp_region_ordP {P : Program} {Q : Exit → Act → World → Prop} {id : Nat} {a : Act} {w : World} {l : List Oper} (n : Nat) (s : List (Nat × Bool)) (hm : P.follows .mixedOrders = true) (hB : ordWholeB l.toArray n s = true)
    (hQ : ∀ c a d v w, Q (.panic c) (Act.put a d v) w → Q (.panic c) a w)
    (h : wpOrd P l.toArray Q (fun a' u => wpList P l.toArray Q (l.drop n) a' u) s a w.drew) : (Code.region id l.toArray true).wp P Q a w := by
  simp only [ordWholeB, Bool.and_eq_true, decide_eq_true_eq, Bool.or_eq_true, beq_iff_eq] at hB
  obtain ⟨⟨⟨⟨hsel, hn⟩, hc⟩, hl⟩, hord⟩ := hB
  have hdl : (l.drop n).length = l.toArray.size - n := by simp
  have inv0 : HeadInv .any l.toArray n (Array.replicate l.toArray.size false) :=
    ⟨by simp, fun j oj _ hl => (by rw [getD_replicate_false] at hl; cases hl), fun t _ ht => getD_in (by simpa using ht) (getD_replicate_false _ _)⟩
  have hwait : ∀ i, i < n → ∀ listed, HeadInv .any l.toArray n listed → listed.getD i true = false → ∀ j ∈ Region.ready .any l.toArray listed, j < n := fun i hi listed inv hun j hj => by
    rcases hc with hc | ⟨hs, hch⟩
    · obtain ⟨_, oj, hoj, _⟩ := mem_ready.1 hj
      have := (Array.getElem?_eq_some_iff.1 hoj).1
      omega
    · rcases Nat.lt_or_ge j n with h | h
      · exact h
      · have hjs : j < l.toArray.size := by
          obtain ⟨_, oj, hoj, _⟩ := mem_ready.1 hj
          exact (Array.getElem?_eq_some_iff.1 hoj).1
        exact absurd hj (tail_waits hs hch (by omega) inv _ i rfl hi hun j h)
  refine wp_region_any hm ?_
  have H := wpAnyU_of_ord (md := .any) (g := l.toArray.size - n) (Q := Q) hsel hQ hwait s _ a w.drew inv0 hord h
  have := wpAny_of_U (Q := Q) (g := l.toArray.size - n) (fun listed a' w' hL => by
    have := wpAny_of_seq (md := .any) (Q' := Q) (l.drop n) n listed a' w' (fun j => by simp [List.getElem?_drop]) (by rw [hdl]; exact hL.1) (hL.2 w' (Grows.refl _))
    rwa [hdl] at this) _ _ _ _ H
  rw [hl, show n + (l.toArray.size - n) = l.toArray.size by omega] at this
  exact this

/-- What is attempted: the bytes, or that it is given up with an error. -/
def OOut (r : List UInt8 × Nat) (w : World) (e : Ending) (w' : World) : Prop :=
  (r.2 = 0 ∧ ∃ v, e = .returned v ∧ w'.ownsRow w.heap.size 5 1 v r.1.length (r.1.map bv) ∧ Grows w w') ∨ (r.2 ≠ 0 ∧ r.1 = [] ∧ e = .panicked (why r.2) ∧ Grows w w')

set_option maxRecDepth 20000 in
set_option maxHeartbeats 4000000 in
theorem open1_any (b0 b1 : Nat) (A : Option Addr) (n c : Nat) (f : List UInt8) (most : Int) (w : World) (h0 : Has w b0 [.slice A n c]) (h1 : Has w b1 [.int .i64 most]) (hl : f.length = n) (hr : Lies w w.heap.size A (f.map bv)) (hc : n ≤ c) (hn : n ≤ 1000000000) :
    Calls Tryd.prog 104 #[.pointer (some ⟨b0, 0, none⟩), .pointer (some ⟨b1, 0, none⟩)] w fun e w' => OOut (openOf f most) w e w' := by
  obtain ⟨td, htd, htr⟩ := Option.map_eq_some_iff.1 parts_desc
  have l0 := h0.cell (k := 0) rfl
  go_enter Tryd.func104, Tryd.ntmps104
  go_wp2_with fail
  refine (split_any A n c f w hl hr hc hn).mono ?_
  rintro e w1 (⟨HF, A', c', rfl, hc', hL', hg1⟩ | ⟨HF, rfl, hg1⟩)
  · have HO : Hid (openOf f most = if most < (toldN f : Int) then ([], 3) else sumOf (sumN f) (wereOf (pkB f) (toldN f) (keptL f))) := by show _ = _; unfold openOf; rw [if_neg (by rw [HF]; exact Bool.noConfusion)]
    have HKL : Hid ((keptL f).length = f.length - 10) := by show _ = _; unfold keptL; rw [List.length_take, List.length_drop]; omega
    have hmn : f.length - 10 ≤ 1000000000 := by omega
    have hS := sumN_lt f
    have hX := toldN_lt f
    clear HF hr hc l0 hl hn h0
    generalize f.length - 10 = m at *
    generalize toldN f = x at *
    generalize sumN f = s at *
    generalize pkB f = pk at *
    generalize keptL f = kl at *
    have hb2 := Has.new w1 154 [.bool false, .int .i64 0, .slice none 0 0, .int .u32 0]
    have hg2 := grows_alloc w1 (.cells #[.bool false, .int .i64 0, .slice none 0 0, .int .u32 0] 154)
    have l1 := (h1.later hg1).cell (k := 0) rfl
    have hwp : Below w.heap.size w w1 := hg1
    by_cases hx : most < (x : Int)
    · have hq : decide ((x : Int) ≤ most) = false := by simp; omega
      have HO3 : Hid (openOf f most = ([], 3)) := by show _ = _; rw [HO.out, if_pos hx]
      go_wp2_with (refine wpList_storev rfl 154 (.tmp 3) (.tmp 6) rfl w1.heap.size [.bool false, .int .i64 0, .slice none 0 0, .int .u32 0] [.bool pk, iv x, .slice A' m c', uv s] 4 rfl rfl hb2 rfl rfl parts_size (by simp [Value.oneCell']) ?_; intro w3 hb3 hbel3; have hg3 := hbel3 w1.heap.size w1 (Nat.le_refl _) hg2; have q1 := hb3.cell (k := 1) rfl; have l3 := hcell_later l1 hg3)
      refine (must_no 3 _).mono ?_
      rintro e w' ⟨rfl, rfl⟩
      exact ⟨rfl, .inr (by rw [HO3.out]; exact ⟨by decide, rfl, rfl, Grows.trans hg1 hg3⟩)⟩
    · have hq : (x : Int) ≤ most := by omega
      have HO4 : Hid (openOf f most = sumOf s (wereOf pk x kl)) := by show _ = _; rw [HO.out, if_neg hx]
      clear HO
      go_wp2_with (refine wpList_storev rfl 154 (.tmp 3) (.tmp 6) rfl w1.heap.size [.bool false, .int .i64 0, .slice none 0 0, .int .u32 0] [.bool pk, iv x, .slice A' m c', uv s] 4 rfl rfl hb2 rfl rfl parts_size (by simp [Value.oneCell']) ?_; intro w3 hb3 hbel3; have hg3 := hbel3 w1.heap.size w1 (Nat.le_refl _) hg2; have q1 := hb3.cell (k := 1) rfl; have l3 := hcell_later l1 hg3)
      refine (must_yes 3 _).mono ?_
      rintro e w' ⟨rfl, rfl⟩
      have hL3 := ((hL'.mono hg1.size).later hg3)
      have hg03 := Grows.trans hg1 hg3
      go_wp2_with (refine wpList_loads rfl 154 (.tmp 3) rfl _ rfl _ (hb3.load htd htr parts_size) ?_)
      refine (were_any pk A' m c' kl x s w3 HKL.out hL3 hc' hmn hX).mono ?_
      rintro e w4 (⟨b, v, HW, rfl, hown, hg4⟩ | ⟨HW, rfl, hg4⟩)
      · have HO5 : Hid (openOf f most = if crcOf b = s then (b, 0) else ([], 7)) := by show _ = _; rw [HO4.out, HW]; rfl
        have hbl : b.length ≤ 4294967296 := by
          have hw := HW
          unfold wereOf at hw
          split at hw
          · split at hw
            · rename_i h; injection hw with hw; rw [← hw, h.2]; omega
            · cases hw
          · split at hw
            · rename_i h; injection hw with hw; rw [← hw, h]; omega
            · cases hw
        have hg04 := Grows.trans hg03 hg4
        have q3 := hcell_later (hb3.cell (k := 3) rfl) hg4
        have hC := crcOf_lt b
        have hownF := own_baseL hown hg03.size
        have HOWN := Lib.hid hownF
        obtain ⟨A4, c4, rfl, hc4⟩ := own_form hown
        have hL4 := Lies.of_own hown
        have HB : Hid (b.length = b.length) := rfl
        clear hown hownF HO4 HW hL3 q1 l3 hb3 hbel3 hg3 hg1 hL' hb2 hg2 l1 h1
        obtain ⟨bl, hbl2⟩ : ∃ bl, b.length = bl := ⟨_, rfl⟩
        simp only [hbl2] at hbl HOWN hc4
        have HBL := Lib.hid hbl2
        rw [hbl2]
        clear hbl2 HB
        obtain ⟨cs, hcs⟩ : ∃ cs, crcOf b = cs := ⟨_, rfl⟩
        have HCS := Lib.hid hcs
        rw [hcs] at hC
        clear hcs
        go_wp2_with fail
        refine wp_region_ordP 5 [(0, true), (1, true), (2, true), (3, true), (4, true)] (by kernel_rfl) (by kernel_rfl) (by intro c a d v w h; cases d <;> exact h) ?_
        have hgd : Grows w4 w4.drew := (Grows.refl w4).drew
        have hL4 := Lib.hid (hL4.later hgd)
        have q3 := hcell_later q3 hgd
        have HGD := Lib.hid hgd
        have hO := Grows.refl w4.drew
        clear hgd
        generalize w4.drew = wd at *
        have ld1 : ∀ u, Grows wd u → u.cell? ⟨w1.heap.size, 3, none⟩ = some (uv s) := fun u h => hcell_later q3 h
        repeat (first | (refine ord_take hO _ ?_ (by simp only [List.getElem?_cons_succ, List.getElem?_cons_zero]; rfl) (by rfl) ?_ ?_; rotate_left; (· (intro u hu0 hu; (try go_simp); (try with_reducible rfl))); try simp only [Act.put, List.setIfInBounds_toArray, List.set_cons_zero, List.set_cons_succ]) | (refine ord_skip _ (by simp only [List.getElem?_cons_succ, List.getElem?_cons_zero]; rfl) (by rfl) ?_; try simp only [Act.put, List.setIfInBounds_toArray, List.set_cons_zero, List.set_cons_succ]) | (refine ord_call hO _ ?_ (by simp only [List.getElem?_cons_succ, List.getElem?_cons_zero]; rfl) (by rfl) ?_ ?_; rotate_left; (· (intro u hu0 hu; go_simp; (try refine quiet_enter ?_); (exact sum_g _ _ _ HCS _ HBL.out (hL4.out.later hu0) (by omega)))); try simp only [Act.put, List.setIfInBounds_toArray, List.set_cons_zero, List.set_cons_succ]))
        clear hO ld1 q3
        (refine ord_done (fun u hu => ?_); simp only [List.drop_succ_cons, List.drop_zero])
        have hgu := Grows.trans HGD.out hu
        have HOWN := Lib.hid (own_later HOWN.out hgu)
        have hgF := Grows.trans hg04 hgu
        clear hu HGD hgu hg04 hg03 hg4 hL4 hwp
        by_cases hcs2 : cs = s
        · subst hcs2
          have HO6 : Hid (openOf f most = (b, 0)) := by show _ = _; rw [HO5.out, if_pos HCS.out]
          go_wp2_with fail
          refine (must_yes 7 _).mono ?_
          rintro e w' ⟨rfl, rfl⟩
          go_wp2_with fail
          go_ret
          exact .inl (by rw [HO6.out]; exact ⟨rfl, _, rfl, (by show World.ownsRow _ _ _ _ _ b.length _; rw [HBL.out]; exact HOWN.out), hgF⟩)
        · have hq2 : ((cs : Int) == (s : Int)) = false := by simp; omega
          have HO6 : Hid (openOf f most = ([], 7)) := by show _ = _; rw [HO5.out, if_neg (by rw [HCS.out]; exact hcs2)]
          go_wp2_with fail
          refine (must_no 7 _).mono ?_
          rintro e w' ⟨rfl, rfl⟩
          exact ⟨rfl, .inr (by rw [HO6.out]; exact ⟨by decide, rfl, rfl, hgF⟩)⟩
      · have HO5 : Hid (openOf f most = ([], 2)) := by show _ = _; rw [HO4.out, HW]; rfl
        exact ⟨rfl, .inr (by rw [HO5.out]; exact ⟨by decide, rfl, rfl, Grows.trans hg03 hg4⟩)⟩
  · have HO : Hid (openOf f most = ([], 2)) := by show _ = _; unfold openOf; rw [if_pos HF]
    exact ⟨rfl, .inr (by rw [HO.out]; exact ⟨by decide, rfl, rfl, hg1⟩)⟩
end Go.Proofs.YtbcldknecdbemaaDoor

/-
  Contracts of frame's attempt (of bytes) and Open.
-/
namespace Go.Proofs.YtbcldknecdbemaaDoor
open Go.RowKit
set_option linter.unusedVariables false
set_option maxRecDepth 20000

theorem Lies.own_set {w : World} {base : Nat} {e : TypeId} {A : Option Addr} {n c : Nat} {vs : List Value} {p : Addr} {x : Value} (h : w.ownsRow base e 1 (.slice A n c) n vs) (hp : p.block < base) : Lies (w.setCell p x) (w.setCell p x).heap.size A vs := fun j u hu => by
  obtain ⟨ad, rfl, hb, hc⟩ := Lies.of_own h j u hu
  have hge := (h.lt ad.block rfl).1
  refine ⟨ad, rfl, by rw [World.size_setCell]; exact hb, ?_⟩
  rw [World.cell?_setCell_other w _ _ _ (by intro e; have := congrArg Addr.block e; rw [add_block] at this; omega)]
  exact hc

theorem attempt_any (p0 p1 : Value) (r : List UInt8 × Nat) (w : World) (h : ∀ u, Grows w u → Calls Tryd.prog 104 #[p0, p1] u fun e w' => OOut r u e w') :
    Calls Tryd.prog 103 #[.func (.func 104) #[] #[p0, p1]] w fun e w' => ∃ A c', e = .returned (.tuple #[.slice A r.1.length c', iv r.2]) ∧ r.1.length ≤ c' ∧ Lies w' w'.heap.size A (r.1.map bv) ∧ Grows w w' := by
  have hmf : ∀ (fn : Fn) (first cap : Array Value) (w : World), (Instr.makeFunc fn first cap).run Tryd.prog w = .ok (.func fn first cap) w := fun _ _ _ _ => rfl
  have hg0 := grows_alloc w (.cells #[.int .i64 0] 38)
  have hb0 := Has.new w 38 [.int .i64 0]
  have HC := Lib.hid (h _ hg0)
  go_enter_defers Tryd.func103, Tryd.ntmps103
  go_wp2_with fail
  refine HC.out.mono ?_
  rintro e w1 (⟨h0, v, rfl, hown, hg1⟩ | ⟨hne, hnil, rfl, hg1⟩)
  · have hb1 := hb0.later hg1
    have q0 := hb1.cell (k := 0) rfl
    have qf := hb1.free 0
    obtain ⟨A, c', rfl, hc'⟩ := own_form hown
    have hLs := Lies.own_set (p := ⟨w.heap.size, 0, none⟩) (x := .int .i64 0) hown (by rw [World.size_alloc]; show w.heap.size < _; omega)
    have hgs : Below w.heap.size w (w1.setCell ⟨w.heap.size, 0, none⟩ (.int .i64 0)) := Below.setCell (Grows.trans hg0 hg1) (p := ⟨w.heap.size, 0, none⟩) (Nat.le_refl _) _
    go_wp2
    refine leaves_cons (f := 132) (args := #[.pointer (some ⟨w.heap.size, 0, none⟩)]) (by simp) (by simp [go_sem]) ?_
    refine (catch_idle ⟨w.heap.size, 0, none⟩ _).mono ?_
    rintro e u' w'' ⟨rfl, rfl, rfl⟩
    have q1 : (w1.setCell ⟨w.heap.size, 0, none⟩ (.int .i64 0)).cell? ⟨w.heap.size, 0, none⟩ = some (.int .i64 0) := World.cell?_setCell_same w1 _ _ q0
    simp [Leaves, settle, results, Tryd.results103, go_sem, q1]
    exact ⟨A, c', ⟨⟨rfl, rfl⟩, by rw [h0]; rfl⟩, hc', by simpa using hLs, hgs⟩
  · have hb1 := hb0.later hg1
    have q0 := hb1.cell (k := 0) rfl
    have qf := hb1.free 0
    have hgs : Below w.heap.size w (w1.setCell ⟨w.heap.size, 0, none⟩ (iv r.2)) := Below.setCell (Grows.trans hg0 hg1) (p := ⟨w.heap.size, 0, none⟩) (Nat.le_refl _) _
    refine leaves_cons (f := 132) (args := #[.pointer (some ⟨w.heap.size, 0, none⟩)]) (by simp) (by simp [go_sem]) ?_
    refine (catch_panicking ⟨w.heap.size, 0, none⟩ 0 r.2 [] _ q0 qf).mono ?_
    rintro e u' w'' ⟨rfl, rfl, rfl⟩
    have q1 : (w1.setCell ⟨w.heap.size, 0, none⟩ (iv r.2)).cell? ⟨w.heap.size, 0, none⟩ = some (iv r.2) := World.cell?_setCell_same w1 _ _ q0
    simp [Leaves, settle, results, Tryd.results103, go_sem, q1]
    rw [hnil]
    exact ⟨none, 0, ⟨rfl, rfl, rfl⟩, Nat.le_refl _, Lies.empty, hgs⟩

theorem open_any (A : Option Addr) (n c : Nat) (f : List UInt8) (most : Int) (w : World) (hl : f.length = n) (hr : Lies w w.heap.size A (f.map bv)) (hc : n ≤ c) (hn : n ≤ 1000000000) :
    Calls Tryd.prog 75 #[.slice A n c, .int .i64 most] w fun e w' => ∃ (l : List UInt8) (er ln c' : Nat) (A' : Option Addr), Hid (openOf f most = (l, er)) ∧ Hid (l.length = ln) ∧ e = .returned (.tuple #[.slice A' ln c', iv er]) ∧ ln ≤ c' ∧ Lies w' w'.heap.size A' (l.map bv) ∧ Grows w w' := by
  have hmf : ∀ (fn : Fn) (first cap : Array Value) (w : World), (Instr.makeFunc fn first cap).run Tryd.prog w = .ok (.func fn first cap) w := fun _ _ _ _ => rfl
  have hga := grows_alloc w (.cells #[.slice A n c] 22)
  have hba := Has.new w 22 [.slice A n c]
  have hgb := grows_alloc (w.alloc (.cells #[.slice A n c] 22)) (.cells #[.int .i64 most] 3)
  have hbb := Has.new (w.alloc (.cells #[.slice A n c] 22)) 3 [.int .i64 most]
  have hba2 := hba.later hgb
  have hg2 := Grows.trans hga hgb
  have hr2 := hr.later hg2
  have hsz : (w.alloc (.cells #[.slice A n c] 22)).heap.size = w.heap.size + 1 := World.size_alloc _ _
  rw [hsz] at hbb
  have AT := attempt_any (.pointer (some ⟨w.heap.size, 0, none⟩)) (.pointer (some ⟨w.heap.size + 1, 0, none⟩)) (openOf f most) _ (fun u hu => open1_any w.heap.size (w.heap.size + 1) A n c f most u (hba2.later hu) (hbb.later hu) hl (hr2.later hu) hc hn)
  have HAT := Lib.hid AT
  clear AT
  go_enter Tryd.func75, Tryd.ntmps75
  go_wp2_with fail
  refine HAT.out.mono ?_
  rintro e w1 ⟨A', c', rfl, hc', hL', hg1⟩
  obtain ⟨l, er, ho⟩ : ∃ l er, openOf f most = (l, er) := ⟨_, _, rfl⟩
  simp only [ho] at hc' hL' ⊢
  have HO := Lib.hid ho
  clear ho HAT
  go_wp2_with fail
  go_ret2
  exact ⟨l, er, _, c', A', HO, rfl, rfl, hc', hL', Grows.trans hg2 hg1⟩
end Go.Proofs.YtbcldknecdbemaaDoor
