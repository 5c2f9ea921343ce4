/-
  A chunk's frame, as functions of lists (of no program): what is sealed, what is opened, and that one is opened as it was.
-/
import Derived.Test.YthnjbmaiebiehaaCrcC
import Derived.Test.YthnjbmaiebiehaaLzM
namespace Go.Proofs.Ythnjbmaiebiehaa
open Go.RowKit
set_option linter.unusedVariables false

def formB (f : List UInt8) : Bool := decide (10 ≤ f.length) && (f.getD 0 0 == 76 && (f.getD 1 0 == 0 || f.getD 1 0 == 1))
def pkB (f : List UInt8) : Bool := f.getD 1 0 == 1
def toldN (f : List UInt8) : Nat := numTo ((f.drop 2).take 4) 4
def keptL (f : List UInt8) : List UInt8 := (f.drop 6).take (f.length - 10)
def sumN (f : List UInt8) : Nat := numTo (f.drop (f.length - 4)) 4
/-- The bytes that are kept, as they were. -/
def wereOf (pk : Bool) (k : Nat) (l : List UInt8) : Option (List UInt8) :=
  if pk = true then (if (unpackOf l k).2 = 0 ∧ (unpackOf l k).1.length = k then some (unpackOf l k).1 else none) else if l.length = k then some l else none
def sumOf (s : Nat) : Option (List UInt8) → List UInt8 × Nat
  | none => ([], 2)
  | some b => if crcOf b = s then (b, 0) else ([], 7)
def openOf (f : List UInt8) (most : Int) : List UInt8 × Nat :=
  if formB f = false then ([], 2) else if most < (toldN f : Int) then ([], 3) else sumOf (sumN f) (wereOf (pkB f) (toldN f) (keptL f))
def frameOf (t : UInt8) (k : Nat) (mid : List UInt8) (s : Nat) : List UInt8 := [76, t] ++ four k ++ mid ++ four s
def sealOf (b : List UInt8) : List UInt8 := if (packOf b).length < b.length then frameOf 1 b.length (packOf b) (crcOf b) else frameOf 0 b.length b (crcOf b)

theorem four_eq (s : Nat) : four s = [UInt8.ofNat s, UInt8.ofNat (s / 256), UInt8.ofNat (s / 65536), UInt8.ofNat (s / 16777216)] := by simp [four, List.range, List.range.loop]
theorem num_four (s : Nat) (h : s < 4294967296) : numTo (four s) 4 = s := (num_inj (four s) s (four_len s) h).2 rfl
theorem toldN_lt (f : List UInt8) : toldN f < 4294967296 := numTo_lt _ 4
theorem sumN_lt (f : List UInt8) : sumN f < 4294967296 := numTo_lt _ 4
theorem keptL_len {f : List UInt8} {m : Nat} (h : f.length = m + 10) : (keptL f).length = m := by unfold keptL; rw [List.length_take, List.length_drop]; omega

section
variable (t : UInt8) (k : Nat) (mid : List UInt8) (s : Nat)
theorem frame_cons : frameOf t k mid s = 76 :: t :: UInt8.ofNat k :: UInt8.ofNat (k / 256) :: UInt8.ofNat (k / 65536) :: UInt8.ofNat (k / 16777216) :: (mid ++ four s) := by
  unfold frameOf; rw [four_eq k]; simp
theorem frame_len : (frameOf t k mid s).length = mid.length + 10 := by rw [frame_cons]; simp [four_len]
theorem frame_form (h : t = 0 ∨ t = 1) : formB (frameOf t k mid s) = true := by
  unfold formB
  rw [frame_len, frame_cons]
  rcases h with rfl | rfl <;> simp
theorem frame_pk : pkB (frameOf t k mid s) = (t == 1) := by unfold pkB; rw [frame_cons]; rfl
theorem frame_told (h : k < 4294967296) : toldN (frameOf t k mid s) = k := by
  unfold toldN
  rw [frame_cons]
  have : (List.take 4 (List.drop 2 (76 :: t :: UInt8.ofNat k :: UInt8.ofNat (k / 256) :: UInt8.ofNat (k / 65536) :: UInt8.ofNat (k / 16777216) :: (mid ++ four s)))) = four k := by rw [four_eq k]; rfl
  rw [this]
  exact num_four k h
theorem frame_kept : keptL (frameOf t k mid s) = mid := by
  unfold keptL
  rw [frame_len, frame_cons]
  show List.take _ (mid ++ four s) = mid
  rw [show mid.length + 10 - 10 = mid.length by omega, List.take_left]
theorem frame_sum (h : s < 4294967296) : sumN (frameOf t k mid s) = s := by
  unfold sumN
  rw [frame_len, show mid.length + 10 - 4 = mid.length + 6 by omega, frame_cons]
  show numTo (List.drop mid.length (mid ++ four s)) 4 = s
  rw [List.drop_left]
  exact num_four s h
end
theorem crcOf_lt (b : List UInt8) : crcOf b < 4294967296 := cmore_lt (s := 0) (by omega) b

/-- A frame, however its bytes are kept, is opened. -/
theorem open_frame (t : UInt8) (b mid : List UInt8) (most : Int) (ht : t = 0 ∨ t = 1) (hb : b.length < 4294967296) (hm : wereOf (t == 1) b.length mid = some b) :
    openOf (frameOf t b.length mid (crcOf b)) most = if most < (b.length : Int) then ([], 3) else (b, 0) := by
  unfold openOf
  rw [frame_form _ _ _ _ ht, frame_told _ _ _ _ hb, frame_pk, frame_kept, frame_sum _ _ _ _ (crcOf_lt b), hm]
  simp [sumOf]
theorem were_plain (b : List UInt8) : wereOf ((0 : UInt8) == 1) b.length b = some b := by unfold wereOf; rw [if_neg (by decide), if_pos rfl]
theorem were_packed {b p : List UInt8} (h : unpackOf p b.length = (b, 0)) : wereOf ((1 : UInt8) == 1) b.length p = some b := by
  unfold wereOf
  rw [if_pos (by decide), h, if_pos ⟨rfl, rfl⟩]
theorem unpack_own (b : List UInt8) : unpackOf (packOf b) b.length = (b, 0) := by rw [unpack_pack b _ (by omega), if_pos (Int.le_refl _)]
theorem open_seal (b : List UInt8) (most : Int) (hb : b.length < 4294967296) : openOf (sealOf b) most = if most < (b.length : Int) then ([], 3) else (b, 0) := by
  unfold sealOf
  split
  · exact open_frame 1 b _ most (.inr rfl) hb (were_packed (unpack_own b))
  · exact open_frame 0 b _ most (.inl rfl) hb (were_plain b)
theorem seal_form (b : List UInt8) : formB (sealOf b) = true := by
  unfold sealOf
  split
  · exact frame_form _ _ _ _ (.inr rfl)
  · exact frame_form _ _ _ _ (.inl rfl)
theorem seal_told (b : List UInt8) (hb : b.length < 4294967296) : toldN (sealOf b) = b.length := by
  unfold sealOf
  split <;> exact frame_told _ _ _ _ hb
theorem seal_len (b : List UInt8) : (sealOf b).length ≤ b.length + 10 ∧ 10 ≤ (sealOf b).length ∧ pkB (sealOf b) = decide ((sealOf b).length < b.length + 10) := by
  unfold sealOf
  split
  · rename_i h
    rw [frame_len, frame_pk]
    exact ⟨by omega, by omega, by rw [decide_eq_true (by omega)]; rfl⟩
  · rw [frame_len, frame_pk]
    exact ⟨by omega, by omega, by rw [decide_eq_false (by omega)]; rfl⟩
theorem seal_nil : sealOf [] = [76, 0, 0, 0, 0, 0, 0, 0, 0, 0] := by
  unfold sealOf
  rw [if_neg (by simp), frame_cons]
  decide
theorem openOf_nil {f : List UInt8} {most : Int} (h : (openOf f most).2 ≠ 0) : (openOf f most).1 = [] := by
  unfold openOf at *
  split
  · rfl
  · rename_i h1
    rw [if_neg h1] at h
    split
    · rfl
    · rename_i h2
      rw [if_neg h2] at h
      unfold sumOf at *
      split
      · rfl
      · rename_i b hb
        rw [hb] at h
        simp only [] at h
        split
        · rename_i h3; rw [if_pos h3] at h; exact absurd rfl h
        · rfl
end Go.Proofs.Ythnjbmaiebiehaa
