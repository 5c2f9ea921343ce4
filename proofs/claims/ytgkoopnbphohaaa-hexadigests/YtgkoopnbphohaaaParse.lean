/-
  Contract of hexa.Parse: the bytes whose digits the text is, in new memory, and OK; or none, and ErrForm. Condition: the text has at most a million bytes.
-/
import Derived.Test.YtgkoopnbphohaaaPair
import Derived.BigQuiet
namespace Go.Proofs.Ytgkoopnbphohaaa
open Go.RowKit
set_option linter.unusedVariables false

/-- The byte of the k-th two digits. -/
def pairAt (s : List UInt8) (k : Nat) : Option UInt8 := (pairN (s.getD (2 * k) 0).toNat (s.getD (2 * k + 1) 0).toNat).map UInt8.ofNat
def pref (s : List UInt8) : Nat → Option (List UInt8)
  | 0 => some []
  | k + 1 => match pref s k, pairAt s k with
    | some l, some c => some (l ++ [c])
    | _, _ => none
/-- The bytes of digits, if they are digits. -/
def unhex (s : List UInt8) : Option (List UInt8) := if s.length % 2 = 1 then none else pref s (s.length / 2)

theorem pref_length {s : List UInt8} : ∀ {k : Nat} {l : List UInt8}, pref s k = some l → l.length = k
  | 0, l, h => by simp [pref] at h; subst h; rfl
  | k + 1, l, h => by
    simp only [pref] at h
    split at h
    · rename_i l' c hl hc
      injection h with h
      subst h
      simp [pref_length hl]
    · cases h
theorem pref_none {s : List UInt8} {k : Nat} (h : pref s k = none) : ∀ j, pref s (k + j) = none
  | 0 => h
  | j + 1 => by
    have := pref_none h j
    show pref s (k + j + 1) = none
    simp only [pref, this]
theorem pref_none_le {s : List UInt8} {k m : Nat} (h : pref s k = none) (hk : k ≤ m) : pref s m = none := by
  have := pref_none h (m - k)
  rwa [show k + (m - k) = m from by omega] at this
theorem row_set (l : List UInt8) (c : UInt8) (k m : Nat) (z : Value) (hl : l.length = k) (hk : k < m) :
    (l.map bv ++ List.replicate (m - k) z).set k (bv c) = (l ++ [c]).map bv ++ List.replicate (m - (k + 1)) z := by
  rw [List.set_append, if_neg (by simp; omega)]
  have e : m - k = (m - (k + 1)) + 1 := by omega
  rw [e, List.replicate_succ]
  simp [hl]

theorem made_bytes (m : Nat) : (madeCells (Value.int .u8 0).cells (m * 1)).toList = List.replicate m (.int .u8 0) := by
  apply List.ext_getElem
  · simp [madeCells]
  · intro j h1 h2
    simp [madeCells, Value.cells, Nat.mod_one]

def ParseRes (w : World) (r : Option (List UInt8)) (e : Ending) (w' : World) : Prop :=
  Below w.heap.size w w' ∧ match r with
    | some l => ∃ v, e = .returned (.tuple #[v, .int .i64 0]) ∧ w'.ownsRow w.heap.size 5 1 v l.length (l.map bv)
    | none => e = .returned (.tuple #[.slice none 0 0, .int .i64 2])

theorem at_run (s : List UInt8) (j : Nat) (hj : j < s.length) (i : Int) (hi : i = (j : Int)) (w : World) : (Instr.index 9 (.string ⟨s.toArray⟩) (.int .i64 i)).run Try.prog w = .ok (.int .u8 ((s.getD j 0).toNat : Int)) w := by
  subst hi
  have hs : (⟨s.toArray⟩ : ByteArray).size = s.length := by show s.toArray.size = _; simp
  rw [run_index_string w 9 _ .i64 j Try.underlying9, dif_pos ⟨by omega, by rw [hs]; omega⟩]
  simp only [Int.toNat_natCast]
  have : (⟨s.toArray⟩ : ByteArray)[j] = s.getD j 0 := by
    show s.toArray[j] = _
    simp [List.getD, List.getElem?_eq_getElem hj]
  rw [this]

set_option maxHeartbeats 1000000 in
theorem parse_any (s : List UInt8) (w : World) (hs : s.length ≤ 1000000) :
    Calls Try.prog 10 #[.string ⟨s.toArray⟩] w (ParseRes w (unhex s)) := by
  obtain ⟨i0, hi0, hz0, hz1, hz2⟩ := info_parts byte_info
  by_cases hodd : s.length % 2 = 1
  · have hr : unhex s = none := by simp [unhex, hodd]
    rw [hr]
    have o1 : ((s.length : Int) % 2 == 0) = false := by simp; omega
    have o2 : ((s.length : Int) % 2 != 0) = true := by simp; omega
    clear hodd hr
    go_enter Try.func10, Try.ntmps10
    go_wp2
    go_ret2
    exact ⟨Below.refl _ _, rfl⟩
  · obtain ⟨m, hm⟩ : ∃ m, s.length = 2 * m := ⟨s.length / 2, by omega⟩
    have hr : unhex s = pref s m := by
      unfold unhex
      rw [if_neg hodd, hm]
      congr 1
      omega
    rw [hr]
    have o1 : ((s.length : Int) % 2 == 0) = true := by simp; omega
    have o2 : ((s.length : Int) % 2 != 0) = false := by simp; omega
    have o3 : (s.length : Int) / 2 = m := by omega
    have hm2 : m ≤ 500000 := by omega
    have HM := Lib.hid hm
    clear hodd hr hm
    go_enter Try.func10, Try.ntmps10
    go_wp2_with (at_make; refine wpList_make_full _ rfl _ _ _ rfl w.heap.size 5 i0 _ 1 Try.underlying22 hi0 hz0 hz1 .i64 .i64 _ _ m rfl rfl (by omega) (by omega) (by rw [hz2]; omega) (by unfold maxLen; omega) (Nat.le_refl _) ?_; intro w1 hown hg)
    rw [made_bytes] at hown
    go_loopw [5, 6, 7, 18] (fun _ _ _ i wr => ∃ (k : Nat) (l : List UInt8), k ≤ m ∧ i = .int .i64 k ∧ pref s k = some l ∧ wr.ownsRow w.heap.size 5 1 (.slice (some ⟨w.heap.size, 0, none⟩) m m) m (l.map bv ++ List.replicate (m - k) (.int .u8 0)) ∧ Below w.heap.size w wr) (fun _ _ _ i _ => m - (intOf i).toNat)
    case atStart => exact ⟨0, [], Nat.zero_le _, rfl, rfl, by simpa using hown, (Below.refl _ _).grown hg (Nat.le_refl _) (by simp)⟩
    case round =>
      clear hown hg
      obtain ⟨k, l, hk, rfl, hpref, hown, hbel⟩ := hrel
      have HP := Lib.hid hpref
      clear hpref
      by_cases hlt : k < m
      · have r0 := at_run s (2 * k) (by rw [HM.out]; omega) (2 * (k : Int)) (by omega)
        have r1 := at_run s (2 * k + 1) (by rw [HM.out]; omega) (2 * (k : Int) + 1) (by omega)
        cases hpa : pairN (s.getD (2 * k) 0).toNat (s.getD (2 * k + 1) 0).toNat with
        | none =>
          have hfin : pref s m = none := pref_none_le (k := k + 1) (by simp only [pref, HP.out, pairAt, hpa]; rfl) (by omega)
          have HF := Lib.hid hfin
          have HA := Lib.hid hpa
          clear hfin hpa
          generalize (s.getD (2 * k) 0).toNat = c0 at *
          generalize (s.getD (2 * k + 1) 0).toNat = c1 at *
          go_wp2
          go_quiet ((go_at_call 25; exact Calls.quiet_of_same ((pair_no c0 c1 _ HA.out).mono fun _ _ h => ⟨h.1, h.2.symm⟩)))
          go_wp2_with fail
          refine (is_true 2 _).mono ?_
          rintro e w' ⟨rfl, rfl⟩
          go_wp2_with fail
          go_ret2
          rw [HF.out]
          exact ⟨below_draws hbel, rfl⟩
        | some d =>
          have hd := pairN_lt hpa
          have hnext : pref s (k + 1) = some (l ++ [UInt8.ofNat d]) := by simp only [pref, HP.out, pairAt, hpa]; rfl
          have HN := Lib.hid hnext
          have HA := Lib.hid hpa
          clear hnext hpa
          generalize (s.getD (2 * k) 0).toNat = c0 at *
          generalize (s.getD (2 * k + 1) 0).toNat = c1 at *
          have hll := pref_length HP.out
          have hcell : ∃ u, wr.cell? ⟨w.heap.size, k, none⟩ = some u := ⟨_, (hown.cellAt k (by omega)).trans (List.getElem?_eq_getElem (by have := hown.1; omega))⟩
          obtain ⟨u, hcell⟩ := hcell
          have hfz := hown.frozenAt k
          have HLL := Lib.hid hll
          clear hll
          go_wp2
          go_quiet ((go_at_call 25; exact Calls.quiet_of_same ((pair_yes c0 c1 d _ HA.out).mono fun _ _ h => ⟨h.1, h.2.symm⟩)))
          go_wp2_with fail
          refine (is_false 0 2 _ (by omega)).mono ?_
          rintro e w' ⟨rfl, rfl⟩
          go_wp2_with fail
          have ebd : Value.int .u8 (d : Int) = bv (UInt8.ofNat d) := by
            have : (UInt8.ofNat d).toNat = d := by simp; omega
            simp only [bv, this]
          rw [ebd]
          go_roundw
          case rel =>
            have hown2 : (wr.drewN nq).ownsRow w.heap.size 5 1 (.slice (some ⟨w.heap.size, 0, none⟩) m m) m (l.map bv ++ List.replicate (m - k) (.int .u8 0)) := hown
            have hst := (hown2.stored k (bv (UInt8.ofNat d))).1
            rw [row_set l _ k m _ HLL.out hlt] at hst
            exact ⟨k + 1, l ++ [UInt8.ofNat d], by omega, by go_num, HN.out, hst, (below_draws hbel).setCell (Nat.le_refl _) _⟩
          case measure => simp [intOf]; omega
      · obtain rfl : k = m := by omega
        go_wp2
        go_ret2
        rw [HP.out]
        refine ⟨hbel, _, rfl, ?_⟩
        rw [pref_length HP.out]
        simpa using hown
end Go.Proofs.Ytgkoopnbphohaaa
