/-
  Contracts of the reference's functions of layer 4: Word, Words, left, Over, Hash.
-/
import Derived.Test.YtkgkkobdpgnicaaDoorRows
import Derived.Test.YtkgkkobdpgnicaaDoorCel
import Derived.Test.YtkgkkobdpgnicaaDoorRollM
import Derived.Test.YtkgkkobdpgnicaaDoorRFew
import Derived.Laws.BitsAllLaws
import Derived.Outline
import Derived.Lib.Hide
import Derived.BigQuiet
namespace Go.Proofs.YtkgkkobdpgnicaaDoor
open Go.RowKit
set_option linter.unusedVariables false

theorem ret_u32 {a b : Int} (h : a = b) : Ending.returned (.int .u32 a) = .returned (.int .u32 b) := by rw [h]
/-- The word ahead of the byte k's. -/
def wpre : Nat → Nat
  | 0 => 2654435769
  | k + 1 => wnext (wpre k)
theorem wnth_pre : ∀ k, wnth k = wpre (k + 1)
  | 0 => rfl
  | k + 1 => by rw [wnth, wnth_pre k]; rfl
theorem wpre_lt : ∀ k, wpre k < 4294967296
  | 0 => by decide
  | k + 1 => wnext_lt (wpre_lt k)

theorem wnext_bits {x : Nat} (hx : x < 4294967296) : bits .xor .u32 (bits .xor .u32 (bits .xor .u32 (x : Int) ((x : Int) * 8192 % 4294967296)) ((bits .xor .u32 (x : Int) ((x : Int) * 8192 % 4294967296)).tdiv 131072 % 4294967296))
      (bits .xor .u32 (bits .xor .u32 (x : Int) ((x : Int) * 8192 % 4294967296)) ((bits .xor .u32 (x : Int) ((x : Int) * 8192 % 4294967296)).tdiv 131072 % 4294967296) * 32 % 4294967296) = ((wnext x : Nat) : Int) := by
  have h1 : (x : Int) * 8192 % 4294967296 = ((x * 8192 % 4294967296 : Nat) : Int) := by omega
  have h2 : x * 8192 % 4294967296 < 4294967296 := Nat.mod_lt _ (by decide)
  have h3 := Nat.xor_lt_two_pow (n := 32) hx h2
  unfold wnext
  rw [h1, u32_xor_nat x _ hx h2]
  simp only []
  generalize x ^^^ x * 8192 % 4294967296 = a at *
  have h4 : ((a : Int).tdiv 131072) % 4294967296 = ((a / 131072 : Nat) : Int) := by rw [Int.tdiv_eq_ediv_of_nonneg (by omega)]; omega
  have h5 : a / 131072 < 4294967296 := by omega
  have h6 := Nat.xor_lt_two_pow (n := 32) h3 h5
  rw [h4, u32_xor_nat a _ h3 h5]
  generalize a ^^^ a / 131072 = b at *
  have h7 : (b : Int) * 32 % 4294967296 = ((b * 32 % 4294967296 : Nat) : Int) := by omega
  rw [h7, u32_xor_nat b _ h6 (Nat.mod_lt _ (by decide))]

/-- The next word, step by step. -/
theorem wnext_parts {x : Nat} (hx : x < 4294967296) : ∃ a b : Nat, bits .xor .u32 (x : Int) ((x : Int) * 8192 % 4294967296) = (a : Int) ∧ bits .xor .u32 (a : Int) ((a : Int) / 131072) = (b : Int) ∧
    bits .xor .u32 (b : Int) ((b : Int) * 32 % 4294967296) = ((wnext x : Nat) : Int) ∧ a < 4294967296 ∧ b < 4294967296 := by
  have h1 : (x : Int) * 8192 % 4294967296 = ((x * 8192 % 4294967296 : Nat) : Int) := by omega
  have h2 : x * 8192 % 4294967296 < 4294967296 := Nat.mod_lt _ (by decide)
  have h3 := Nat.xor_lt_two_pow (n := 32) hx h2
  refine ⟨x ^^^ x * 8192 % 4294967296, (x ^^^ x * 8192 % 4294967296) ^^^ (x ^^^ x * 8192 % 4294967296) / 131072, by rw [h1, u32_xor_nat x _ hx h2], ?_⟩
  unfold wnext
  simp only []
  generalize x ^^^ x * 8192 % 4294967296 = a at *
  have h4 : (a : Int) / 131072 = ((a / 131072 : Nat) : Int) := by omega
  have h5 : a / 131072 < 4294967296 := by omega
  have h6 := Nat.xor_lt_two_pow (n := 32) h3 h5
  refine ⟨by rw [h4, u32_xor_nat a _ h3 h5], ?_⟩
  generalize a ^^^ a / 131072 = b at *
  have h7 : (b : Int) * 32 % 4294967296 = ((b * 32 % 4294967296 : Nat) : Int) := by omega
  exact ⟨by rw [h7, u32_xor_nat b _ h6 (Nat.mod_lt _ (by decide))], h3, h6⟩

theorem word_info : (Tryd.prog.info? 39).map (fun i => (i.zero, i.size, i.bytes)) = some (some (.int .u32 0), 1, 4) := by kernel_rfl
/-- All words. -/
def wordList (n : Nat) : List Nat := (List.range n).map wnth
theorem wordList_succ (k : Nat) : wordList (k + 1) = wordList k ++ [wnth k] := by simp [wordList, List.range_succ]

set_option maxRecDepth 20000 in
set_option maxHeartbeats 1000000 in
theorem rwords_any (w : World) :
    Calls Tryd.prog 33 #[] w fun e w' => ∃ A c, e = .returned (.slice A 256 c) ∧ Lies w' w'.heap.size A ((wordList 256).map uv) ∧ Grows w w' := by
  obtain ⟨i0, hi0, hz0, hz1, hz2⟩ := info_parts word_info
  generalize hW0 : wordList 256 = W0
  have HW0 : Hid (∀ k, k = 256 → wordList k = W0) := fun k hk => by rw [hk]; exact hW0
  clear hW0
  go_enter Tryd.func33, Tryd.ntmps33
  go_wp2
  go_loopw [1, 2, 3] (fun v x i wr => ∃ k : Nat, k ≤ 256 ∧ i = .int .i64 k ∧ x = uv (wpre k) ∧ wr.ownsRow w.heap.size 39 1 v k ((wordList k).map uv) ∧ Grows w wr) (fun _ _ i _ => 256 - (intOf i).toNat)
  case atStart => exact ⟨0, Nat.zero_le _, rfl, rfl, World.ownsRow_nil _ _ _ _, Grows.refl _⟩
  case round =>
    obtain ⟨k, hk, rfl, rfl, hown, hgr⟩ := hrel
    by_cases hlt : k < 256
    · have hx := wpre_lt k
      have HN : Hid (wpre (k + 1) = wnext (wpre k)) := rfl
      have HL : Hid (wordList (k + 1) = wordList k ++ [wpre (k + 1)]) := by show _ = _; rw [wordList_succ, wnth_pre]
      generalize wordList k = l at *
      generalize hy : wpre (k + 1) = y at *
      have HY := Lib.hid hy
      clear hy
      generalize wpre k = x at *
      obtain ⟨a, b, e1, e2, e3, ha, hb⟩ := wnext_parts hx
      rw [← HN.out] at e3
      have hnew := Lies.new wr 39 [uv y]
      go_wp2_with (at_builtin; refine wpList_append_src _ rfl (.tmp 20) (.tmp 22) _ rfl w.heap.size 39 i0 _ 4 Tryd.underlying71 hi0 hz0 hz1 hz2 rfl _ k _ rfl (hown.alloc _) _ _ 1 1 [uv y] rfl rfl hnew (by simp [Value.oneCell']) (by unfold maxLen; omega) (by omega) (by rw [World.size_alloc]; have := hgr.size; omega) ?_; intro v' w' hown' hg' hat')
      have hb2 : Below w.heap.size wr w' := ((Below.refl _ wr).alloc hgr.size _).grown hg' (by rw [World.size_alloc]; have := hgr.size; omega) (own_ge hown)
      rw [show [uv y] = [y].map uv from rfl, ← List.map_append, ← HL.out] at hown'
      go_roundw
      case rel => exact ⟨k + 1, by omega, by go_num, by rw [HY.out], hown', Below.trans hgr hb2⟩
      case measure => simp [intOf]; omega
    · have hk6 : k = 256 := by omega
      rw [HW0.out k hk6] at hown
      generalize wpre k = x at *
      subst hk6
      obtain ⟨A', c', rfl, hc⟩ := own_form hown
      go_wp2
      go_ret
      exact ⟨A', c', rfl, Lies.of_own hown, hgr⟩

set_option maxHeartbeats 400000 in
theorem rleft_any (x n : Nat) (w : World) (hx : x < 4294967296) (hn : n ≤ 1000000) :
    Calls Tryd.prog 56 #[uv x, .int .i64 (n : Int)] w fun e w' => e = .returned (uv (rln n x)) ∧ w = w' := by
  go_enter Tryd.func56, Tryd.ntmps56
  go_wp2
  go_loop [0, 5] (fun y i => ∃ k : Nat, k ≤ n ∧ i = .int .i64 k ∧ y = uv (rln k x)) (fun _ i => n - (intOf i).toNat)
  case atStart => exact ⟨0, Nat.zero_le _, rfl, rfl⟩
  case round =>
    obtain ⟨k, hk, rfl, rfl⟩ := hrel
    by_cases hlt : k < n
    · have hy := rln_lt k hx
      have HS := Lib.hid (rln_succ k x)
      generalize rln k x = y at *
      go_wp2
      go_round
      case rel => exact ⟨k + 1, by omega, by go_num, by rw [HS.out]; exact congrArg (Value.int .u32) (by unfold rl; omega)⟩
      case measure => simp [intOf]; omega
    · obtain rfl : k = n := by omega
      go_wp2
      go_ret
      exact ⟨rfl, rfl⟩

theorem wordList_at (c : UInt8) : ((wordList 256).map uv)[c.toNat]? = some (uv (wordOf c)) := by
  have := c.toNat_lt
  rw [List.getElem?_map, show (wordList 256)[c.toNat]? = some (wordOf c) by unfold wordList wordOf; rw [List.getElem?_map, List.getElem?_range (by omega)]; rfl]
  rfl
theorem last16_len (l : List UInt8) : (last16 l).length = min 16 l.length := by unfold last16; rw [List.length_drop]; omega
theorem last16_at (l : List UInt8) (k : Nat) : (last16 l)[k]? = l[l.length - 16 + k]? := by unfold last16; rw [List.getElem?_drop]

theorem overTo_lt (l : List UInt8) : ∀ k, overTo l k < 4294967296
  | 0 => by rw [overTo]; decide
  | k + 1 => by rw [overTo]; exact Nat.xor_lt_two_pow (n := 32) (overTo_lt l k) (rln_lt _ (wordOf_lt _))

set_option maxRecDepth 20000 in
set_option maxHeartbeats 2000000 in
theorem rover_any (A : Option Addr) (c : Nat) (B : Option Addr) (n c' : Nat) (bs : List UInt8) (w : World) (hA : Lies w w.heap.size A ((wordList 256).map uv)) (hl : bs.length = n) (hr : Lies w w.heap.size B (bs.map bv)) (hn : n ≤ 1000000000000) :
    Calls Tryd.prog 48 #[.slice A 256 c, .slice B n c'] w fun e w' => e = .returned (uv (hashOf bs)) ∧ w = w' := by
  have HA := Lib.hid hA
  clear hA
  have HL := Lib.hid hl
  have HF : Hid (hashOf bs = overTo (last16 bs) (min 16 n)) := by show _ = _; unfold hashOf; rw [← overTo_all, last16_len, hl]
  have HN : Hid ((last16 bs).length = min 16 n) := by show _ = _; rw [last16_len, hl]
  have HT : Hid (∀ k, (last16 bs)[k]? = bs[n - 16 + k]?) := fun k => by rw [last16_at, hl]
  have HO : Hid (∀ k, overTo (last16 bs) k < 4294967296) := overTo_lt _
  clear hl
  have HQ : Hid (min 16 n = n - (n - 16) ∧ n - 16 ≤ n ∧ min 16 n ≤ 16) := ⟨by omega, by omega, by omega⟩
  generalize min 16 n = q at *
  generalize hashOf bs = want at *
  go_enter Tryd.func48, Tryd.ntmps48
  by_cases h16 : n < 16
  · have HM : Hid (n - 16 = 0) := by show _ = _; omega
    generalize n - 16 = m at *
    have hlt0 : (n : Int) - 16 < 0 := by omega
    go_wp2
    go_loop [5, 7] (fun y i => ∃ k j : Nat, k ≤ q ∧ Hid (j = m + k) ∧ i = .int .i64 (j : Int) ∧ y = uv (overTo (last16 bs) k)) (fun _ i => n - (intOf i).toNat)
    case atStart => exact ⟨0, m, Nat.zero_le _, rfl, by rw [HM.out]; rfl, rfl⟩
    case round =>
      obtain ⟨k, j, hk, HJ, rfl, rfl⟩ := hrel
      by_cases hlt : k < q
      · obtain ⟨b, hbk⟩ : ∃ b, bs[j]? = some b := ⟨_, List.getElem?_eq_getElem (by have := HJ.out; have := HQ.out; rw [HL.out]; omega)⟩
        obtain ⟨ad, rfl, _, cx⟩ := hr.at_ (j := j) (u := bv b) (by rw [List.getElem?_map, hbk]; rfl)
        obtain ⟨ad2, rfl, _, cw⟩ := HA.out.at_ (wordList_at b)
        have hb8 := b.toNat_lt
        have HS : Hid (overTo (last16 bs) (k + 1) = overTo (last16 bs) k ^^^ rln (q - 1 - k) (wordOf b)) := by
          show _ = _
          rw [overTo, HN.out, List.getD, HT.out, ← HJ.out, hbk]
          rfl
        have hy := HO.out k
        have hw := wordOf_lt b
        clear hbk
        generalize overTo (last16 bs) k = y at *
        have hx := rln_lt (q - 1 - k) hw
        have LE : ∀ u : World, Calls Tryd.prog 56 #[uv (wordOf b), .int .i64 ((q - 1 - k : Nat) : Int)] u fun e w' => e = .returned (uv (rln (q - 1 - k) (wordOf b))) ∧ u = w' := fun u => rleft_any _ _ u hw (by have := HQ.out; omega)
        have LE := Lib.hid LE
        generalize rln (q - 1 - k) (wordOf b) = z at *
        generalize wordOf b = x at *
        have hxo : bits .xor .u32 (y : Int) (z : Int) = ((y ^^^ z : Nat) : Int) := u32_xor_nat y z hy hx
        have hsub : (n : Int) - 1 - (j : Int) = ((q - 1 - k : Nat) : Int) := by have := HJ.out; have := HQ.out; omega
        have hjn : j < n := by have := HJ.out; have := HQ.out; omega
        generalize q - 1 - k = d at *
        go_wp2_with fail
        refine (LE.out _).mono ?_
        rintro e w' ⟨rfl, rfl⟩
        go_wp2
        go_round
        case rel => exact ⟨k + 1, j + 1, by omega, by have := HJ.out; exact (by omega : j + 1 = m + (k + 1)), by go_num, by rw [HS.out]⟩
        case measure => simp [intOf]; omega
      · have hkq : k = q := by omega
        have hjn : j = n := by have := HJ.out; have := HQ.out; omega
        subst hkq hjn
        have HF' := Lib.hid HF.out.symm
        generalize overTo (last16 bs) k = y at *
        obtain rfl := HF'.out
        clear HF' HF
        go_wp2
        go_ret
        exact ⟨rfl, rfl⟩
  · have HM : Hid ((n : Int) - 16 = ((n - 16 : Nat) : Int)) := by show _ = _; omega
    generalize n - 16 = m at *
    have hlt0 : ¬ ((n : Int) - 16 < 0) := by omega
    go_wp2
    go_loop [5, 7] (fun y i => ∃ k j : Nat, k ≤ q ∧ Hid (j = m + k) ∧ i = .int .i64 (j : Int) ∧ y = uv (overTo (last16 bs) k)) (fun _ i => n - (intOf i).toNat)
    case atStart => exact ⟨0, m, Nat.zero_le _, rfl, congrArg (Value.int .i64) HM.out, rfl⟩
    case round =>
      obtain ⟨k, j, hk, HJ, rfl, rfl⟩ := hrel
      by_cases hlt : k < q
      · obtain ⟨b, hbk⟩ : ∃ b, bs[j]? = some b := ⟨_, List.getElem?_eq_getElem (by have := HJ.out; have := HQ.out; rw [HL.out]; omega)⟩
        obtain ⟨ad, rfl, _, cx⟩ := hr.at_ (j := j) (u := bv b) (by rw [List.getElem?_map, hbk]; rfl)
        obtain ⟨ad2, rfl, _, cw⟩ := HA.out.at_ (wordList_at b)
        have hb8 := b.toNat_lt
        have HS : Hid (overTo (last16 bs) (k + 1) = overTo (last16 bs) k ^^^ rln (q - 1 - k) (wordOf b)) := by
          show _ = _
          rw [overTo, HN.out, List.getD, HT.out, ← HJ.out, hbk]
          rfl
        have hy := HO.out k
        have hw := wordOf_lt b
        clear hbk
        generalize overTo (last16 bs) k = y at *
        have hx := rln_lt (q - 1 - k) hw
        have LE : ∀ u : World, Calls Tryd.prog 56 #[uv (wordOf b), .int .i64 ((q - 1 - k : Nat) : Int)] u fun e w' => e = .returned (uv (rln (q - 1 - k) (wordOf b))) ∧ u = w' := fun u => rleft_any _ _ u hw (by have := HQ.out; omega)
        have LE := Lib.hid LE
        generalize rln (q - 1 - k) (wordOf b) = z at *
        generalize wordOf b = x at *
        have hxo : bits .xor .u32 (y : Int) (z : Int) = ((y ^^^ z : Nat) : Int) := u32_xor_nat y z hy hx
        have hsub : (n : Int) - 1 - (j : Int) = ((q - 1 - k : Nat) : Int) := by have := HJ.out; have := HQ.out; omega
        have hjn : j < n := by have := HJ.out; have := HQ.out; omega
        generalize q - 1 - k = d at *
        go_wp2_with fail
        refine (LE.out _).mono ?_
        rintro e w' ⟨rfl, rfl⟩
        go_wp2
        go_round
        case rel => exact ⟨k + 1, j + 1, by omega, by have := HJ.out; exact (by omega : j + 1 = m + (k + 1)), by go_num, by rw [HS.out]⟩
        case measure => simp [intOf]; omega
      · have hkq : k = q := by omega
        have hjn : j = n := by have := HJ.out; have := HQ.out; omega
        subst hkq hjn
        have HF' := Lib.hid HF.out.symm
        generalize overTo (last16 bs) k = y at *
        obtain rfl := HF'.out
        clear HF' HF
        go_wp2
        go_ret
        exact ⟨rfl, rfl⟩

end Go.Proofs.YtkgkkobdpgnicaaDoor
