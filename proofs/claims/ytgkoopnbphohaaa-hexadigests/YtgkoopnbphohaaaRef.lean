/-
  Contracts of the reference's Text, digit, Parse, Short and Around (layer 1): they compute what the Lean functions hexOf, digN, unhex, take, and a remainder say. Condition: at most a million bytes.
-/
import Derived.Test.YtgkoopnbphohaaaParse
namespace Go.Proofs.Ytgkoopnbphohaaa
open Go.RowKit
set_option linter.unusedVariables false

theorem ret_int {k : IntKind} {a b : Int} (h : a = b) : Ending.returned (.int k a) = .returned (.int k b) := by rw [h]
theorem cut_dig : ∀ k : Fin 16, ((⟨#[48, 49, 50, 51, 52, 53, 54, 55, 56, 57, 97, 98, 99, 100, 101, 102]⟩ : ByteArray).extract k.val (k.val + 1)).data.toList = [hexD k.val] := by decide +kernel
theorem cut_one (k : Nat) (hk : k < 16) (X Y : Int) (hX : X = (k : Int)) (hY : Y = (k : Int) + 1) (w : World) :
    (Instr.slice 9 (.string ⟨#[48, 49, 50, 51, 52, 53, 54, 55, 56, 57, 97, 98, 99, 100, 101, 102]⟩) (some (.int .i64 X)) (some (.int .i64 Y)) none).run Try.prog w = .ok (.string ⟨[hexD k].toArray⟩) w := by
  subst hX hY
  have hs : (⟨#[48, 49, 50, 51, 52, 53, 54, 55, 56, 57, 97, 98, 99, 100, 101, 102]⟩ : ByteArray).size = 16 := rfl
  rw [run_slice_string w 9 _ .i64 .i64 (k : Int) ((k : Int) + 1) Try.underlying9 (by omega) (by omega) (by rw [hs]; omega)]
  have h := cut_dig ⟨k, hk⟩
  have e : ((k : Int) + 1).toNat = k + 1 := by omega
  rw [Int.toNat_natCast, e, ← h]

set_option maxHeartbeats 1000000 in
theorem rtext_any (A : Option Addr) (n c : Nat) (bs : List UInt8) (w : World) (hl : bs.length = n) (hr : Lies w w.heap.size A (bs.map bv)) (hc : n ≤ 1000000) :
    Calls Try.prog 11 #[.slice A n c] w fun e w' => e = .returned (.string ⟨(hexOf bs).toArray⟩) ∧ Below w.heap.size w w' := by
  have HL := Lib.hid hl
  clear hl
  go_enter Try.func11, Try.ntmps11
  go_wp2
  go_loopw [4, 5, 6, 7] (fun s i _ _ wr => ∃ k : Nat, k ≤ n ∧ i = .int .i64 k ∧ s = .string ⟨(hexOf (bs.take k)).toArray⟩ ∧ Below w.heap.size w wr) (fun _ i _ _ _ => n - (intOf i).toNat)
  case atStart => exact ⟨0, Nat.zero_le _, rfl, rfl, Below.refl _ _⟩
  case round =>
    obtain ⟨k, hk, rfl, rfl, hbel⟩ := hrel
    by_cases hlt : k < n
    · obtain ⟨b, hb⟩ : ∃ b, bs[k]? = some b := ⟨_, List.getElem?_eq_getElem (by rw [HL.out]; exact hlt)⟩
      obtain ⟨ad, rfl, hadB, hcell⟩ := hr.at_ (j := k) (u := bv b) (by rw [List.getElem?_map, hb]; rfl)
      have hcl : wr.cell? (ad.add k) = some (bv b) := by rw [hbel.cell (by rw [add_block]; exact hadB)]; exact hcell
      clear hcell
      have hlen : (hexOf (bs.take k)).length = 2 * k := by rw [hexOf_length, List.length_take, HL.out]; omega
      have hnx := hexOf_take bs k b hb
      have HB := Lib.hid hnx
      have bl := b.toNat_lt
      have c1 := run_cat (P := Try.prog) (hexOf (bs.take k)) [hexD (b.toNat / 16)] (by rw [hlen]; simp; omega)
      have c2 := run_cat (P := Try.prog) (hexOf (bs.take k) ++ [hexD (b.toNat / 16)]) [hexD (b.toNat % 16)] (by simp [hlen]; omega)
      have s1 := cut_one (b.toNat / 16) (by omega) ((b.toNat : Int) / 16) ((b.toNat : Int) / 16 + 1) (by omega) (by omega)
      have s2 := cut_one (b.toNat % 16) (by omega) ((b.toNat : Int) % 16) ((b.toNat : Int) % 16 + 1) (by omega) (by omega)
      clear hlen hnx hb
      generalize hexOf (bs.take k) = t at *
      generalize hexD (b.toNat / 16) = d1 at *
      generalize hexD (b.toNat % 16) = d2 at *
      go_wp2
      go_quiet (fail)
      go_wp2
      go_roundw
      case rel => exact ⟨k + 1, by omega, by go_num, by rw [HB.out], below_draws hbel⟩
      case measure => simp [intOf]; omega
    · obtain rfl : k = n := by omega
      go_wp2
      go_ret
      rw [List.take_of_length_le (by rw [HL.out]; omega)]
      exact ⟨rfl, hbel⟩

set_option maxHeartbeats 400000 in
theorem rdigit_yes (n d : Nat) (w : World) (h : digN n = some d) :
    Calls Try.prog 27 #[.int .u8 (n : Int)] w fun e w' => e = .returned (.int .i64 (d : Int)) ∧ w = w' := by
  unfold digN at h
  split at h
  · rename_i hn
    obtain ⟨h1, h2⟩ := hn
    obtain ⟨m, rfl⟩ : ∃ m, n = 48 + m := ⟨n - 48, by omega⟩
    obtain rfl : d = m := by injection h with h; omega
    clear h
    go_enter Try.func27, Try.ntmps27
    go_wp2
    go_ret
    exact ⟨ret_int (by omega), rfl⟩
  · split at h
    · rename_i hn
      obtain ⟨h1, h2⟩ := hn
      obtain ⟨m, rfl⟩ : ∃ m, n = 87 + m := ⟨n - 87, by omega⟩
      obtain rfl : d = m := by injection h with h; omega
      clear h
      go_enter Try.func27, Try.ntmps27
      go_wp2
      go_ret
      exact ⟨ret_int (by omega), rfl⟩
    · cases h

set_option maxHeartbeats 400000 in
theorem rdigit_no (n : Nat) (w : World) (h : digN n = none) :
    Calls Try.prog 27 #[.int .u8 (n : Int)] w fun e w' => e = .returned (.int .i64 (-1)) ∧ w = w' := by
  unfold digN at h
  split at h
  · cases h
  · split at h
    · cases h
    · rename_i g1 g2
      clear h
      by_cases h1 : n < 48
      · clear g1 g2
        go_enter Try.func27, Try.ntmps27
        go_wp2
        go_ret
        exact ⟨rfl, rfl⟩
      · by_cases h2 : n < 97
        · have h3 : 57 < n := by omega
          have h4 : 48 ≤ n := by omega
          clear g1 g2 h1
          go_enter Try.func27, Try.ntmps27
          go_wp2
          go_ret
          exact ⟨rfl, rfl⟩
        · have h3 : 102 < n := by omega
          clear g1 g2 h1 h2
          go_enter Try.func27, Try.ntmps27
          go_wp2
          go_ret
          exact ⟨rfl, rfl⟩

theorem extract_take (s : List UInt8) (m : Nat) : (⟨s.toArray⟩ : ByteArray).extract 0 m = ⟨(s.take m).toArray⟩ := by
  apply ByteArray.ext
  simp [ByteArray.data_extract]

set_option maxHeartbeats 400000 in
theorem short_any (s : List UInt8) (m : Nat) (w : World) (hs : s.length ≤ maxLen) (hm : m ≤ 1000000) :
    Calls Try.prog 13 #[.string ⟨s.toArray⟩, .int .i64 (m : Int)] w fun e w' => e = .returned (.string ⟨(s.take m).toArray⟩) ∧ w = w' := by
  unfold maxLen at hs
  by_cases h : m < s.length
  · have hx := extract_take s m
    go_enter Try.func13, Try.ntmps13
    go_wp2
    go_ret
    exact ⟨rfl, rfl⟩
  · rw [List.take_of_length_le (by omega)]
    go_enter Try.func13, Try.ntmps13
    go_wp2
    go_ret
    exact ⟨rfl, rfl⟩

/-- What Around answers. -/
def around (n : Int) (m : Nat) : Nat := ((if n < 0 then -(n + 1) else n) % (m : Int)).toNat
theorem around_lt (n : Int) {m : Nat} (h : 0 < m) : around n m < m := by
  unfold around
  have h1 := Int.emod_lt_of_pos (if n < 0 then -(n + 1) else n) (show (0 : Int) < (m : Int) by omega)
  have h2 := Int.emod_nonneg (if n < 0 then -(n + 1) else n) (show (m : Int) ≠ 0 by omega)
  omega

set_option maxHeartbeats 400000 in
theorem around_any (n : Int) (m : Nat) (w : World) (hn : -9223372036854775808 ≤ n ∧ n ≤ 9223372036854775807) (hm : 0 < m ∧ m ≤ 1000000) :
    Calls Try.prog 14 #[.int .i64 n, .int .i64 (m : Int)] w fun e w' => e = .returned (.int .i64 (around n m : Int)) ∧ w = w' := by
  obtain ⟨n1, n2⟩ := hn
  obtain ⟨m1, m2⟩ := hm
  have hz : ((m : Int) == 0) = false := by simp; omega
  by_cases h : n < 0
  · have hr : (around n m : Int) = (-(n + 1)) % (m : Int) := by
      unfold around
      rw [if_pos h]
      have h2 := Int.emod_nonneg (-(n + 1)) (show (m : Int) ≠ 0 by omega)
      omega
    rw [hr]
    clear hr
    go_enter Try.func14, Try.ntmps14
    go_wp2
    go_ret
    exact ⟨ret_int (by rw [← Int.neg_tmod, Int.tmod_eq_emod_of_nonneg (by omega)]), rfl⟩
  · have hr : (around n m : Int) = n % (m : Int) := by
      unfold around
      rw [if_neg h]
      have h2 := Int.emod_nonneg n (show (m : Int) ≠ 0 by omega)
      omega
    rw [hr]
    clear hr
    go_enter Try.func14, Try.ntmps14
    go_wp2
    go_ret
    exact ⟨rfl, rfl⟩

set_option maxHeartbeats 1000000 in
theorem rparse_any (s : List UInt8) (w : World) (hs : s.length ≤ 1000000) :
    Calls Try.prog 15 #[.string ⟨s.toArray⟩] w (ParseRes w (unhex s)) := by
  obtain ⟨i0, hi0, hz0, hz1, hz2⟩ := info_parts byte_info
  by_cases hodd : s.length % 2 = 1
  · have hr : unhex s = none := by simp [unhex, hodd]
    rw [hr]
    have o1 : ((s.length : Int) % 2 == 1) = true := by simp; omega
    clear hodd hr
    go_enter Try.func15, Try.ntmps15
    go_wp2
    go_ret2
    exact ⟨Below.refl _ _, rfl⟩
  · obtain ⟨m, hm⟩ : ∃ m, s.length = 2 * m := ⟨s.length / 2, by omega⟩
    have hr : unhex s = pref s m := by
      unfold unhex
      rw [if_neg hodd, hm]
      congr 1
      omega
    rw [hr]
    have o1 : ((s.length : Int) % 2 == 1) = false := by simp; omega
    have HM := Lib.hid hm
    have hm1 : s.length ≤ 2 * m := by omega
    have hm2 : 2 * m ≤ s.length := by omega
    clear hodd hr hm
    go_enter Try.func15, Try.ntmps15
    go_wp2
    go_loopw [4, 5, 6, 7] (fun v i _ _ wr => ∃ (k : Nat) (l : List UInt8), k ≤ m ∧ i = .int .i64 (2 * (k : Int)) ∧ pref s k = some l ∧ wr.ownsRow w.heap.size 5 1 v k (l.map bv) ∧ Below w.heap.size w wr) (fun _ i _ _ _ => 2 * m - (intOf i).toNat)
    case atStart => exact ⟨0, [], Nat.zero_le _, rfl, rfl, World.ownsRow_nil _ _ _ _, Below.refl _ _⟩
    case round =>
      obtain ⟨k, l, hk, rfl, hpref, hown, hbel⟩ := hrel
      have HP := Lib.hid hpref
      clear hpref
      by_cases hlt : k < m
      · have r0 := at_run s (2 * k) (by rw [HM.out]; omega) (2 * (k : Int)) (by omega)
        have r1 := at_run s (2 * k + 1) (by rw [HM.out]; omega) (2 * (k : Int) + 1) (by omega)
        have hnext : pref s (k + 1) = match pairN (s.getD (2 * k) 0).toNat (s.getD (2 * k + 1) 0).toNat with | some d => some (l ++ [UInt8.ofNat d]) | none => none := by
          simp only [pref, HP.out, pairAt]
          cases pairN (s.getD (2 * k) 0).toNat (s.getD (2 * k + 1) 0).toNat <;> rfl
        have HN := Lib.hid hnext
        clear hnext
        generalize (s.getD (2 * k) 0).toNat = c0 at *
        generalize (s.getD (2 * k + 1) 0).toNat = c1 at *
        cases ha : digN c0 with
        | none =>
          have HF := Lib.hid (pref_none_le (k := k + 1) (m := m) (by rw [HN.out]; simp [pairN, ha]) (by omega))
          have HA := Lib.hid ha
          clear ha
          cases hb : digN c1 with
          | none =>
            have HB := Lib.hid hb
            clear hb
            go_wp2_with fail
            refine (rdigit_no c0 _ HA.out).mono ?_
            rintro e w' ⟨rfl, rfl⟩
            go_wp2_with fail
            refine (rdigit_no c1 _ HB.out).mono ?_
            rintro e w' ⟨rfl, rfl⟩
            go_wp2_with fail
            go_ret2
            rw [HF.out]
            exact ⟨hbel, rfl⟩
          | some y =>
            have HB := Lib.hid hb
            clear hb
            go_wp2_with fail
            refine (rdigit_no c0 _ HA.out).mono ?_
            rintro e w' ⟨rfl, rfl⟩
            go_wp2_with fail
            refine (rdigit_yes c1 y _ HB.out).mono ?_
            rintro e w' ⟨rfl, rfl⟩
            go_wp2_with fail
            go_ret2
            rw [HF.out]
            exact ⟨hbel, rfl⟩
        | some x =>
          have HA := Lib.hid ha
          cases hb : digN c1 with
          | none =>
            have HF := Lib.hid (pref_none_le (k := k + 1) (m := m) (by rw [HN.out]; simp [pairN, ha, hb]) (by omega))
            have HB := Lib.hid hb
            clear ha hb
            have x0 : ((x : Int) < 0) = False := by simp
            go_wp2_with fail
            refine (rdigit_yes c0 x _ HA.out).mono ?_
            rintro e w' ⟨rfl, rfl⟩
            go_wp2_with fail
            refine (rdigit_no c1 _ HB.out).mono ?_
            rintro e w' ⟨rfl, rfl⟩
            go_wp2_with fail
            go_ret2
            rw [HF.out]
            exact ⟨hbel, rfl⟩
          | some y =>
            have hx := digN_lt ha
            have hy := digN_lt hb
            have HN2 : Hid (pref s (k + 1) = some (l ++ [UInt8.ofNat (16 * x + y)])) := by
              show pref s (k + 1) = _
              rw [HN.out]
              simp [pairN, ha, hb]
            have HB := Lib.hid hb
            clear ha hb
            go_wp2_with fail
            refine (rdigit_yes c0 x _ HA.out).mono ?_
            rintro e w' ⟨rfl, rfl⟩
            go_wp2_with fail
            refine (rdigit_yes c1 y _ HB.out).mono ?_
            rintro e w' ⟨rfl, rfl⟩
            have ebd : bv (UInt8.ofNat (16 * x + y)) = Value.int .u8 (16 * (x : Int) + (y : Int)) := by
              have : (UInt8.ofNat (16 * x + y)).toNat = 16 * x + y := by simp; omega
              simp only [bv, this]
              congr 1
            have hnew := Lies.new wr 5 [Value.int .u8 (16 * (x : Int) + (y : Int))]
            go_wp2_with (at_builtin; refine wpList_append_src _ rfl (.tmp 34) (.tmp 40) _ rfl w.heap.size 5 i0 _ 1 Try.underlying22 hi0 hz0 hz1 hz2 rfl u4 k _ rfl (hown.alloc _) _ _ 1 1 [Value.int .u8 (16 * (x : Int) + (y : Int))] rfl rfl hnew (by simp [Value.oneCell']) (by unfold maxLen; omega) (by omega) (by have := hbel.size; simp; omega) ?_; intro v' w' hown' hg' hat')
            have hb2 : Below w.heap.size w w' := (hbel.alloc hbel.size _).grown hg' (by have := hbel.size; simp; omega) (own_ge hown)
            rw [← ebd, show [bv (UInt8.ofNat (16 * x + y))] = [UInt8.ofNat (16 * x + y)].map bv from rfl, ← List.map_append] at hown'
            go_roundw
            case rel => exact ⟨k + 1, l ++ [UInt8.ofNat (16 * x + y)], by omega, by go_num, HN2.out, hown', hb2⟩
            case measure => simp [intOf]; omega
      · obtain rfl : k = m := by omega
        go_wp2
        go_ret2
        rw [HP.out]
        refine ⟨hbel, _, rfl, ?_⟩
        rw [pref_length HP.out]
        exact hown
end Go.Proofs.Ytgkoopnbphohaaa
