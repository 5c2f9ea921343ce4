/-
  Contracts of hexa.Text, of the reference's Few and of the layer's example (lives): what they return is the digits of the bytes, the first bytes, true; nothing that was there has turned. Conditions: the bytes lie in memory, and are at most a million.
-/
import Derived.Test.YtgkoopnbphohaaaRows
import Derived.Test.YtgkoopnbphohaaaBase
import Derived.Deep.RegionHeld3
import Derived.Outline
import Derived.Lib.Hide
namespace Go.Proofs.Ytgkoopnbphohaaa
open Go.RowKit
set_option linter.unusedVariables false

theorem byte_info : (Try.prog.info? 5).map (fun i => (i.zero, i.size, i.bytes)) = some (some (.int .u8 0), 1, 1) := by kernel_rfl

set_option maxHeartbeats 400000 in
theorem few_any (A : Option Addr) (n c m : Nat) (vs : List Value) (w : World) (hl : vs.length = n) (hr : Lies w w.heap.size A vs) (h1 : ∀ u ∈ vs, u.oneCell' = true) (hn : n ≤ c) (hm : m ≤ 1000000) (hc : c ≤ maxLen) :
    Calls Try.prog 8 #[.slice A n c, .int .i64 (m : Int)] w fun e w' => ∃ v, e = .returned v ∧ w'.ownsRow w.heap.size 5 1 v (min n m) (vs.take m) ∧ Below w.heap.size w w' := by
  unfold maxLen at hc
  obtain ⟨i0, hi0, hz0, hz1, hz2⟩ := info_parts byte_info
  by_cases hmn : m < n
  · have hlt : (vs.take m).length = m := by rw [List.length_take]; omega
    have HL : Hid (vs.length = n) := hl
    clear hl
    have HT : Hid ((vs.take m).length = m) := hlt
    clear hlt
    go_enter Try.func8, Try.ntmps8
    go_wp2_with (at_builtin; refine wpList_append_src _ rfl (.tmp 6) (.tmp 12) _ rfl w.heap.size 5 i0 _ 1 Try.underlying22 hi0 hz0 hz1 hz2 rfl (.slice none 0 0) 0 [] rfl (World.ownsRow_nil _ _ _ _) w.heap.size A m c (vs.take m) rfl HT.out (hr.take m) (fun u hu => h1 u (List.mem_of_mem_take hu)) (by unfold maxLen; omega) (by omega) (Nat.le_refl _) ?_; intro v' w' hown hg hat)
    go_ret
    refine ⟨v', rfl, ?_, (Below.refl _ _).grown hg (Nat.le_refl _) (by simp [Value.ownBlock])⟩
    rw [Nat.min_eq_right (by omega)]
    simpa using hown
  · have hlt : (vs.take m) = vs := List.take_of_length_le (by omega)
    rw [hlt]
    have HL : Hid (vs.length = n) := hl
    clear hl hlt
    go_enter Try.func8, Try.ntmps8
    go_wp2_with (at_builtin; refine wpList_append_src _ rfl (.tmp 6) (.tmp 12) _ rfl w.heap.size 5 i0 _ 1 Try.underlying22 hi0 hz0 hz1 hz2 rfl (.slice none 0 0) 0 [] rfl (World.ownsRow_nil _ _ _ _) w.heap.size A n c vs rfl HL.out hr h1 (by unfold maxLen; omega) (by omega) (Nat.le_refl _) ?_; intro v' w' hown hg hat)
    go_ret
    refine ⟨v', rfl, ?_, (Below.refl _ _).grown hg (Nat.le_refl _) (by simp [Value.ownBlock])⟩
    rw [Nat.min_eq_left (by omega)]
    simpa using hown

def hexD (n : Nat) : UInt8 := if n < 10 then UInt8.ofNat (48 + n) else UInt8.ofNat (87 + n)
def hexOf (l : List UInt8) : List UInt8 := l.flatMap fun b => [hexD (b.toNat / 16), hexD (b.toNat % 16)]

theorem hexOf_append (l r : List UInt8) : hexOf (l ++ r) = hexOf l ++ hexOf r := by simp [hexOf]
theorem hexOf_length (l : List UInt8) : (hexOf l).length = 2 * l.length := by
  induction l with
  | nil => rfl
  | cons b r ih => simp only [hexOf, List.flatMap_cons, List.length_append] at ih ⊢; simp only [List.length_cons, List.length_nil, ih]; omega
theorem hexOf_take (l : List UInt8) (k : Nat) (b : UInt8) (h : l[k]? = some b) : hexOf (l.take (k + 1)) = hexOf (l.take k) ++ [hexD (b.toNat / 16), hexD (b.toNat % 16)] := by
  rw [List.take_add_one, h, hexOf_append]
  rfl
theorem hexD_at : ∀ k : Fin 16, (hexD k.val) = ((#[48, 49, 50, 51, 52, 53, 54, 55, 56, 57, 97, 98, 99, 100, 101, 102] : Array UInt8)[k.val]) := by decide
theorem and15 : ∀ n : Fin 256, bits .and .u8 (n.val : Int) 15 = ((n.val % 16 : Nat) : Int) := by decide +kernel
theorem digit_run (k : Nat) (hk : k < 16) (w : World) : (Instr.index 9 (.string ⟨#[48, 49, 50, 51, 52, 53, 54, 55, 56, 57, 97, 98, 99, 100, 101, 102]⟩) (.int .u8 (k : Int))).run Try.prog w = .ok (bv (hexD k)) w := by
  have h := hexD_at ⟨k, hk⟩
  have hs : ((⟨#[48, 49, 50, 51, 52, 53, 54, 55, 56, 57, 97, 98, 99, 100, 101, 102]⟩ : ByteArray)).size = 16 := rfl
  rw [run_index_string w 9 _ .u8 k Try.underlying9, dif_pos ⟨by omega, by rw [hs]; omega⟩]
  simp only [bv, h]
  rfl

/-- Few over bytes. -/
theorem few_bytes (A : Option Addr) (n c m : Nat) (bs : List UInt8) (w : World) (hl : bs.length = n) (hr : Lies w w.heap.size A (bs.map bv)) (hn : n ≤ c) (hm : m ≤ 1000000) (hc : c ≤ maxLen) :
    Calls Try.prog 8 #[.slice A n c, .int .i64 (m : Int)] w fun e w' => ∃ A' c', e = .returned (.slice A' (min n m) c') ∧ min n m ≤ c' ∧
      w'.ownsRow w.heap.size 5 1 (.slice A' (min n m) c') (min n m) ((bs.take m).map bv) ∧ Lies w' w'.heap.size A' ((bs.take m).map bv) ∧ Below w.heap.size w w' := by
  refine (few_any A n c m (bs.map bv) w (by simpa using hl) hr (bv_one bs) hn hm hc).mono ?_
  rintro e w' ⟨v, rfl, hown, hb⟩
  obtain ⟨A', c', rfl, hk⟩ := own_form hown
  rw [← List.map_take] at hown
  exact ⟨A', c', rfl, hk, hown, Lies.of_own hown, hb⟩

set_option maxHeartbeats 400000 in
theorem text_any (A : Option Addr) (n c : Nat) (bs : List UInt8) (w : World) (hl : bs.length = n) (hr : Lies w w.heap.size A (bs.map bv)) (hc : n ≤ 1000000) :
    Calls Try.prog 9 #[.slice A n c] w fun e w' => e = .returned (.string ⟨(hexOf bs).toArray⟩) ∧ Below w.heap.size w w' := by
  obtain ⟨i0, hi0, hz0, hz1, hz2⟩ := info_parts byte_info
  have HL : Hid (bs.length = n) := hl
  clear hl
  go_enter Try.func9, Try.ntmps9
  go_wp2_with (at_make; refine wpList_make_own _ rfl _ _ _ rfl w.heap.size 5 i0 _ 1 Try.underlying22 hi0 hz0 hz1 .i64 .i64 (2 * (n : Int)) (2 * n) rfl rfl (by omega) (by rw [hz2]; omega) (by unfold maxLen; omega) (Nat.le_refl _) ?_; intro w1 hown hg)
  go_loopw [3, 11] (fun v i wr => ∃ k : Nat, k ≤ n ∧ i = .int .i64 k ∧ wr.ownsRow w.heap.size 5 1 v (2 * k) ((hexOf (bs.take k)).map bv) ∧ Below w.heap.size w wr) (fun _ i _ => n - (intOf i).toNat)
  case atStart => exact ⟨0, Nat.zero_le _, rfl, by simpa [hexOf] using hown, (Below.refl _ _).grown hg (Nat.le_refl _) (by simp)⟩
  case round =>
    clear hown hg
    obtain ⟨k, hk, rfl, hown, hbel⟩ := hrel
    by_cases hlt : k < n
    · obtain ⟨b, hb⟩ : ∃ b, bs[k]? = some b := ⟨_, List.getElem?_eq_getElem (by rw [HL.out]; exact hlt)⟩
      obtain ⟨ad, rfl, hadB, hcell⟩ := hr.at_ (j := k) (u := bv b) (by rw [List.getElem?_map, hb]; rfl)
      have HB : Hid (bs[k]? = some b) := hb
      clear hb
      have hcl : ∀ w' : World, Below w.heap.size w w' → w'.cell? (ad.add k) = some (bv b) := fun w' h => by rw [h.cell (by rw [add_block]; exact hadB)]; exact hcell
      clear hcell
      have k0 : (0 : Int) ≤ (k : Int) := Int.natCast_nonneg _
      have k1 : (k : Int) < (n : Int) := by omega
      have hd1 : ∀ w, (Instr.index 9 (.string ⟨#[48, 49, 50, 51, 52, 53, 54, 55, 56, 57, 97, 98, 99, 100, 101, 102]⟩) (.int .u8 ((b.toNat : Int) / 16))).run Try.prog w = .ok (bv (hexD (b.toNat / 16))) w := fun w => digit_run (b.toNat / 16) (by have := b.toNat_lt; omega) w
      have hd2 : ∀ w, (Instr.index 9 (.string ⟨#[48, 49, 50, 51, 52, 53, 54, 55, 56, 57, 97, 98, 99, 100, 101, 102]⟩) (.int .u8 (bits .and .u8 (b.toNat : Int) 15))).run Try.prog w = .ok (bv (hexD (b.toNat % 16))) w := fun w => by rw [and15 ⟨b.toNat, b.toNat_lt⟩]; exact digit_run (b.toNat % 16) (by omega) w
      go_wp2
      go_region_held3 (fun w' => Below w.heap.size w w') (first | exact hbel.drew | exact (hbel.alloc hbel.size _).drew | exact hb2)
        ((refine step_append_src _ (by rfl) (.tmp 14) (.tmp 27) _ (by rfl) w.heap.size 5 i0 _ 1 Try.underlying22 hi0 hz0 hz1 hz2 rfl u3 (2 * k) _ (by rfl) (hown.alloc _).drew _ _ 2 2 [bv (hexD (b.toNat / 16)), bv (hexD (b.toNat % 16))] (by rfl) rfl (Lies.new wr 5 _).drew (by simp [Value.oneCell']) (by unfold maxLen; omega) (by omega) (by have := hbel.size; simp; omega) ?_; intro v' w' hown' hg' hat'; have hb2 : Below w.heap.size w w' := ((hbel.alloc hbel.size _).drew).grown hg' (by have := hbel.size; simp; omega) (own_ge hown)))
      all_goals
        clear hd1 hd2 hcl
        go_wp2
        go_roundw
        case rel => exact ⟨k + 1, by omega, by go_num, by rw [hexOf_take bs k b HB.out, List.map_append]; exact hown', hb2⟩
        case measure => simp [intOf]; omega
    · obtain ⟨A', c', rfl, _⟩ := own_form hown
      have hk : k = n := by omega
      subst hk
      have hcv := run_string_of (P := Try.prog) wr 22 5 Try.underlying22 Try.underlying5 9 Try.underlying9 _ A' (2 * k) c' (hexOf bs) (by rw [hexOf_length, HL.out]) (by have := Lies.of_own hown; rwa [List.take_of_length_le (by rw [HL.out]; omega)] at this)
      clear hown
      go_wp2
      go_ret
      exact ⟨rfl, hbel⟩
set_option maxHeartbeats 400000 in
theorem lives_any (w : World) : Calls Try.prog 12 #[] w fun e w' => e = .returned (.bool true) ∧ Below w.heap.size w w' := by
  go_enter Try.func12, Try.ntmps12
  have ht := text_any (some ⟨w.heap.size, 0, none⟩) 2 2 [0, 255] (w.alloc (.cells #[.int .u8 0, .int .u8 255] 5)) rfl (by rw [World.size_alloc]; exact Lies.new w 5 [bv 0, bv 255]) (by omega)
  rw [show hexOf [0, 255] = [48, 48, 102, 102] from by decide] at ht
  have HT := Lib.hid ht
  clear ht
  go_wp2_with (go_at_call 9; refine HT.out.mono ?_; rintro e w1 ⟨rfl, hb⟩)
  go_ret
  exact ⟨rfl, ((Below.refl _ w).alloc (Nat.le_refl _) _).trans (hb.mono (by simp))⟩
end Go.Proofs.Ytgkoopnbphohaaa
