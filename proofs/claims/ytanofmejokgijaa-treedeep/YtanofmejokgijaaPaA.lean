/-
  Texts as lists of bytes; how a range goes over any text; path.Name: which texts are names. No condition.
-/
import Derived.Test.YtanofmejokgijaaRows
import Derived.Test.YtanofmejokgijaaCel
import Derived.Test.YtanofmejokgijaaPathM
import Derived.Laws.RangeAny
import Derived.Lib.OthersKept
import Derived.WalkSmall
import Derived.WalkLawsBesides
import Derived.Outline
import Derived.Lib.Hide
namespace Go.Proofs.Ytanofmejokgijaa
open Go.RowKit
set_option linter.unusedVariables false

/-- A text as a value. -/
abbrev tv (l : List UInt8) : Value := .string ⟨l.toArray⟩
theorem tv_one (l : List (List UInt8)) : ∀ u ∈ l.map tv, u.oneCell' = true := fun u hu => by
  obtain ⟨b, _, rfl⟩ := List.mem_map.1 hu
  rfl
theorem toList_mk (l : List UInt8) : (⟨l.toArray⟩ : ByteArray).toList = l := by rw [ByteArray.toList_eq]
theorem size_mk (l : List UInt8) : (⟨l.toArray⟩ : ByteArray).size = l.length := by show l.toArray.size = _; simp
theorem run_teq {P : Program} (t : TypeId) (l r : List UInt8) : binOp .eql t (tv l) (tv r) = (pure (.bool (l == r)) : Sem Value) := by rw [binOp_string_eql, toList_mk, toList_mk]
theorem run_tne {P : Program} (t : TypeId) (l r : List UInt8) : binOp .neq t (tv l) (tv r) = (pure (.bool !(l == r)) : Sem Value) := by rw [binOp_string_neq, toList_mk, toList_mk]

theorem get_mk (l : List UInt8) (p : Nat) (h : p < l.length) : (⟨l.toArray⟩ : ByteArray).get! p = l[p] := by
  simp [ByteArray.get!, h]
theorem dec_cont {l : List UInt8} {p k : Nat} (h : (decide (p + k < (⟨l.toArray⟩ : ByteArray).size) && (((⟨l.toArray⟩ : ByteArray).get! (p + k)).toNat / 64 == 2)) = true) : p + k < l.length ∧ ∃ b, l[p + k]? = some b ∧ 128 ≤ b.toNat := by
  rw [Bool.and_eq_true, decide_eq_true_eq, size_mk, beq_iff_eq] at h
  obtain ⟨h1, h2⟩ := h
  rw [get_mk l _ h1] at h2
  exact ⟨h1, _, List.getElem?_eq_getElem h1, by omega⟩
/-- What a range's step over a text at p is: one byte below 128, as it is; or a number from 128 on, of bytes each of which is from 128 on. -/
structure Step (l : List UInt8) (p : Nat) (r k : Nat) : Prop where
  pos : 1 ≤ k
  fits : p + k ≤ l.length
  byte : (k = 1 ∧ ∃ b, l[p]? = some b ∧ r = b.toNat) ∨ (128 ≤ r ∧ ∀ b ∈ (l.drop p).take k, 128 ≤ b.toNat)
theorem high_take {l : List UInt8} {p k : Nat} (h : ∀ j, j < k → ∃ b, l[p + j]? = some b ∧ 128 ≤ b.toNat) : ∀ b ∈ (l.drop p).take k, 128 ≤ b.toNat := fun b hb => by
  obtain ⟨j, hj⟩ := List.getElem?_of_mem hb
  rw [List.getElem?_take] at hj
  split at hj
  · rename_i hlt
    rw [List.getElem?_drop] at hj
    obtain ⟨c, hc, h1⟩ := h j hlt
    rw [hc] at hj
    injection hj with hj
    rw [← hj]; exact h1
  · cases hj
theorem step_at (l : List UInt8) (p : Nat) (h : p < l.length) : Step l p (Utf8.decode ⟨l.toArray⟩ p).1 (Utf8.decode ⟨l.toArray⟩ p).2 := by
  have hs : p < (⟨l.toArray⟩ : ByteArray).size := by rw [size_mk]; exact h
  by_cases ha : (l[p]).toNat < 128
  · have e : Utf8.decode ⟨l.toArray⟩ p = (l[p].toNat, 1) := by
      unfold Utf8.decode
      simp only [Nat.add_zero, get_mk l p h, ha, if_true]
    rw [e]
    exact ⟨Nat.le_refl _, by omega, .inl ⟨rfl, _, List.getElem?_eq_getElem h, rfl⟩⟩
  · have hr : 128 ≤ (Utf8.decode ⟨l.toArray⟩ p).1 ∧ 1 ≤ (Utf8.decode ⟨l.toArray⟩ p).2 := decode_high _ p hs (by
      have : ((⟨l.toArray⟩ : ByteArray)[p]'hs) = l[p] := by rfl
      rw [this]; omega)
    have h0 : ∃ b, l[p + 0]? = some b ∧ 128 ≤ b.toNat := ⟨_, List.getElem?_eq_getElem h, by omega⟩
    have hk : ∃ k, (Utf8.decode ⟨l.toArray⟩ p).2 = k ∧ p + k ≤ l.length ∧ ∀ j, j < k → ∃ b, l[p + j]? = some b ∧ 128 ≤ b.toNat := by
      have one : ∃ k, 1 = k ∧ p + k ≤ l.length ∧ ∀ j, j < k → ∃ b, l[p + j]? = some b ∧ 128 ≤ b.toNat := ⟨1, rfl, by omega, fun j hj => (show j = 0 by omega) ▸ h0⟩
      unfold Utf8.decode
      simp only [Nat.add_zero, get_mk l p h, ha, if_false]
      split
      · rename_i c1
        rw [Bool.and_eq_true] at c1
        have d1 := dec_cont c1.2
        split
        · refine ⟨2, rfl, by omega, fun j hj => ?_⟩
          match j, hj with
          | 0, _ => exact h0
          | 1, _ => exact d1.2
        · exact one
      · split
        · rename_i c1
          rw [Bool.and_eq_true, Bool.and_eq_true] at c1
          have d1 := dec_cont c1.1.2
          have d2 := dec_cont c1.2
          split
          · refine ⟨3, rfl, by omega, fun j hj => ?_⟩
            match j, hj with
            | 0, _ => exact h0
            | 1, _ => exact d1.2
            | 2, _ => exact d2.2
          · exact one
        · split
          · rename_i c1
            rw [Bool.and_eq_true, Bool.and_eq_true, Bool.and_eq_true] at c1
            have d1 := dec_cont c1.1.1.2
            have d2 := dec_cont c1.1.2
            have d3 := dec_cont c1.2
            split
            · refine ⟨4, rfl, by omega, fun j hj => ?_⟩
              match j, hj with
              | 0, _ => exact h0
              | 1, _ => exact d1.2
              | 2, _ => exact d2.2
              | 3, _ => exact d3.2
            · exact one
          · exact one
    obtain ⟨k, hk, hfit, hall⟩ := hk
    rw [hk] at hr ⊢
    exact ⟨hr.2, hfit, .inr ⟨hr.1, high_take hall⟩⟩
theorem Step.free {l : List UInt8} {p r k : Nat} (h : Step l p r k) {c : Nat} (hc : c < 128) (hr : r ≠ c) : ∀ b ∈ (l.drop p).take k, b.toNat ≠ c := fun b hb => by
  rcases h.byte with ⟨rfl, x, hx, e⟩ | ⟨_, h2⟩
  · obtain ⟨j, hj⟩ := List.getElem?_of_mem hb
    rw [List.getElem?_take] at hj
    split at hj
    · rename_i hlt
      obtain rfl : j = 0 := by omega
      rw [List.getElem?_drop, Nat.add_zero, hx] at hj
      injection hj with hj
      rw [← hj, ← e]; exact hr
    · cases hj
  · have := h2 b hb
    omega
theorem Step.here {l : List UInt8} {p r k : Nat} (h : Step l p r k) {c : Nat} (hc : c < 128) (hr : r = c) : k = 1 ∧ ∃ b, l[p]? = some b ∧ b.toNat = c := by
  rcases h.byte with ⟨rfl, x, hx, e⟩ | ⟨h1, _⟩
  · exact ⟨rfl, x, hx, by omega⟩
  · omega
theorem take_more (l : List UInt8) (p k : Nat) : l.take (p + k) = l.take p ++ (l.drop p).take k := by rw [List.take_add]

/-- No byte 0 or 47. -/
def freeB (s : List UInt8) : Bool := s.all (fun c => c != 0 && c != 47)
theorem free_more {l : List UInt8} {p r k : Nat} (h : Step l p r k) (h0 : r ≠ 0) (h1 : r ≠ 47) (hp : freeB (l.take p) = true) : freeB (l.take (p + k)) = true := by
  unfold freeB at hp ⊢
  rw [take_more, List.all_append, hp, Bool.true_and, List.all_eq_true]
  intro b hb
  have a0 := h.free (c := 0) (by omega) h0 b hb
  have a1 := h.free (c := 47) (by omega) h1 b hb
  rw [Bool.and_eq_true, bne_iff_ne, bne_iff_ne]
  exact ⟨fun e => a0 (by rw [e]; rfl), fun e => a1 (by rw [e]; rfl)⟩
theorem free_not {l : List UInt8} {p r k : Nat} (h : Step l p r k) (h0 : r = 0 ∨ r = 47) : freeB l = false := by
  obtain ⟨b, hb, hc⟩ : ∃ b, l[p]? = some b ∧ (b = 0 ∨ b = 47) := by
    rcases h0 with h0 | h0
    · obtain ⟨_, b, hb, hc⟩ := h.here (c := 0) (by omega) h0
      exact ⟨b, hb, .inl (UInt8.toNat_inj.1 hc)⟩
    · obtain ⟨_, b, hb, hc⟩ := h.here (c := 47) (by omega) h0
      exact ⟨b, hb, .inr (UInt8.toNat_inj.1 hc)⟩
  unfold freeB
  rw [List.all_eq_false]
  refine ⟨b, List.mem_of_getElem? hb, ?_⟩
  rcases hc with rfl | rfl <;> decide

theorem iterPos_of {w : World} {k : Nat} {s : ByteArray} {p : Nat} (h : w.heap[k]? = some (.stringIter s p)) : w.iterPos k = p := by simp [World.iterPos, h]

/-- Are the ends of a name as they should be? -/
def endsB (s : List UInt8) : Bool := decide (0 < s.length) && decide (s.length < 25) && s != [46] && s != [46, 46]
theorem name_parts (s : List UInt8) : nameB s = (freeB s && endsB s) := by
  unfold nameB freeB endsB
  simp only [Bool.and_assoc]
theorem rune_eq (r : Nat) (c : Nat) : ((r : Int) == (c : Int)) = decide (r = c) := by
  by_cases h : r = c
  · subst h; simp
  · simp [h]; omega

set_option maxHeartbeats 1000000 in
theorem name_any (l : List UInt8) (w : World) :
    Calls Try.prog 60 #[tv l] w fun e w' => e = .returned (.bool (nameB l)) ∧ Grows w w' := by
  have hsz := size_mk l
  have e0 : ∀ t, binOp .eql t (tv l) (.string ⟨#[]⟩) = (pure (.bool (l == [])) : Sem Value) := fun t => run_teq (P := Try.prog) t l []
  have e1 : ∀ t, binOp .eql t (tv l) (.string ⟨#[46]⟩) = (pure (.bool (l == [46])) : Sem Value) := fun t => run_teq (P := Try.prog) t l [46]
  have e2 : ∀ t, binOp .eql t (tv l) (.string ⟨#[46, 46]⟩) = (pure (.bool (l == [46, 46])) : Sem Value) := fun t => run_teq (P := Try.prog) t l [46, 46]
  by_cases hE : endsB l = true
  · have hE' := hE
    unfold endsB at hE'
    rw [Bool.and_eq_true, Bool.and_eq_true, Bool.and_eq_true, decide_eq_true_eq, decide_eq_true_eq, bne_iff_ne, bne_iff_ne] at hE'
    obtain ⟨⟨⟨q0, q1⟩, q2⟩, q3⟩ := hE'
    have b0 : (l == []) = false := by rw [beq_eq_false_iff_ne]; rintro rfl; simp at q0
    have b2 : (l == [46]) = false := by rw [beq_eq_false_iff_ne]; exact q2
    have b3 : (l == [46, 46]) = false := by rw [beq_eq_false_iff_ne]; exact q3
    have q1' : ¬ (24 : Int) < (l.length : Int) := by omega
    have hN : nameB l = freeB l := by rw [name_parts, hE, Bool.and_true]
    rw [hN]
    clear hN hE q2 q3
    rw [b0] at e0; rw [b2] at e1; rw [b3] at e2
    clear b0 b2 b3
    go_enter Try.func60, Try.ntmps60
    go_wp2
    clear e0 e1 e2 q0 q1 q1' hsz
    go_loopw [4] (fun _ wr => ∃ pos : Nat, pos ≤ l.length ∧ freeB (l.take pos) = true ∧ wr = w.iter ⟨l.toArray⟩ pos) (fun _ wr => l.length - wr.iterPos w.heap.size)
    case atStart => exact ⟨0, Nat.zero_le _, rfl, rfl⟩
    case round =>
      obtain ⟨pos, hpos, hfree, rfl⟩ := hrel
      have HF := Lib.hid hfree
      clear hfree
      by_cases hp : pos < l.length
      · have st := step_at l pos hp
        have hnx : ∀ ty, (Instr.next (.pointer (some ⟨w.heap.size, 0, none⟩)) true ty).run Try.prog (w.iter ⟨l.toArray⟩ pos) = _ := fun ty => run_next_any w ⟨l.toArray⟩ pos ty (by rw [size_mk]; exact hp)
        generalize (Utf8.decode ⟨l.toArray⟩ pos).1 = r at *
        generalize (Utf8.decode ⟨l.toArray⟩ pos).2 = k at *
        have hk := st.pos
        have hf := st.fits
        have ST := Lib.hid st
        clear st
        by_cases r0 : r = 0
        · have hN : freeB l = false := free_not ST.out (.inl r0)
          subst r0
          have HN := Lib.hid hN; clear hN
          go_wp2
          go_ret
          exact ⟨by rw [HN.out]; rfl, grows_alloc _ _⟩
        · by_cases r1 : r = 47
          · have hN : freeB l = false := free_not ST.out (.inr r1)
            subst r1
            have HN := Lib.hid hN; clear hN
            go_wp2
            go_ret
            exact ⟨by rw [HN.out]; rfl, grows_alloc _ _⟩
          · have c0 : ((r : Int) == 0) = false := by simp; omega
            have c1 : ((r : Int) == 47) = false := by simp; omega
            go_wp2
            go_roundw
            case rel => exact ⟨pos + k, hf, free_more ST.out r0 r1 HF.out, rfl⟩
            case measure => simp; omega
      · obtain rfl : pos = l.length := by omega
        have hN : freeB l = true := by rw [← HF.out, List.take_length]
        have hnx : ∀ ty, (Instr.next (.pointer (some ⟨w.heap.size, 0, none⟩)) true ty).run Try.prog (w.iter ⟨l.toArray⟩ l.length) = _ := fun ty => run_next_end w ⟨l.toArray⟩ l.length ty (by rw [size_mk]; omega)
        have HN := Lib.hid hN; clear hN
        go_wp2
        go_ret
        exact ⟨by rw [HN.out]; rfl, grows_alloc _ _⟩
  · have hN : nameB l = false := by rw [name_parts, Bool.eq_false_iff.2 hE, Bool.and_false]
    rw [hN]
    have hE' : l = [] ∨ 24 < l.length ∨ l = [46] ∨ l = [46, 46] := by
      unfold endsB at hE
      rw [Bool.and_eq_true, Bool.and_eq_true, Bool.and_eq_true, decide_eq_true_eq, decide_eq_true_eq, bne_iff_ne, bne_iff_ne] at hE
      by_cases h0 : l = []
      · exact .inl h0
      · by_cases h1 : 24 < l.length
        · exact .inr (.inl h1)
        · by_cases h2 : l = [46]
          · exact .inr (.inr (.inl h2))
          · by_cases h3 : l = [46, 46]
            · exact .inr (.inr (.inr h3))
            · refine absurd ⟨⟨⟨?_, ?_⟩, h2⟩, h3⟩ hE
              · have : l.length ≠ 0 := fun e => h0 (List.length_eq_zero_iff.1 e)
                omega
              · omega
    clear hE hN
    by_cases h0 : l = []
    · subst h0
      clear e0 e1 e2
      go_enter Try.func60, Try.ntmps60
      go_wp2
      go_ret
      exact ⟨rfl, Grows.refl _⟩
    · have b0 : (l == []) = false := by rw [beq_eq_false_iff_ne]; exact h0
      rw [b0] at e0
      by_cases h1 : 24 < l.length
      · have h1' : (24 : Int) < (l.length : Int) := by omega
        clear e1 e2 b0 hE' h0
        go_enter Try.func60, Try.ntmps60
        go_wp2
        go_ret
        exact ⟨rfl, Grows.refl _⟩
      · have h2 : l = [46] ∨ l = [46, 46] := by rcases hE' with h | h | h | h; exact absurd h h0; exact absurd h h1; exact .inl h; exact .inr h
        clear e0 e1 e2 hE' h0 h1 b0 hsz
        rcases h2 with rfl | rfl
        · go_enter Try.func60, Try.ntmps60
          go_wp2
          go_ret
          exact ⟨rfl, Grows.refl _⟩
        · go_enter Try.func60, Try.ntmps60
          go_wp2
          go_ret
          exact ⟨rfl, Grows.refl _⟩
end Go.Proofs.Ytanofmejokgijaa
