/-
  Where bytes are cut, as functions of lists (of no program).
-/
import Derived.Test.YtkgkkobdpgnicaaDoorRollM
namespace Go.Proofs.YtkgkkobdpgnicaaDoor
set_option linter.unusedVariables false

structure Prm where
  mn : Nat
  av : Nat
  mx : Nat
/-- Parameters that may be. -/
structure Prm.Ok (p : Prm) : Prop where
  mn : 1 ≤ p.mn
  av : p.mn ≤ p.av
  mx : p.av ≤ p.mx
  top : p.mx ≤ 4096
/-- The greatest power of two that is not above n. -/
def powOf (n : Nat) : Nat := 2 ^ Nat.log2 n
theorem powOf_pos (n : Nat) : 0 < powOf n := Nat.two_pow_pos _
theorem powOf_le {n : Nat} (h : 0 < n) : powOf n ≤ n := Nat.log2_self_le (by omega)
/-- Is there a cut behind these bytes? -/
def cutAt (p : Prm) (l : List UInt8) : Bool := l.length == p.mx || (decide (p.mn ≤ l.length) && hashOf l % powOf p.av == 0)
/-- From the bytes pre on, along the others, to the next cut: how many, and whether there is one. -/
def scan (p : Prm) : List UInt8 → List UInt8 → Nat × Bool
  | _, [] => (0, false)
  | pre, c :: r => if cutAt p (pre ++ [c]) then (1, true) else ((scan p (pre ++ [c]) r).1 + 1, (scan p (pre ++ [c]) r).2)
theorem scan_le (p : Prm) : ∀ (b pre : List UInt8), (scan p pre b).1 ≤ b.length
  | [], _ => Nat.le_refl _
  | c :: r, pre => by
    have := scan_le p r (pre ++ [c])
    rw [scan]; split
    · simp
    · simp only [List.length_cons]; omega
theorem scan_pos (p : Prm) {b : List UInt8} (pre : List UInt8) (h : b ≠ []) : 0 < (scan p pre b).1 := by
  cases b with
  | nil => exact absurd rfl h
  | cons c r => rw [scan]; split <;> simp
theorem scan_false (p : Prm) : ∀ (b pre : List UInt8), (scan p pre b).2 = false → (scan p pre b).1 = b.length
  | [], _, _ => rfl
  | c :: r, pre, h => by
    rw [scan] at h ⊢
    split at h
    · cases h
    · rename_i hc
      rw [if_neg hc, List.length_cons, scan_false p r _ h]
theorem scan_false_append (p : Prm) : ∀ (b c pre : List UInt8), (scan p pre b).2 = false → scan p pre (b ++ c) = (b.length + (scan p (pre ++ b) c).1, (scan p (pre ++ b) c).2)
  | [], c, pre, _ => by simp
  | x :: r, c, pre, h => by
    rw [scan] at h
    split at h
    · cases h
    · rename_i hc
      rw [List.cons_append, scan, if_neg hc, scan_false_append p r c _ h]
      simp only [List.append_assoc, List.singleton_append, List.length_cons]
      rw [show r.length + (scan p (pre ++ x :: r) c).1 + 1 = r.length + 1 + (scan p (pre ++ x :: r) c).1 by omega]
theorem scan_true_append (p : Prm) : ∀ (b c pre : List UInt8), (scan p pre b).2 = true → scan p pre (b ++ c) = scan p pre b
  | [], _, _, h => by cases h
  | x :: r, c, pre, h => by
    rw [scan] at h
    rw [List.cons_append, scan, scan]
    split
    · rfl
    · rename_i hc
      rw [if_neg hc] at h
      rw [scan_true_append p r c _ h]
/-- Where the first cut is. -/
theorem scan_find (p : Prm) : ∀ (b pre : List UInt8) (k : Nat), 1 ≤ k → k ≤ b.length → (∀ j, 1 ≤ j → j < k → cutAt p (pre ++ b.take j) = false) → cutAt p (pre ++ b.take k) = true → scan p pre b = (k, true)
  | [], _, k, h1, h2, _, _ => by simp at h2; omega
  | c :: r, pre, k, h1, h2, hno, hc => by
    obtain ⟨j, rfl⟩ : ∃ j, k = j + 1 := ⟨k - 1, by omega⟩
    rw [scan]
    rw [List.take_succ_cons] at hc
    by_cases hj : j = 0
    · subst hj
      rw [List.take_zero] at hc
      rw [if_pos hc]
    · have h0 := hno 1 (Nat.le_refl _) (by omega)
      rw [List.take_succ_cons, List.take_zero] at h0
      rw [if_neg (by rw [h0]; exact Bool.false_ne_true), scan_find p r (pre ++ [c]) j (by omega) (by simpa using h2) (fun i hi hij => ?_) (by rw [List.append_assoc]; exact hc)]
      have := hno (i + 1) (by omega) (by omega)
      rw [List.take_succ_cons] at this
      rw [List.append_assoc]; exact this
theorem scan_none (p : Prm) : ∀ (b pre : List UInt8), (∀ j, 1 ≤ j → j ≤ b.length → cutAt p (pre ++ b.take j) = false) → scan p pre b = (b.length, false)
  | [], _, _ => rfl
  | c :: r, pre, hno => by
    have h0 := hno 1 (Nat.le_refl _) (by simp)
    rw [List.take_succ_cons, List.take_zero] at h0
    rw [scan, if_neg (by rw [h0]; exact Bool.false_ne_true), scan_none p r (pre ++ [c]) (fun i hi hij => ?_)]
    · rfl
    · have := hno (i + 1) (by omega) (by simpa using hij)
      rw [List.take_succ_cons] at this
      rw [List.append_assoc]; exact this
/-- Where the first cut is: no cut is ahead of it. -/
theorem scan_ahead (p : Prm) : ∀ (b pre : List UInt8) (j : Nat), 1 ≤ j → j < (scan p pre b).1 → cutAt p (pre ++ b.take j) = false
  | [], _, j, _, h => by simp [scan] at h
  | c :: r, pre, j, h1, h => by
    rw [scan] at h
    split at h
    · simp at h; omega
    · rename_i hc
      obtain ⟨i, rfl⟩ : ∃ i, j = i + 1 := ⟨j - 1, by omega⟩
      rw [List.take_succ_cons]
      by_cases hi : i = 0
      · subst hi; rw [List.take_zero]; simpa using hc
      · have := scan_ahead p r (pre ++ [c]) i (by omega) (by simpa using h)
        rw [List.append_assoc] at this; exact this
theorem scan_there (p : Prm) : ∀ (b pre : List UInt8), (scan p pre b).2 = true → cutAt p (pre ++ b.take (scan p pre b).1) = true
  | [], _, h => by cases h
  | c :: r, pre, h => by
    rw [scan] at h ⊢
    split
    · rename_i hc; simpa using hc
    · rename_i hc
      rw [if_neg hc] at h
      have := scan_there p r (pre ++ [c]) h
      simp only [List.take_succ_cons]
      rw [List.append_assoc] at this; exact this
/-- A chunk behind which a cut is. -/
def Shut (p : Prm) (c : List UInt8) : Prop := scan p [] c = (c.length, true)
theorem scan_shut (p : Prm) {b : List UInt8} {pre : List UInt8} (h0 : (scan p [] pre).2 = false) (h : (scan p pre b).2 = true) : Shut p (pre ++ b.take (scan p pre b).1) := by
  have hl := scan_le p b pre
  have hp : 1 ≤ (scan p pre b).1 := by
    rcases b with _ | ⟨c, r⟩
    · cases h
    · exact scan_pos p pre (by simp)
  have h2 : scan p pre (b.take (scan p pre b).1) = ((scan p pre b).1, true) := by
    refine scan_find p _ _ _ hp (by simp [hl]) (fun j h1 h2 => ?_) ?_
    · rw [List.take_take, Nat.min_eq_left (by omega)]; exact scan_ahead p b pre j h1 h2
    · rw [List.take_take, Nat.min_self]; exact scan_there p b pre h
  unfold Shut
  rw [scan_false_append p pre _ [] h0, List.nil_append, h2]
  simp [Nat.min_eq_left hl]
theorem Shut.ne {p : Prm} {c : List UInt8} (h : Shut p c) : c ≠ [] := by rintro rfl; cases h

/-- The chunks of bytes. -/
def chunksN (p : Prm) : Nat → List UInt8 → List (List UInt8)
  | 0, _ => []
  | n + 1, b => if b = [] then [] else b.take (scan p [] b).1 :: chunksN p n (b.drop (scan p [] b).1)
def chunksOf (p : Prm) (b : List UInt8) : List (List UInt8) := chunksN p b.length b
theorem chunksN_more (p : Prm) : ∀ (n m : Nat) (b : List UInt8), b.length ≤ n → b.length ≤ m → chunksN p n b = chunksN p m b
  | 0, 0, _, _, _ => rfl
  | 0, m + 1, b, h, _ => by obtain rfl := List.eq_nil_of_length_eq_zero (by omega : b.length = 0); simp [chunksN]
  | n + 1, 0, b, _, h => by obtain rfl := List.eq_nil_of_length_eq_zero (by omega : b.length = 0); simp [chunksN]
  | n + 1, m + 1, b, h1, h2 => by
    rw [chunksN, chunksN]
    split
    · rfl
    · rename_i hb
      have := scan_pos p [] hb
      rw [chunksN_more p n m _ (by rw [List.length_drop]; omega) (by rw [List.length_drop]; omega)]
theorem chunksOf_nil (p : Prm) : chunksOf p [] = [] := rfl
theorem chunksOf_cons (p : Prm) {b : List UInt8} (h : b ≠ []) : chunksOf p b = b.take (scan p [] b).1 :: chunksOf p (b.drop (scan p [] b).1) := by
  have hb : 0 < b.length := List.length_pos_iff.2 h
  have := scan_pos p [] h
  unfold chunksOf
  obtain ⟨n, hn⟩ : ∃ n, b.length = n + 1 := ⟨b.length - 1, by omega⟩
  rw [hn, chunksN, if_neg h, chunksN_more p n _ _ (by rw [List.length_drop]; omega) (Nat.le_refl _)]
theorem chunks_ind (p : Prm) {C : List UInt8 → Prop} (h0 : C []) (h1 : ∀ b, b ≠ [] → C (b.drop (scan p [] b).1) → C b) : ∀ (n : Nat) (b : List UInt8), b.length ≤ n → C b
  | 0, b, h => by obtain rfl := List.eq_nil_of_length_eq_zero (by omega : b.length = 0); exact h0
  | n + 1, b, h => by
    by_cases hb : b = []
    · subst hb; exact h0
    · have := scan_pos p [] hb
      exact h1 b hb (chunks_ind p h0 h1 n _ (by rw [List.length_drop]; omega))
theorem chunks_flat (p : Prm) (b : List UInt8) : (chunksOf p b).flatten = b := by
  refine chunks_ind p (C := fun b => (chunksOf p b).flatten = b) rfl (fun b hb ih => ?_) b.length b (Nat.le_refl _)
  rw [chunksOf_cons p hb, List.flatten_cons, ih, List.take_append_drop]
theorem shut_chunks (p : Prm) {c : List UInt8} (h : Shut p c) (r : List UInt8) : chunksOf p (c ++ r) = c :: chunksOf p r := by
  have h1 : scan p [] (c ++ r) = (c.length, true) := by rw [scan_true_append p c r [] (by rw [h])]; exact h
  rw [chunksOf_cons p (by simp [h.ne]), h1]
  simp
theorem shuts_chunks (p : Prm) : ∀ {l : List (List UInt8)}, (∀ c ∈ l, Shut p c) → ∀ r, chunksOf p (l.flatten ++ r) = l ++ chunksOf p r
  | [], _, r => rfl
  | c :: l, h, r => by
    rw [List.flatten_cons, List.append_assoc, shut_chunks p (h c (by simp)), shuts_chunks p (fun d hd => h d (by simp [hd])) r]; rfl
theorem open_chunks (p : Prm) {b : List UInt8} (h : (scan p [] b).2 = false) : chunksOf p b = if b = [] then [] else [b] := by
  split
  · rename_i hb; subst hb; rfl
  · rename_i hb
    rw [chunksOf_cons p hb, scan_false p b [] h, List.take_length, List.drop_length, chunksOf_nil]
/-- Each chunk but the last one is shut. -/
theorem chunks_shut (p : Prm) (b : List UInt8) : ∀ i c, (chunksOf p b)[i]? = some c → i + 1 < (chunksOf p b).length → Shut p c := by
  refine chunks_ind p (C := fun b => ∀ i c, (chunksOf p b)[i]? = some c → i + 1 < (chunksOf p b).length → Shut p c) (fun i c h => by simp [chunksOf_nil] at h) (fun b hb ih i c h hi => ?_) b.length b (Nat.le_refl _)
  rw [chunksOf_cons p hb] at h hi
  cases i with
  | zero =>
    have hc : b.take (scan p [] b).1 = c := by simpa using h
    have h2 : (scan p [] b).2 = true := by
      cases h3 : (scan p [] b).2 with
      | true => rfl
      | false => rw [scan_false p b [] h3, List.drop_length, chunksOf_nil] at hi; simp at hi
    have := scan_shut p (pre := []) (b := b) rfl h2
    rwa [List.nil_append, hc] at this
  | succ i => exact ih i c (by simpa using h) (by simpa using hi)
theorem chunk_ne (p : Prm) (b : List UInt8) : ∀ c ∈ chunksOf p b, c ≠ [] := by
  refine chunks_ind p (C := fun b => ∀ c ∈ chunksOf p b, c ≠ []) (fun c h => by simp [chunksOf_nil] at h) (fun b hb ih c h => ?_) b.length b (Nat.le_refl _)
  rw [chunksOf_cons p hb] at h
  rcases List.mem_cons.1 h with rfl | h
  · have := scan_pos p [] hb
    intro e
    have hb' := List.length_pos_iff.2 hb
    have := congrArg List.length e
    rw [List.length_take, List.length_nil] at this
    omega
  · exact ih c h
theorem cut_max {p : Prm} {l : List UInt8} (h : l.length = p.mx) : cutAt p l = true := by simp [cutAt, h]
theorem cut_min {p : Prm} (hp : p.Ok) {l : List UInt8} (h : cutAt p l = true) : p.mn ≤ l.length := by
  have := hp.av; have := hp.mx
  simp [cutAt] at h
  omega
theorem cut_few {p : Prm} (hp : p.Ok) {l : List UInt8} (h : l.length < p.mn) : cutAt p l = false := by
  cases hc : cutAt p l with
  | false => rfl
  | true => have := cut_min hp hc; omega
theorem scan_max {p : Prm} (hp : p.Ok) (b : List UInt8) : (scan p [] b).1 ≤ p.mx := by
  have h1 := hp.mn; have h2 := hp.av; have h3 := hp.mx
  rcases Nat.lt_or_ge p.mx (scan p [] b).1 with h | h
  · have h4 := scan_ahead p b [] p.mx (by omega) h
    rw [List.nil_append, cut_max (by rw [List.length_take]; have := scan_le p b []; omega)] at h4
    cases h4
  · exact h
theorem open_max {p : Prm} (hp : p.Ok) {b : List UInt8} (h : (scan p [] b).2 = false) : b.length < p.mx := by
  have h1 := hp.mn; have h2 := hp.av; have h3 := hp.mx
  rcases Nat.lt_or_ge b.length p.mx with h4 | h4
  · exact h4
  · have h5 := scan_false p b [] h
    have h6 := scan_max hp b
    have h7 : cutAt p (b.take b.length) = true := cut_max (by rw [List.length_take]; omega)
    rcases Nat.lt_or_ge 0 b.length with h8 | h8
    · have := scan_find p b [] b.length h8 (Nat.le_refl _) (fun j hj hjl => by have := scan_ahead p b [] j hj (by omega); exact this) h7
      rw [this] at h; cases h
    · omega
theorem chunk_max {p : Prm} (hp : p.Ok) (b : List UInt8) : ∀ c ∈ chunksOf p b, c.length ≤ p.mx := by
  refine chunks_ind p (C := fun b => ∀ c ∈ chunksOf p b, c.length ≤ p.mx) (fun c h => by simp [chunksOf_nil] at h) (fun b hb ih c h => ?_) b.length b (Nat.le_refl _)
  rw [chunksOf_cons p hb] at h
  rcases List.mem_cons.1 h with rfl | h
  · have := scan_max hp b
    rw [List.length_take]; omega
  · exact ih c h
theorem shut_min {p : Prm} (hp : p.Ok) {c : List UInt8} (h : Shut p c) : p.mn ≤ c.length := by
  have := scan_there p c [] (by rw [h])
  rw [h] at this
  have := cut_min hp this
  simpa using this
theorem chunk_min {p : Prm} (hp : p.Ok) (b : List UInt8) (i : Nat) (c : List UInt8) (h : (chunksOf p b)[i]? = some c) (hi : i + 1 < (chunksOf p b).length) : p.mn ≤ c.length := shut_min hp (chunks_shut p b i c h hi)
theorem chunks_len (p : Prm) (b : List UInt8) : (chunksOf p b).length ≤ b.length := by
  have h1 := chunks_flat p b
  have h2 := chunk_ne p b
  generalize chunksOf p b = l at *
  rw [← h1]
  clear h1
  induction l with
  | nil => simp
  | cons c l ih =>
    have := ih fun d hd => h2 d (by simp [hd])
    have hc := List.length_pos_iff.2 (h2 c (by simp))
    simp only [List.length_cons, List.flatten_cons, List.length_append]
    omega
/-- Where the same bytes stand behind a cut, the same chunks do. -/
theorem chunks_again (p : Prm) (a t : List UInt8) (k : Nat) (hk : k + 1 ≤ (chunksOf p a).length) : chunksOf p (((chunksOf p a).take k).flatten ++ t) = (chunksOf p a).take k ++ chunksOf p t := by
  refine shuts_chunks p (fun c hc => ?_) t
  obtain ⟨i, hi⟩ := List.mem_iff_getElem?.1 hc
  have hik : i < k := by have := (List.getElem?_eq_some_iff.1 hi).1; simp at this; omega
  rw [List.getElem?_take_of_lt hik] at hi
  exact chunks_shut p a i c hi (by omega)
/-- What stands at the hash's lowest bits. -/
theorem and_pow (h k : Nat) : (h &&& (2 ^ k - 1)) = h % 2 ^ k := Nat.and_two_pow_sub_one_eq_mod h k
end Go.Proofs.YtkgkkobdpgnicaaDoor
