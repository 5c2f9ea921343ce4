/-
  Contracts, joined (LzM FrM ShaM Hex StM ErrIs Pair Parse Ref).
-/
import Derived.Test.YtbcldknecdbemaaDoorP2
import Derived.Test.YtbcldknecdbemaaDoorRows
import Derived.Test.YtbcldknecdbemaaDoorP1
import Derived.Deep.RegionHeld3
import Derived.Outline
import Derived.Lib.Hide
import Derived.Test.YtbcldknecdbemaaDoorChecked
import Derived.WalkKit
import Derived.LaidEql
import Derived.Stop.Asserts
import Derived.BigQuiet

/-
  Bytes in fewer, as functions of lists (of no program): the match at a place, literal tokens, bytes packed, unpacked, how many tokens; what is packed is unpacked as it was, and how long it is.
-/
namespace Go.Proofs.YtbcldknecdbemaaDoor
set_option linter.unusedVariables false
set_option maxRecDepth 20000

/-- From n on: how many bytes from i on are those d ahead of them (f more at most). -/
def mgo (b : List UInt8) (i d : Nat) : Nat → Nat → Nat
  | 0, n => n
  | f + 1, n => if i + n < b.length ∧ b[i + n]? = b[i + n - d]? then mgo b i d f (n + 1) else n
def mlen (b : List UInt8) (i d : Nat) : Nat := mgo b i d 131 0
theorem mgo_go {b : List UInt8} {i d n : Nat} (hn : n < 131) (h1 : i + n < b.length) (h2 : b[i + n]? = b[i + n - d]?) : mgo b i d (131 - n) n = mgo b i d (131 - (n + 1)) (n + 1) := by
  rw [show 131 - n = (131 - (n + 1)) + 1 by omega, mgo, if_pos ⟨h1, h2⟩]
theorem mgo_end {b : List UInt8} {i d n : Nat} (h : ¬ (n < 131 ∧ i + n < b.length ∧ b[i + n]? = b[i + n - d]?)) : mgo b i d (131 - n) n = n := by
  by_cases hn : n < 131
  · rw [show 131 - n = (131 - (n + 1)) + 1 by omega, mgo, if_neg (fun hc => h ⟨hn, hc⟩)]
  · rw [show 131 - n = 0 by omega, mgo]
theorem mgo_spec (b : List UInt8) (i d : Nat) : ∀ f n, n ≤ mgo b i d f n ∧ mgo b i d f n ≤ n + f ∧ (∀ t, n ≤ t → t < mgo b i d f n → i + t < b.length ∧ b[i + t]? = b[i + t - d]?) ∧
    (mgo b i d f n < n + f → ¬ (i + mgo b i d f n < b.length ∧ b[i + mgo b i d f n]? = b[i + mgo b i d f n - d]?))
  | 0, n => by refine ⟨Nat.le_refl _, Nat.le_refl _, fun t h1 h2 => ?_, fun h => ?_⟩ <;> (simp only [mgo] at *; omega)
  | f + 1, n => by
    rw [mgo]
    split
    · rename_i hc
      obtain ⟨h1, h2, h3, h4⟩ := mgo_spec b i d f (n + 1)
      refine ⟨by omega, by omega, fun t ht1 ht2 => ?_, fun h => h4 (by omega)⟩
      rcases Nat.lt_or_ge n t with h | h
      · exact h3 t (by omega) ht2
      · obtain rfl : t = n := by omega
        exact hc
    · rename_i hc
      exact ⟨Nat.le_refl _, by omega, fun t h1 h2 => by omega, fun _ => hc⟩
theorem mlen_le (b : List UInt8) (i d : Nat) : mlen b i d ≤ 131 := by have := (mgo_spec b i d 131 0).2.1; unfold mlen; omega
theorem mlen_at {b : List UInt8} {i d t : Nat} (h : t < mlen b i d) : i + t < b.length ∧ b[i + t]? = b[i + t - d]? := (mgo_spec b i d 131 0).2.2.1 t (Nat.zero_le _) h
theorem mlen_stop {b : List UInt8} {i d : Nat} (h : mlen b i d < 131) : ¬ (i + mlen b i d < b.length ∧ b[i + mlen b i d]? = b[i + mlen b i d - d]?) := (mgo_spec b i d 131 0).2.2.2 (by unfold mlen at h; omega)
theorem mlen_ge {b : List UInt8} {i d n : Nat} (hn : n ≤ 131) (h : ∀ t, t < n → i + t < b.length ∧ b[i + t]? = b[i + t - d]?) : n ≤ mlen b i d := by
  rcases Nat.lt_or_ge (mlen b i d) n with hlt | hge
  · exact absurd (h _ hlt) (mlen_stop (by omega))
  · exact hge
theorem mlen_fit {b : List UInt8} {i d : Nat} (h : 0 < mlen b i d) : i + mlen b i d ≤ b.length := by have := (mlen_at (b := b) (i := i) (d := d) (t := mlen b i d - 1) (by omega)).1; omega

/-- The best of the distances 1 to k. -/
def bestTo (b : List UInt8) (i : Nat) : Nat → Nat × Nat
  | 0 => (0, 0)
  | k + 1 => if 3 < mlen b i (k + 1) ∧ (bestTo b i k).1 < mlen b i (k + 1) then (mlen b i (k + 1), k + 1) else bestTo b i k
theorem bestTo_spec (b : List UInt8) (i : Nat) : ∀ k, (bestTo b i k = (0, 0) ∧ ∀ d, 1 ≤ d → d ≤ k → mlen b i d ≤ 3) ∨
    (3 < (bestTo b i k).1 ∧ 1 ≤ (bestTo b i k).2 ∧ (bestTo b i k).2 ≤ k ∧ (bestTo b i k).1 = mlen b i (bestTo b i k).2 ∧ (∀ d, 1 ≤ d → d ≤ k → mlen b i d ≤ (bestTo b i k).1) ∧ ∀ d, 1 ≤ d → d < (bestTo b i k).2 → mlen b i d < (bestTo b i k).1)
  | 0 => .inl ⟨rfl, fun d h1 h2 => by omega⟩
  | k + 1 => by
    have ih := bestTo_spec b i k
    rw [bestTo]
    split
    · rename_i hc
      obtain ⟨h1, h2⟩ := hc
      refine .inr ⟨h1, by simp, by simp, rfl, fun d hd1 hd2 => ?_, fun d hd1 hd2 => ?_⟩
      · rcases Nat.lt_or_ge k d with h | h
        · obtain rfl : d = k + 1 := by omega
          exact Nat.le_refl _
        · rcases ih with ⟨e, h3⟩ | ⟨_, _, _, _, h3, _⟩
          · have := h3 d hd1 h; simp only []; omega
          · have := h3 d hd1 h; simp only []; omega
      · simp only [] at hd2 ⊢
        rcases ih with ⟨e, h3⟩ | ⟨_, _, _, _, h3, _⟩
        · have := h3 d hd1 (by omega); omega
        · have := h3 d hd1 (by omega); omega
    · rename_i hc
      rcases ih with ⟨e, h3⟩ | ⟨g1, g2, g3, g4, g5, g6⟩
      · refine .inl ⟨e, fun d hd1 hd2 => ?_⟩
        rcases Nat.lt_or_ge k d with h | h
        · obtain rfl : d = k + 1 := by omega
          rw [e] at hc
          simp only [] at hc
          omega
        · exact h3 d hd1 h
      · refine .inr ⟨g1, g2, by omega, g4, fun d hd1 hd2 => ?_, g6⟩
        rcases Nat.lt_or_ge k d with h | h
        · obtain rfl : d = k + 1 := by omega
          omega
        · exact g5 d hd1 h

/-- The match at a place: its length and its distance, 0 and 0 if there is none. -/
def matchOf (b : List UInt8) (i : Nat) : Nat × Nat := if i < b.length then bestTo b i (min i 1024) else (0, 0)
def matchAt (b : List UInt8) (p : Int) : Nat × Nat := if p < 0 then (0, 0) else matchOf b p.toNat
theorem matchAt_nat (b : List UInt8) (i : Nat) : matchAt b (i : Int) = matchOf b i := by unfold matchAt; rw [if_neg (by omega)]; simp
theorem match_none {b : List UInt8} {i : Nat} (h : (matchOf b i).1 = 0) : matchOf b i = (0, 0) := by
  unfold matchOf at h ⊢
  split
  · rw [if_pos ‹_›] at h
    rcases bestTo_spec b i (min i 1024) with ⟨e, _⟩ | ⟨g, _⟩
    · exact e
    · omega
  · rfl
theorem match_some {b : List UInt8} {i : Nat} (h : (matchOf b i).1 ≠ 0) : 4 ≤ (matchOf b i).1 ∧ (matchOf b i).1 ≤ 131 ∧ 1 ≤ (matchOf b i).2 ∧ (matchOf b i).2 ≤ i ∧ (matchOf b i).2 ≤ 1024 ∧ i + (matchOf b i).1 ≤ b.length ∧
    ∀ t, t < (matchOf b i).1 → i + t < b.length ∧ b[i + t]? = b[i + t - (matchOf b i).2]? := by
  unfold matchOf at h ⊢
  split
  · rw [if_pos ‹_›] at h
    rcases bestTo_spec b i (min i 1024) with ⟨e, _⟩ | ⟨g1, g2, g3, g4, _⟩
    · rw [e] at h; exact absurd rfl h
    · refine ⟨by omega, ?_, g2, by omega, by omega, ?_, ?_⟩
      · rw [g4]; exact mlen_le _ _ _
      · have := mlen_fit (b := b) (i := i) (d := (bestTo b i (min i 1024)).2) (by omega)
        omega
      · intro t ht
        rw [g4] at ht
        exact mlen_at ht
  · rw [if_neg ‹_›] at h; exact absurd rfl h

/-- Literal bytes as tokens. -/
def lits (l : List UInt8) : List UInt8 :=
  if h : l = [] then [] else UInt8.ofNat ((l.take 128).length - 1) :: (l.take 128 ++ lits (l.drop 128))
termination_by l.length
decreasing_by
  have : 0 < l.length := List.length_pos_iff.2 h
  rw [List.length_drop]
  omega
theorem lits_nil : lits [] = [] := by rw [lits]; rfl
theorem lits_more {l : List UInt8} (h : l ≠ []) : lits l = UInt8.ofNat ((l.take 128).length - 1) :: (l.take 128 ++ lits (l.drop 128)) := by
  rw [lits, dif_neg h]
/-- A match as a token. -/
def mtok (m : Nat × Nat) : List UInt8 := [UInt8.ofNat (124 + m.1), UInt8.ofNat ((m.2 - 1) % 256), UInt8.ofNat ((m.2 - 1) / 256)]
/-- Bytes packed, from the place i on, the literal ones from fr on. -/
def packFrom (b : List UInt8) (i fr : Nat) : List UInt8 :=
  if h : i < b.length then
    if hn : (matchOf b i).1 = 0 then packFrom b (i + 1) fr
    else lits ((b.drop fr).take (i - fr)) ++ (mtok (matchOf b i) ++ packFrom b (i + (matchOf b i).1) (i + (matchOf b i).1))
  else lits (b.drop fr)
termination_by b.length - i
def packOf (b : List UInt8) : List UInt8 := packFrom b 0 0
theorem pack_none {b : List UInt8} {i fr : Nat} (h : i < b.length) (hn : (matchOf b i).1 = 0) : packFrom b i fr = packFrom b (i + 1) fr := by rw [packFrom, dif_pos h, dif_pos hn]
theorem pack_some {b : List UInt8} {i fr : Nat} (h : i < b.length) (hn : (matchOf b i).1 ≠ 0) :
    packFrom b i fr = lits ((b.drop fr).take (i - fr)) ++ (mtok (matchOf b i) ++ packFrom b (i + (matchOf b i).1) (i + (matchOf b i).1)) := by rw [packFrom, dif_pos h, dif_neg hn]
theorem pack_end {b : List UInt8} {i fr : Nat} (h : ¬ i < b.length) : packFrom b i fr = lits (b.drop fr) := by rw [packFrom, dif_neg h]

/-- n times the byte d ahead of the end. -/
def copyN : Nat → Nat → List UInt8 → List UInt8
  | 0, _, out => out
  | n + 1, d, out => copyN n d (out ++ [out.getD (out.length - d) 0])
theorem copyN_len : ∀ n d (out : List UInt8), (copyN n d out).length = out.length + n
  | 0, _, _ => rfl
  | n + 1, d, out => by rw [copyN, copyN_len n]; simp; omega
theorem copyN_succ : ∀ n d (out : List UInt8), copyN (n + 1) d out = copyN n d out ++ [(copyN n d out).getD ((copyN n d out).length - d) 0]
  | 0, _, _ => rfl
  | n + 1, d, out => by rw [copyN, copyN_succ n d, copyN]
theorem copyN_take {b : List UInt8} {d : Nat} (hd : 1 ≤ d) : ∀ (n i : Nat), d ≤ i → (∀ t, t < n → i + t < b.length ∧ b[i + t]? = b[i + t - d]?) → copyN n d (b.take i) = b.take (i + n)
  | 0, i, _, _ => rfl
  | n + 1, i, hi, h => by
    obtain ⟨h1, h2⟩ := h 0 (by omega)
    rw [Nat.add_zero] at h1 h2
    have hl : (b.take i).length = i := by rw [List.length_take]; omega
    have e : (b.take i).getD ((b.take i).length - d) 0 = b[i] := by
      rw [hl, List.getD, List.getElem?_take, if_pos (by omega), ← h2, List.getElem?_eq_getElem h1]
      rfl
    rw [copyN, e, ← List.take_succ_eq_append_getElem h1, copyN_take hd n (i + 1) (by omega) (fun t ht => by have := h (t + 1) (by omega); rwa [show i + (t + 1) = i + 1 + t by omega] at this), show i + 1 + n = i + (n + 1) by omega]

/-- The bytes of tokens, behind those that are there, and the error's number. -/
def unp (most : Int) (p out : List UInt8) : List UInt8 × Nat :=
  match p with
  | [] => (out, 0)
  | c :: r =>
    if c.toNat < 128 then
      if r.length < c.toNat + 1 then ([], 2)
      else if most < (out.length : Int) + c.toNat + 1 then ([], 3)
      else unp most (r.drop (c.toNat + 1)) (out ++ r.take (c.toNat + 1))
    else if r.length < 2 then ([], 2)
    else if out.length < 1 + (r.getD 0 0).toNat + 256 * (r.getD 1 0).toNat then ([], 2)
    else if most < (out.length : Int) + c.toNat - 124 then ([], 3)
    else unp most (r.drop 2) (copyN (c.toNat - 124) (1 + (r.getD 0 0).toNat + 256 * (r.getD 1 0).toNat) out)
termination_by p.length
decreasing_by all_goals (simp only [List.length_cons, List.length_drop]; omega)
def unpackOf (p : List UInt8) (most : Int) : List UInt8 × Nat := unp most p []
theorem unp_nil (most : Int) (out : List UInt8) : unp most [] out = (out, 0) := by rw [unp]
section
variable {most : Int} {c : UInt8} {r out : List UInt8}
theorem unp_lit_form (hc : c.toNat < 128) (h : r.length < c.toNat + 1) : unp most (c :: r) out = ([], 2) := by rw [unp, if_pos hc, if_pos h]
theorem unp_lit_range (hc : c.toNat < 128) (h : ¬ r.length < c.toNat + 1) (hm : most < (out.length : Int) + c.toNat + 1) : unp most (c :: r) out = ([], 3) := by rw [unp, if_pos hc, if_neg h, if_pos hm]
theorem unp_lit (hc : c.toNat < 128) (h : ¬ r.length < c.toNat + 1) (hm : ¬ most < (out.length : Int) + c.toNat + 1) : unp most (c :: r) out = unp most (r.drop (c.toNat + 1)) (out ++ r.take (c.toNat + 1)) := by
  rw [unp, if_pos hc, if_neg h, if_neg hm]
theorem unp_mat_short (hc : ¬ c.toNat < 128) (h : r.length < 2) : unp most (c :: r) out = ([], 2) := by rw [unp, if_neg hc, if_pos h]
theorem unp_mat_far (hc : ¬ c.toNat < 128) (h : ¬ r.length < 2) (hd : out.length < 1 + (r.getD 0 0).toNat + 256 * (r.getD 1 0).toNat) : unp most (c :: r) out = ([], 2) := by rw [unp, if_neg hc, if_neg h, if_pos hd]
theorem unp_mat_range (hc : ¬ c.toNat < 128) (h : ¬ r.length < 2) (hd : ¬ out.length < 1 + (r.getD 0 0).toNat + 256 * (r.getD 1 0).toNat) (hm : most < (out.length : Int) + c.toNat - 124) : unp most (c :: r) out = ([], 3) := by
  rw [unp, if_neg hc, if_neg h, if_neg hd, if_pos hm]
theorem unp_mat (hc : ¬ c.toNat < 128) (h : ¬ r.length < 2) (hd : ¬ out.length < 1 + (r.getD 0 0).toNat + 256 * (r.getD 1 0).toNat) (hm : ¬ most < (out.length : Int) + c.toNat - 124) :
    unp most (c :: r) out = unp most (r.drop 2) (copyN (c.toNat - 124) (1 + (r.getD 0 0).toNat + 256 * (r.getD 1 0).toNat) out) := by rw [unp, if_neg hc, if_neg h, if_neg hd, if_neg hm]
end

/-- One literal token. -/
theorem unp_piece {most : Int} {l r out : List UInt8} {k : Nat} (hk : l.length = k + 1) (h8 : k < 128) (hm : (out.length : Int) + (k + 1 : Nat) ≤ most) : unp most (UInt8.ofNat k :: (l ++ r)) out = unp most r (out ++ l) := by
  have hc : (UInt8.ofNat k).toNat = k := by rw [UInt8.toNat_ofNat']; omega
  rw [unp_lit (by omega) (by rw [hc, List.length_append]; omega) (by rw [hc]; omega), hc]
  rw [← hk, List.drop_left, List.take_left]
theorem unp_piece_range {most : Int} {l r out : List UInt8} {k : Nat} (hk : l.length = k + 1) (h8 : k < 128) (hm : most < (out.length : Int) + (k + 1 : Nat)) : unp most (UInt8.ofNat k :: (l ++ r)) out = ([], 3) := by
  have hc : (UInt8.ofNat k).toNat = k := by rw [UInt8.toNat_ofNat']; omega
  rw [unp_lit_range (by omega) (by rw [hc, List.length_append]; omega) (by rw [hc]; omega)]
theorem unp_lits (most : Int) : ∀ (n : Nat) (l r out : List UInt8), l.length = n → (out.length : Int) ≤ most →
    unp most (lits l ++ r) out = if (out.length : Int) + l.length ≤ most then unp most r (out ++ l) else ([], 3) := by
  intro n
  induction n using Nat.strongRecOn with
  | ind n ih =>
    intro l r out hl ho
    by_cases he : l = []
    · subst he
      rw [lits_nil, if_pos (by simpa using ho), List.nil_append, List.append_nil]
    · have hpos : 0 < l.length := List.length_pos_iff.2 he
      have ht : (l.take 128).length = ((l.take 128).length - 1) + 1 := by rw [List.length_take]; omega
      have ht8 : (l.take 128).length - 1 < 128 := by rw [List.length_take]; omega
      have hsum : (l.take 128).length + (l.drop 128).length = l.length := by rw [List.length_take, List.length_drop]; omega
      rw [lits_more he, List.cons_append, List.append_assoc]
      by_cases hm : (out.length : Int) + (l.take 128).length ≤ most
      · rw [unp_piece ht ht8 (by omega), ih (l.drop 128).length (by rw [List.length_drop]; omega) _ _ _ rfl (by rw [List.length_append]; omega), List.append_assoc, List.take_append_drop, List.length_append]
        by_cases hx : (out.length : Int) + l.length ≤ most
        · rw [if_pos hx, if_pos (by omega)]
        · rw [if_neg hx, if_neg (by omega)]
      · rw [unp_piece_range ht ht8 (by omega), if_neg (by omega)]
/-- One match token. -/
theorem unp_mtok {most : Int} {r out : List UInt8} {m : Nat × Nat} (h1 : 4 ≤ m.1) (h2 : m.1 ≤ 131) (h3 : 1 ≤ m.2) (h4 : m.2 ≤ out.length) (h5 : m.2 ≤ 65536) :
    unp most (mtok m ++ r) out = if (out.length : Int) + m.1 ≤ most then unp most r (copyN m.1 m.2 out) else ([], 3) := by
  have hc : (UInt8.ofNat (124 + m.1)).toNat = 124 + m.1 := by rw [UInt8.toNat_ofNat']; omega
  have hx : (UInt8.ofNat ((m.2 - 1) % 256)).toNat = (m.2 - 1) % 256 := by rw [UInt8.toNat_ofNat']; omega
  have hy : (UInt8.ofNat ((m.2 - 1) / 256)).toNat = (m.2 - 1) / 256 := by rw [UInt8.toNat_ofNat']; omega
  have hd : 1 + (m.2 - 1) % 256 + 256 * ((m.2 - 1) / 256) = m.2 := by omega
  unfold mtok
  simp only [List.cons_append, List.nil_append]
  by_cases hm : (out.length : Int) + m.1 ≤ most
  · rw [unp_mat (by rw [hc]; omega) (by simp) (by simp [hx, hy]; omega) (by rw [hc]; omega), if_pos hm]
    simp only [List.drop_succ_cons, List.drop_zero, List.getD_cons_zero, List.getD_cons_succ, hx, hy, hc, hd]
    rw [show 124 + m.1 - 124 = m.1 by omega]
  · rw [unp_mat_range (by rw [hc]; omega) (by simp) (by simp [hx, hy]; omega) (by rw [hc]; omega), if_neg hm]

theorem pack_unp (most : Int) (b : List UInt8) : ∀ (n i fr : Nat), b.length - i = n → fr ≤ i → i ≤ b.length → (fr : Int) ≤ most →
    unp most (packFrom b i fr) (b.take fr) = if (b.length : Int) ≤ most then (b, 0) else ([], 3) := by
  intro n
  induction n using Nat.strongRecOn with
  | ind n ih =>
    intro i fr hn hfi hib hm
    have hfl : (b.take fr).length = fr := by rw [List.length_take]; omega
    by_cases hi : i < b.length
    · by_cases h0 : (matchOf b i).1 = 0
      · rw [pack_none hi h0]
        exact ih (b.length - (i + 1)) (by omega) (i + 1) fr rfl (by omega) (by omega) hm
      · obtain ⟨g1, g2, g3, g4, g5, g6, g7⟩ := match_some h0
        have hpl : ((b.drop fr).take (i - fr)).length = i - fr := by rw [List.length_take, List.length_drop]; omega
        have hcat : b.take fr ++ (b.drop fr).take (i - fr) = b.take i := by
          rw [show i = fr + (i - fr) by omega, List.take_add, show fr + (i - fr) - fr = i - fr by omega]
        have hil : (b.take i).length = i := by rw [List.length_take]; omega
        rw [pack_some hi h0, unp_lits most _ _ _ _ rfl (by omega), hfl, hpl]
        by_cases hm2 : (i : Int) ≤ most
        · rw [if_pos (by omega), hcat, unp_mtok g1 g2 g3 (by omega) (by omega), hil]
          by_cases hm3 : (i : Int) + (matchOf b i).1 ≤ most
          · rw [if_pos hm3, copyN_take g3 _ i g4 g7]
            exact ih (b.length - (i + (matchOf b i).1)) (by omega) _ _ rfl (Nat.le_refl _) g6 (by omega)
          · rw [if_neg hm3, if_neg (by omega)]
        · rw [if_neg (by omega), if_neg (by omega)]
    · rw [pack_end hi]
      have h := unp_lits most _ (b.drop fr) [] (b.take fr) rfl (by omega)
      rw [List.append_nil] at h
      rw [h, hfl, List.length_drop, List.take_append_drop, unp_nil]
      by_cases hx : (b.length : Int) ≤ most
      · rw [if_pos (by omega), if_pos hx]
      · rw [if_neg (by omega), if_neg hx]
/-- What is packed is unpacked as it was, just if there are no more bytes than most. -/
theorem unpack_pack (b : List UInt8) (most : Int) (h : 0 ≤ most) : unpackOf (packOf b) most = if (b.length : Int) ≤ most then (b, 0) else ([], 3) := by
  have := pack_unp most b _ 0 0 rfl (Nat.le_refl _) (Nat.zero_le _) (by simpa using h)
  simpa [unpackOf, packOf] using this

theorem lits_len : ∀ (n : Nat) (l : List UInt8), l.length = n → (lits l).length = n + (n + 127) / 128 := by
  intro n
  induction n using Nat.strongRecOn with
  | ind n ih =>
    intro l hl
    by_cases he : l = []
    · subst he
      simp at hl
      subst hl
      rw [lits_nil]
      rfl
    · have hpos : 0 < l.length := List.length_pos_iff.2 he
      rw [lits_more he, List.length_cons, List.length_append, ih (l.length - 128) (by omega) _ (by rw [List.length_drop]), List.length_take]
      omega
theorem mtok_len (m : Nat × Nat) : (mtok m).length = 3 := rfl
theorem packFrom_len (b : List UInt8) : ∀ (n i fr : Nat), b.length - i = n → fr ≤ i → i ≤ b.length → (packFrom b i fr).length ≤ (b.length - fr) + (b.length - fr + 127) / 128 := by
  intro n
  induction n using Nat.strongRecOn with
  | ind n ih =>
    intro i fr hn hfi hib
    by_cases hi : i < b.length
    · by_cases h0 : (matchOf b i).1 = 0
      · rw [pack_none hi h0]
        exact ih (b.length - (i + 1)) (by omega) (i + 1) fr rfl (by omega) (by omega)
      · obtain ⟨g1, g2, g3, g4, g5, g6, g7⟩ := match_some h0
        have h1 := ih (b.length - (i + (matchOf b i).1)) (by omega) _ (i + (matchOf b i).1) rfl (Nat.le_refl _) g6
        rw [pack_some hi h0, List.length_append, List.length_append, mtok_len, lits_len (i - fr) _ (by rw [List.length_take, List.length_drop]; omega)]
        omega
    · rw [pack_end hi, lits_len (b.length - fr) _ (by rw [List.length_drop])]
      exact Nat.le_refl _
theorem packOf_len (b : List UInt8) : (packOf b).length ≤ b.length + (b.length + 127) / 128 := packFrom_len b _ 0 0 rfl (Nat.le_refl _) (Nat.zero_le _)

/-- How many tokens, behind n. -/
def cnt (p : List UInt8) (n : Nat) : Option Nat :=
  match p with
  | [] => some n
  | c :: r => if c.toNat < 128 then (if r.length < c.toNat + 1 then none else cnt (r.drop (c.toNat + 1)) (n + 1)) else if r.length < 2 then none else cnt (r.drop 2) (n + 1)
termination_by p.length
decreasing_by all_goals (simp only [List.length_cons, List.length_drop]; omega)
def countOf (p : List UInt8) : Option Nat := cnt p 0
theorem cnt_nil (n : Nat) : cnt [] n = some n := by rw [cnt]
theorem cnt_lit {c : UInt8} {r : List UInt8} {n : Nat} (hc : c.toNat < 128) (h : ¬ r.length < c.toNat + 1) : cnt (c :: r) n = cnt (r.drop (c.toNat + 1)) (n + 1) := by rw [cnt, if_pos hc, if_neg h]
theorem cnt_lit_none {c : UInt8} {r : List UInt8} {n : Nat} (hc : c.toNat < 128) (h : r.length < c.toNat + 1) : cnt (c :: r) n = none := by rw [cnt, if_pos hc, if_pos h]
theorem cnt_mat {c : UInt8} {r : List UInt8} {n : Nat} (hc : ¬ c.toNat < 128) (h : ¬ r.length < 2) : cnt (c :: r) n = cnt (r.drop 2) (n + 1) := by rw [cnt, if_neg hc, if_neg h]
theorem cnt_mat_none {c : UInt8} {r : List UInt8} {n : Nat} (hc : ¬ c.toNat < 128) (h : r.length < 2) : cnt (c :: r) n = none := by rw [cnt, if_neg hc, if_pos h]
theorem cnt_lits : ∀ (k : Nat) (l r : List UInt8) (n : Nat), l.length = k → cnt (lits l ++ r) n = cnt r (n + (k + 127) / 128) := by
  intro k
  induction k using Nat.strongRecOn with
  | ind k ih =>
    intro l r n hl
    by_cases he : l = []
    · subst he
      simp at hl
      subst hl
      rw [lits_nil]
      rfl
    · have hpos : 0 < l.length := List.length_pos_iff.2 he
      have hc : (UInt8.ofNat ((l.take 128).length - 1)).toNat = (l.take 128).length - 1 := by rw [UInt8.toNat_ofNat', List.length_take]; omega
      have ht : (l.take 128).length - 1 + 1 = (l.take 128).length := by rw [List.length_take]; omega
      rw [lits_more he, List.cons_append, List.append_assoc, cnt_lit (by rw [hc, List.length_take]; omega) (by rw [hc, ht, List.length_append]; omega), hc, ht, List.drop_left,
        ih (l.length - 128) (by omega) _ _ _ (by rw [List.length_drop])]
      congr 1
      omega
theorem cnt_mtok (m : Nat × Nat) (r : List UInt8) (n : Nat) (h : 4 ≤ m.1) (h2 : m.1 ≤ 131) : cnt (mtok m ++ r) n = cnt r (n + 1) := by
  have hc : (UInt8.ofNat (124 + m.1)).toNat = 124 + m.1 := by rw [UInt8.toNat_ofNat']; omega
  unfold mtok
  simp only [List.cons_append, List.nil_append]
  rw [cnt_mat (by rw [hc]; omega) (by simp)]
  rfl

/-- One byte many times: the match at each place but the first. -/
theorem rep_at (k : Nat) (c : UInt8) (j : Nat) : (List.replicate k c)[j]? = if j < k then some c else none := List.getElem?_replicate
theorem rep_mlen (k : Nat) (c : UInt8) (i d : Nat) (hd : 1 ≤ d) (hdi : d ≤ i) (hi : i < k) : mlen (List.replicate k c) i d = min 131 (k - i) := by
  have h1 : min 131 (k - i) ≤ mlen (List.replicate k c) i d := mlen_ge (by omega) fun t ht => by
    rw [List.length_replicate, rep_at, rep_at, if_pos (by omega), if_pos (by omega)]
    exact ⟨by omega, rfl⟩
  have h2 := mlen_le (List.replicate k c) i d
  have h3 := mlen_fit (b := List.replicate k c) (i := i) (d := d) (by omega)
  rw [List.length_replicate] at h3
  omega
theorem rep_best (k : Nat) (c : UInt8) (i : Nat) (hi : i < k) (h4 : 4 ≤ k - i) : ∀ m, 1 ≤ m → m ≤ i → bestTo (List.replicate k c) i m = (min 131 (k - i), 1)
  | 0, h, _ => by omega
  | 1, _, hm => by
    rw [bestTo, rep_mlen k c i 1 (by omega) hm hi, if_pos ⟨by omega, by rw [bestTo]; simp only []; omega⟩]
  | m + 2, _, hm => by
    rw [bestTo, rep_best k c i hi h4 (m + 1) (by omega) (by omega), rep_mlen k c i (m + 1 + 1) (by omega) hm hi, if_neg (by simp)]
theorem rep_match (k : Nat) (c : UInt8) (i : Nat) (h1 : 1 ≤ i) (h4 : 4 ≤ k - i) : matchOf (List.replicate k c) i = (min 131 (k - i), 1) := by
  unfold matchOf
  rw [List.length_replicate, if_pos (by omega), rep_best k c i (by omega) h4 _ (by omega) (by omega)]
theorem rep_none (k : Nat) (c : UInt8) (i : Nat) (h : i = 0 ∨ k - i < 4) : (matchOf (List.replicate k c) i).1 = 0 := by
  by_cases h0 : (matchOf (List.replicate k c) i).1 = 0
  · exact h0
  · obtain ⟨g1, g2, g3, g4, g5, g6, g7⟩ := match_some h0
    rw [List.length_replicate] at g6
    omega
/-- Where no match is left. -/
theorem pack_rest {b : List UInt8} {fr : Nat} : ∀ (n i : Nat), b.length - i = n → (∀ j, i ≤ j → j < b.length → (matchOf b j).1 = 0) → packFrom b i fr = lits (b.drop fr)
  | 0, i, hn, _ => pack_end (by omega)
  | n + 1, i, hn, h => by
    rw [pack_none (by omega) (h i (Nat.le_refl _) (by omega))]
    exact pack_rest n (i + 1) (by omega) fun j h1 h2 => h j (by omega) h2
theorem rep_cnt (k : Nat) (c : UInt8) : ∀ (n i t : Nat), k - i = n → 1 ≤ i → i ≤ k → cnt (packFrom (List.replicate k c) i i) t = some (t + (k - i + 130) / 131) := by
  intro n
  induction n using Nat.strongRecOn with
  | ind n ih =>
    intro i t hn h1 hk
    by_cases h4 : 4 ≤ k - i
    · have hm := rep_match k c i h1 h4
      rw [pack_some (by rw [List.length_replicate]; omega) (by rw [hm]; simp only []; omega), hm, Nat.sub_self, List.take_zero, lits_nil, List.nil_append, cnt_mtok _ _ _ (by simp only []; omega) (by simp only []; omega)]
      simp only []
      rw [ih (k - (i + min 131 (k - i))) (by omega) _ _ rfl (by omega) (by omega)]
      congr 1
      omega
    · rw [pack_rest _ i rfl (fun j hj _ => rep_none k c j (.inr (by omega)))]
      have := cnt_lits (k - i) ((List.replicate k c).drop i) [] t (by simp)
      rw [List.append_nil, cnt_nil] at this
      rw [this]
      congr 1
      omega
/-- One byte k times: how many tokens. -/
theorem rep_count (k : Nat) (c : UInt8) : countOf (packOf (List.replicate k c)) = some (if 4 < k then 1 + (k - 1 + 130) / 131 else min k 1) := by
  unfold countOf packOf
  by_cases h : 4 < k
  · have hm := rep_match k c 1 (by omega) (by omega)
    rw [if_pos h, pack_none (by rw [List.length_replicate]; omega) (rep_none k c 0 (.inl rfl)), Nat.zero_add, pack_some (by rw [List.length_replicate]; omega) (by rw [hm]; simp only []; omega), hm]
    rw [cnt_lits 1 _ _ _ (by simp; omega), cnt_mtok _ _ _ (by simp only []; omega) (by simp only []; omega)]
    simp only []
    rw [rep_cnt k c _ _ _ rfl (by omega) (by omega)]
    congr 1
    omega
  · rw [if_neg h, pack_rest _ 0 rfl (fun j hj _ => rep_none k c j (by omega))]
    have := cnt_lits k ((List.replicate k c).drop 0) [] 0 (by simp)
    rw [List.append_nil, cnt_nil] at this
    rw [this]
    congr 1
    omega
end Go.Proofs.YtbcldknecdbemaaDoor

/-
  A chunk's frame, as functions of lists (of no program): what is sealed, what is opened, and that one is opened as it was.
-/
namespace Go.Proofs.YtbcldknecdbemaaDoor
open Go.RowKit
set_option linter.unusedVariables false
set_option maxRecDepth 20000

def formB (f : List UInt8) : Bool := decide (10 ≤ f.length) && (f.getD 0 0 == 76 && (f.getD 1 0 == 0 || f.getD 1 0 == 1))
def pkB (f : List UInt8) : Bool := f.getD 1 0 == 1
def toldN (f : List UInt8) : Nat := numTo ((f.drop 2).take 4) 4
def keptL (f : List UInt8) : List UInt8 := (f.drop 6).take (f.length - 10)
def sumN (f : List UInt8) : Nat := numTo (f.drop (f.length - 4)) 4
/-- The bytes that are kept, as they were. -/
def wereOf (pk : Bool) (k : Nat) (l : List UInt8) : Option (List UInt8) :=
  if pk = true then (if (unpackOf l k).2 = 0 ∧ (unpackOf l k).1.length = k then some (unpackOf l k).1 else none) else if l.length = k then some l else none
def sumOf (s : Nat) : Option (List UInt8) → List UInt8 × Nat
  | none => ([], 2)
  | some b => if crcOf b = s then (b, 0) else ([], 7)
def openOf (f : List UInt8) (most : Int) : List UInt8 × Nat :=
  if formB f = false then ([], 2) else if most < (toldN f : Int) then ([], 3) else sumOf (sumN f) (wereOf (pkB f) (toldN f) (keptL f))
def frameOf (t : UInt8) (k : Nat) (mid : List UInt8) (s : Nat) : List UInt8 := [76, t] ++ fourC k ++ mid ++ fourC s
def sealOf (b : List UInt8) : List UInt8 := if (packOf b).length < b.length then frameOf 1 b.length (packOf b) (crcOf b) else frameOf 0 b.length b (crcOf b)

theorem four_eq (s : Nat) : fourC s = [UInt8.ofNat s, UInt8.ofNat (s / 256), UInt8.ofNat (s / 65536), UInt8.ofNat (s / 16777216)] := by simp [fourC, List.range, List.range.loop]
theorem num_four (s : Nat) (h : s < 4294967296) : numTo (fourC s) 4 = s := (num_inj (fourC s) s (four_len s) h).2 rfl
theorem toldN_lt (f : List UInt8) : toldN f < 4294967296 := numTo_lt _ 4
theorem sumN_lt (f : List UInt8) : sumN f < 4294967296 := numTo_lt _ 4
theorem keptL_len {f : List UInt8} {m : Nat} (h : f.length = m + 10) : (keptL f).length = m := by unfold keptL; rw [List.length_take, List.length_drop]; omega

section
variable (t : UInt8) (k : Nat) (mid : List UInt8) (s : Nat)
theorem frame_cons : frameOf t k mid s = 76 :: t :: UInt8.ofNat k :: UInt8.ofNat (k / 256) :: UInt8.ofNat (k / 65536) :: UInt8.ofNat (k / 16777216) :: (mid ++ fourC s) := by
  unfold frameOf; rw [four_eq k]; simp
theorem frame_len : (frameOf t k mid s).length = mid.length + 10 := by rw [frame_cons]; simp [four_len]
theorem frame_form (h : t = 0 ∨ t = 1) : formB (frameOf t k mid s) = true := by
  unfold formB
  rw [frame_len, frame_cons]
  rcases h with rfl | rfl <;> simp
theorem frame_pk : pkB (frameOf t k mid s) = (t == 1) := by unfold pkB; rw [frame_cons]; rfl
theorem frame_told (h : k < 4294967296) : toldN (frameOf t k mid s) = k := by
  unfold toldN
  rw [frame_cons]
  have : (List.take 4 (List.drop 2 (76 :: t :: UInt8.ofNat k :: UInt8.ofNat (k / 256) :: UInt8.ofNat (k / 65536) :: UInt8.ofNat (k / 16777216) :: (mid ++ fourC s)))) = fourC k := by rw [four_eq k]; rfl
  rw [this]
  exact num_four k h
theorem frame_kept : keptL (frameOf t k mid s) = mid := by
  unfold keptL
  rw [frame_len, frame_cons]
  show List.take _ (mid ++ fourC s) = mid
  rw [show mid.length + 10 - 10 = mid.length by omega, List.take_left]
theorem frame_sum (h : s < 4294967296) : sumN (frameOf t k mid s) = s := by
  unfold sumN
  rw [frame_len, show mid.length + 10 - 4 = mid.length + 6 by omega, frame_cons]
  show numTo (List.drop mid.length (mid ++ fourC s)) 4 = s
  rw [List.drop_left]
  exact num_four s h
end
theorem crcOf_lt (b : List UInt8) : crcOf b < 4294967296 := cmore_lt (s := 0) (by omega) b

/-- A frame, however its bytes are kept, is opened. -/
theorem open_frame (t : UInt8) (b mid : List UInt8) (most : Int) (ht : t = 0 ∨ t = 1) (hb : b.length < 4294967296) (hm : wereOf (t == 1) b.length mid = some b) :
    openOf (frameOf t b.length mid (crcOf b)) most = if most < (b.length : Int) then ([], 3) else (b, 0) := by
  unfold openOf
  rw [frame_form _ _ _ _ ht, frame_told _ _ _ _ hb, frame_pk, frame_kept, frame_sum _ _ _ _ (crcOf_lt b), hm]
  simp [sumOf]
theorem were_plain (b : List UInt8) : wereOf ((0 : UInt8) == 1) b.length b = some b := by unfold wereOf; rw [if_neg (by decide), if_pos rfl]
theorem were_packed {b p : List UInt8} (h : unpackOf p b.length = (b, 0)) : wereOf ((1 : UInt8) == 1) b.length p = some b := by
  unfold wereOf
  rw [if_pos (by decide), h, if_pos ⟨rfl, rfl⟩]
theorem unpack_own (b : List UInt8) : unpackOf (packOf b) b.length = (b, 0) := by rw [unpack_pack b _ (by omega), if_pos (Int.le_refl _)]
theorem open_seal (b : List UInt8) (most : Int) (hb : b.length < 4294967296) : openOf (sealOf b) most = if most < (b.length : Int) then ([], 3) else (b, 0) := by
  unfold sealOf
  split
  · exact open_frame 1 b _ most (.inr rfl) hb (were_packed (unpack_own b))
  · exact open_frame 0 b _ most (.inl rfl) hb (were_plain b)
theorem seal_form (b : List UInt8) : formB (sealOf b) = true := by
  unfold sealOf
  split
  · exact frame_form _ _ _ _ (.inr rfl)
  · exact frame_form _ _ _ _ (.inl rfl)
theorem seal_told (b : List UInt8) (hb : b.length < 4294967296) : toldN (sealOf b) = b.length := by
  unfold sealOf
  split <;> exact frame_told _ _ _ _ hb
theorem seal_len (b : List UInt8) : (sealOf b).length ≤ b.length + 10 ∧ 10 ≤ (sealOf b).length ∧ pkB (sealOf b) = decide ((sealOf b).length < b.length + 10) := by
  unfold sealOf
  split
  · rename_i h
    rw [frame_len, frame_pk]
    exact ⟨by omega, by omega, by rw [decide_eq_true (by omega)]; rfl⟩
  · rw [frame_len, frame_pk]
    exact ⟨by omega, by omega, by rw [decide_eq_false (by omega)]; rfl⟩
theorem seal_nil : sealOf [] = [76, 0, 0, 0, 0, 0, 0, 0, 0, 0] := by
  unfold sealOf
  rw [if_neg (by simp), frame_cons]
  decide
theorem openOf_nil {f : List UInt8} {most : Int} (h : (openOf f most).2 ≠ 0) : (openOf f most).1 = [] := by
  unfold openOf at *
  split
  · rfl
  · rename_i h1
    rw [if_neg h1] at h
    split
    · rfl
    · rename_i h2
      rw [if_neg h2] at h
      unfold sumOf at *
      split
      · rfl
      · rename_i b hb
        rw [hb] at h
        simp only [] at h
        split
        · rename_i h3; rw [if_pos h3] at h; exact absurd rfl h
        · rfl
end Go.Proofs.YtbcldknecdbemaaDoor

/-
  SHA-256 as functions of lists and numbers (of no program), and what the walks ask of them.
-/
namespace Go.Proofs.YtbcldknecdbemaaDoor
set_option linter.unusedVariables false
set_option maxRecDepth 20000

/-- x turned round to the right by n. -/
def ror (n x : Nat) : Nat := x / 2 ^ n + x % 2 ^ n * 2 ^ (32 - n)
def bigE (e : Nat) : Nat := ror 6 e ^^^ ror 11 e ^^^ ror 25 e
def bigA (a : Nat) : Nat := ror 2 a ^^^ ror 13 a ^^^ ror 22 a
def choose (e f g : Nat) : Nat := (e &&& f) ^^^ ((4294967295 - e) &&& g)
def most (a b c : Nat) : Nat := (a &&& b) ^^^ (a &&& c) ^^^ (b &&& c)
def smallX (x : Nat) : Nat := ror 7 x ^^^ ror 18 x ^^^ x / 8
def smallY (y : Nat) : Nat := ror 17 y ^^^ ror 19 y ^^^ y / 1024

structure V8 where
  (a b c d e f g h : Nat)
def V8.list (v : V8) : List Nat := [v.a, v.b, v.c, v.d, v.e, v.f, v.g, v.h]
structure V8.Ok (v : V8) : Prop where
  a : v.a < 4294967296
  b : v.b < 4294967296
  c : v.c < 4294967296
  d : v.d < 4294967296
  e : v.e < 4294967296
  f : v.f < 4294967296
  g : v.g < 4294967296
  h : v.h < 4294967296
def tee (v : V8) (k w : Nat) : Nat := ((((v.h + bigE v.e) % 4294967296 + choose v.e v.f v.g) % 4294967296 + k) % 4294967296 + w) % 4294967296
def you (v : V8) : Nat := (bigA v.a + most v.a v.b v.c) % 4294967296
def rnd (v : V8) (k w : Nat) : V8 := ⟨(tee v k w + you v) % 4294967296, v.a, v.b, v.c, (v.d + tee v k w) % 4294967296, v.e, v.f, v.g⟩
def rounds (ks ws : List Nat) : Nat → V8 → V8
  | 0, v => v
  | i + 1, v => rnd (rounds ks ws i v) (ks.getD i 0) (ws.getD i 0)
def add8 (x y : V8) : V8 := ⟨(x.a + y.a) % 4294967296, (x.b + y.b) % 4294967296, (x.c + y.c) % 4294967296, (x.d + y.d) % 4294967296, (x.e + y.e) % 4294967296, (x.f + y.f) % 4294967296, (x.g + y.g) % 4294967296, (x.h + y.h) % 4294967296⟩

/-- Four bytes' word. -/
def wordAt (l : List UInt8) (i : Nat) : Nat := (l.getD i 0).toNat * 16777216 + (l.getD (i + 1) 0).toNat * 65536 + (l.getD (i + 2) 0).toNat * 256 + (l.getD (i + 3) 0).toNat
theorem wordAt_lt (l : List UInt8) (i : Nat) : wordAt l i < 4294967296 := by
  unfold wordAt
  have := (l.getD i 0).toNat_lt
  have := (l.getD (i + 1) 0).toNat_lt
  have := (l.getD (i + 2) 0).toNat_lt
  have := (l.getD (i + 3) 0).toNat_lt
  omega
def nextW (ws : List Nat) (i : Nat) : Nat := (((ws.getD (i - 16) 0 + smallX (ws.getD (i - 15) 0)) % 4294967296 + ws.getD (i - 7) 0) % 4294967296 + smallY (ws.getD (i - 2) 0)) % 4294967296
def spreadTo (blk : List UInt8) : Nat → List Nat
  | 0 => []
  | i + 1 => spreadTo blk i ++ [if i < 16 then wordAt blk (4 * i) else nextW (spreadTo blk i) i]
def spreadL (blk : List UInt8) : List Nat := spreadTo blk 64

theorem spreadTo_len (blk : List UInt8) : ∀ i, (spreadTo blk i).length = i
  | 0 => rfl
  | i + 1 => by simp [spreadTo, spreadTo_len blk i]
theorem spreadTo_take (blk : List UInt8) : ∀ n i, i ≤ n → (spreadTo blk n).take i = spreadTo blk i
  | 0, i, h => by
    obtain rfl : i = 0 := by omega
    rfl
  | n + 1, i, h => by
    by_cases hi : i = n + 1
    · subst hi
      exact List.take_of_length_le (by rw [spreadTo_len]; omega)
    · rw [spreadTo, List.take_append_of_le_length (by rw [spreadTo_len]; omega)]
      exact spreadTo_take blk n i (by omega)
theorem spreadL_len (blk : List UInt8) : (spreadL blk).length = 64 := spreadTo_len blk 64
theorem spreadL_take (blk : List UInt8) (i : Nat) (h : i ≤ 64) : (spreadL blk).take i = spreadTo blk i := spreadTo_take blk 64 i h
theorem spreadTo_getD (blk : List UInt8) (i j : Nat) (hj : j < i) (hi : i ≤ 64) : (spreadTo blk i).getD j 0 = (spreadL blk).getD j 0 := by
  rw [← spreadL_take blk i hi]
  simp [hj]
theorem spreadL_at (blk : List UInt8) (i : Nat) (h : i < 64) : (spreadL blk)[i]? = some (if i < 16 then wordAt blk (4 * i) else nextW (spreadL blk) i) := by
  have h1 : (spreadTo blk (i + 1))[i]? = some (if i < 16 then wordAt blk (4 * i) else nextW (spreadTo blk i) i) := by
    rw [spreadTo, List.getElem?_append_right (by rw [spreadTo_len]; omega), spreadTo_len, Nat.sub_self]
    rfl
  rw [← spreadL_take blk (i + 1) (by omega), List.getElem?_take] at h1
  rw [if_pos (by omega)] at h1
  rw [h1]
  by_cases h16 : i < 16
  · rw [if_pos h16, if_pos h16]
  · rw [if_neg h16, if_neg h16]
    refine congrArg some ?_
    unfold nextW
    rw [spreadTo_getD blk i (i - 16) (by omega) (by omega), spreadTo_getD blk i (i - 15) (by omega) (by omega), spreadTo_getD blk i (i - 7) (by omega) (by omega), spreadTo_getD blk i (i - 2) (by omega) (by omega)]
theorem spreadL_lt (blk : List UInt8) : ∀ x ∈ spreadL blk, x < 4294967296 := by
  intro x hx
  obtain ⟨i, hi⟩ := List.getElem?_of_mem hx
  have hl : i < 64 := by
    have := (List.getElem?_eq_some_iff.1 hi).1
    rwa [spreadL_len] at this
  rw [spreadL_at blk i hl] at hi
  injection hi with hi
  rw [← hi]
  split
  · exact wordAt_lt _ _
  · exact Nat.mod_lt _ (by decide)

theorem getD_lt {l : List Nat} {m : Nat} (h : ∀ x ∈ l, x < m) (hm : 0 < m) (i : Nat) : l.getD i 0 < m := by
  rcases Nat.lt_or_ge i l.length with hi | hi
  · have : l.getD i 0 = l[i] := by simp [hi]
    rw [this]
    exact h _ (List.getElem_mem hi)
  · have : l.getD i 0 = 0 := by simp [hi]
    omega
theorem spreadTo_lt (blk : List UInt8) (k i : Nat) (hk : k ≤ 64) : (spreadTo blk k).getD i 0 < 4294967296 :=
  getD_lt (fun x hx => spreadL_lt blk x (by rw [← spreadL_take blk k hk] at hx; exact List.mem_of_mem_take hx)) (by decide) i

def roots64 : List Nat := [1116352408, 1899447441, 3049323471, 3921009573, 961987163, 1508970993, 2453635748, 2870763221,
  3624381080, 310598401, 607225278, 1426881987, 1925078388, 2162078206, 2614888103, 3248222580,
  3835390401, 4022224774, 264347078, 604807628, 770255983, 1249150122, 1555081692, 1996064986,
  2554220882, 2821834349, 2952996808, 3210313671, 3336571891, 3584528711, 113926993, 338241895,
  666307205, 773529912, 1294757372, 1396182291, 1695183700, 1986661051, 2177026350, 2456956037,
  2730485921, 2820302411, 3259730800, 3345764771, 3516065817, 3600352804, 4094571909, 275423344,
  430227734, 506948616, 659060556, 883997877, 958139571, 1322822218, 1537002063, 1747873779,
  1955562222, 2024104815, 2227730452, 2361852424, 2428436474, 2756734187, 3204031479, 3329325298]
theorem roots64_len : roots64.length = 64 := rfl
theorem roots64_lt : ∀ x ∈ roots64, x < 4294967296 := by decide
def start8 : V8 := ⟨1779033703, 3144134277, 1013904242, 2773480762, 1359893119, 2600822924, 528734635, 1541459225⟩
theorem start8_ok : start8.Ok := by constructor <;> decide

/-- What 64 bytes make of the words. -/
def mix (v : V8) (blk : List UInt8) : V8 := add8 v (rounds roots64 (spreadL blk) 64 v)

theorem rnd_ok {v : V8} (h : v.Ok) (k w : Nat) : (rnd v k w).Ok :=
  ⟨Nat.mod_lt _ (by decide), h.a, h.b, h.c, Nat.mod_lt _ (by decide), h.e, h.f, h.g⟩
theorem rounds_ok {v : V8} (h : v.Ok) (ks ws : List Nat) : ∀ i, (rounds ks ws i v).Ok
  | 0 => h
  | i + 1 => rnd_ok (rounds_ok h ks ws i) _ _
theorem add8_ok (x y : V8) : (add8 x y).Ok := by constructor <;> exact Nat.mod_lt _ (by decide)
theorem mix_ok (v : V8) (blk : List UInt8) : (mix v blk).Ok := add8_ok _ _

/-- The words behind the first k times 64 bytes. -/
def through (l : List UInt8) : Nat → V8
  | 0 => start8
  | k + 1 => mix (through l k) ((l.drop (64 * k)).take 64)
theorem through_ok (l : List UInt8) : ∀ k, (through l k).Ok
  | 0 => start8_ok
  | k + 1 => mix_ok _ _
theorem through_append (l r : List UInt8) : ∀ k, 64 * k ≤ l.length → through (l ++ r) k = through l k
  | 0, _ => rfl
  | k + 1, h => by
    rw [through, through, through_append l r k (by omega), List.drop_append_of_le_length (by omega), List.take_append_of_le_length (by rw [List.length_drop]; omega)]

/-- A number's eight bytes, the greatest part first. -/
def eight (n : Nat) : List UInt8 := [n / 72057594037927936, n / 281474976710656, n / 1099511627776, n / 4294967296, n / 16777216, n / 65536, n / 256, n].map fun x => UInt8.ofNat (x % 256)
/-- How many bytes 0 there are. -/
def gap (n : Nat) : Nat := (119 - n % 64) % 64
def padded (l : List UInt8) : List UInt8 := l ++ [128] ++ List.replicate (gap l.length) 0 ++ eight (8 * l.length)
theorem eight_len (n : Nat) : (eight n).length = 8 := rfl
theorem padded_len (l : List UInt8) : (padded l).length = l.length + 9 + gap l.length := by
  simp [padded, eight_len]; omega
theorem padded_mod (l : List UInt8) : (padded l).length % 64 = 0 := by
  rw [padded_len]; unfold gap; omega
def four (x : Nat) : List UInt8 := [x / 16777216, x / 65536, x / 256, x].map fun x => UInt8.ofNat (x % 256)
def bytesOf (v : V8) : List UInt8 := v.list.flatMap four
theorem bytesOf_len (v : V8) : (bytesOf v).length = 32 := rfl
/-- The digest. -/
def shaOf (l : List UInt8) : List UInt8 := bytesOf (through (padded l) ((padded l).length / 64))
theorem shaOf_len (l : List UInt8) : (shaOf l).length = 32 := rfl
end Go.Proofs.YtbcldknecdbemaaDoor

/-
  Contracts of hexa.Text, of the reference's Few and of the layer's example (lives): what they return is the digits of the bytes, the first bytes, true; nothing that was there has turned. Conditions: the bytes lie in memory, and are at most a million.
-/
namespace Go.Proofs.YtbcldknecdbemaaDoor.Hx
open Go.RowKit
set_option linter.unusedVariables false
set_option maxRecDepth 20000

theorem byte_info : (Tryd.prog.info? 5).map (fun i => (i.zero, i.size, i.bytes)) = some (some (.int .u8 0), 1, 1) := by kernel_rfl

set_option maxHeartbeats 400000 in
theorem few_any (A : Option Addr) (n c m : Nat) (vs : List Value) (w : World) (hl : vs.length = n) (hr : Lies w w.heap.size A vs) (h1 : ∀ u ∈ vs, u.oneCell' = true) (hn : n ≤ c) (hm : m ≤ 1000000) (hc : c ≤ maxLen) :
    Calls Tryd.prog 9 #[.slice A n c, .int .i64 (m : Int)] w fun e w' => ∃ v, e = .returned v ∧ w'.ownsRow w.heap.size 5 1 v (min n m) (vs.take m) ∧ Below w.heap.size w w' := by
  unfold maxLen at hc
  obtain ⟨i0, hi0, hz0, hz1, hz2⟩ := info_parts byte_info
  by_cases hmn : m < n
  · have hlt : (vs.take m).length = m := by rw [List.length_take]; omega
    have HL : Hid (vs.length = n) := hl
    clear hl
    have HT : Hid ((vs.take m).length = m) := hlt
    clear hlt
    go_enter Tryd.func9, Tryd.ntmps9
    go_wp2_with (at_builtin; refine wpList_append_src _ rfl (.tmp 6) (.tmp 12) _ rfl w.heap.size 5 i0 _ 1 Tryd.underlying22 hi0 hz0 hz1 hz2 rfl (.slice none 0 0) 0 [] rfl (World.ownsRow_nil _ _ _ _) w.heap.size A m c (vs.take m) rfl HT.out (hr.take m) (fun u hu => h1 u (List.mem_of_mem_take hu)) (by unfold maxLen; omega) (by omega) (Nat.le_refl _) ?_; intro v' w' hown hg hat)
    go_ret
    refine ⟨v', rfl, ?_, (Below.refl _ _).grown hg (Nat.le_refl _) (by simp [Value.ownBlock])⟩
    rw [Nat.min_eq_right (by omega)]
    simpa using hown
  · have hlt : (vs.take m) = vs := List.take_of_length_le (by omega)
    rw [hlt]
    have HL : Hid (vs.length = n) := hl
    clear hl hlt
    go_enter Tryd.func9, Tryd.ntmps9
    go_wp2_with (at_builtin; refine wpList_append_src _ rfl (.tmp 6) (.tmp 12) _ rfl w.heap.size 5 i0 _ 1 Tryd.underlying22 hi0 hz0 hz1 hz2 rfl (.slice none 0 0) 0 [] rfl (World.ownsRow_nil _ _ _ _) w.heap.size A n c vs rfl HL.out hr h1 (by unfold maxLen; omega) (by omega) (Nat.le_refl _) ?_; intro v' w' hown hg hat)
    go_ret
    refine ⟨v', rfl, ?_, (Below.refl _ _).grown hg (Nat.le_refl _) (by simp [Value.ownBlock])⟩
    rw [Nat.min_eq_left (by omega)]
    simpa using hown

def hexD (n : Nat) : UInt8 := if n < 10 then UInt8.ofNat (48 + n) else UInt8.ofNat (87 + n)
def hexOf (l : List UInt8) : List UInt8 := l.flatMap fun b => [hexD (b.toNat / 16), hexD (b.toNat % 16)]

theorem hexOf_append (l r : List UInt8) : hexOf (l ++ r) = hexOf l ++ hexOf r := by simp [hexOf]
theorem hexOf_length (l : List UInt8) : (hexOf l).length = 2 * l.length := by
  induction l with
  | nil => rfl
  | cons b r ih => simp only [hexOf, List.flatMap_cons, List.length_append] at ih ⊢; simp only [List.length_cons, List.length_nil, ih]; omega
theorem hexOf_take (l : List UInt8) (k : Nat) (b : UInt8) (h : l[k]? = some b) : hexOf (l.take (k + 1)) = hexOf (l.take k) ++ [hexD (b.toNat / 16), hexD (b.toNat % 16)] := by
  rw [List.take_add_one, h, hexOf_append]
  rfl
theorem hexD_at : ∀ k : Fin 16, (hexD k.val) = ((#[48, 49, 50, 51, 52, 53, 54, 55, 56, 57, 97, 98, 99, 100, 101, 102] : Array UInt8)[k.val]) := by decide
theorem and15 : ∀ n : Fin 256, bits .and .u8 (n.val : Int) 15 = ((n.val % 16 : Nat) : Int) := by decide +kernel
theorem digit_run (k : Nat) (hk : k < 16) (w : World) : (Instr.index 9 (.string ⟨#[48, 49, 50, 51, 52, 53, 54, 55, 56, 57, 97, 98, 99, 100, 101, 102]⟩) (.int .u8 (k : Int))).run Tryd.prog w = .ok (bv (hexD k)) w := by
  have h := hexD_at ⟨k, hk⟩
  have hs : ((⟨#[48, 49, 50, 51, 52, 53, 54, 55, 56, 57, 97, 98, 99, 100, 101, 102]⟩ : ByteArray)).size = 16 := rfl
  rw [run_index_string w 9 _ .u8 k Tryd.underlying9, dif_pos ⟨by omega, by rw [hs]; omega⟩]
  simp only [bv, h]
  rfl

/-- Few over bytes. -/
theorem few_bytes (A : Option Addr) (n c m : Nat) (bs : List UInt8) (w : World) (hl : bs.length = n) (hr : Lies w w.heap.size A (bs.map bv)) (hn : n ≤ c) (hm : m ≤ 1000000) (hc : c ≤ maxLen) :
    Calls Tryd.prog 9 #[.slice A n c, .int .i64 (m : Int)] w fun e w' => ∃ A' c', e = .returned (.slice A' (min n m) c') ∧ min n m ≤ c' ∧
      w'.ownsRow w.heap.size 5 1 (.slice A' (min n m) c') (min n m) ((bs.take m).map bv) ∧ Lies w' w'.heap.size A' ((bs.take m).map bv) ∧ Below w.heap.size w w' := by
  refine (few_any A n c m (bs.map bv) w (by simpa using hl) hr (bv_one bs) hn hm hc).mono ?_
  rintro e w' ⟨v, rfl, hown, hb⟩
  obtain ⟨A', c', rfl, hk⟩ := own_form hown
  rw [← List.map_take] at hown
  exact ⟨A', c', rfl, hk, hown, Lies.of_own hown, hb⟩

set_option maxHeartbeats 400000 in
theorem text_any (A : Option Addr) (n c : Nat) (bs : List UInt8) (w : World) (hl : bs.length = n) (hr : Lies w w.heap.size A (bs.map bv)) (hc : n ≤ 1000000) :
    Calls Tryd.prog 61 #[.slice A n c] w fun e w' => e = .returned (.string ⟨(hexOf bs).toArray⟩) ∧ Below w.heap.size w w' := by
  obtain ⟨i0, hi0, hz0, hz1, hz2⟩ := info_parts byte_info
  have HL : Hid (bs.length = n) := hl
  clear hl
  go_enter Tryd.func61, Tryd.ntmps61
  go_wp2_with (at_make; refine wpList_make_own _ rfl _ _ _ rfl w.heap.size 5 i0 _ 1 Tryd.underlying22 hi0 hz0 hz1 .i64 .i64 (2 * (n : Int)) (2 * n) rfl rfl (by omega) (by rw [hz2]; omega) (by unfold maxLen; omega) (Nat.le_refl _) ?_; intro w1 hown hg)
  go_loopw [3, 11] (fun v i wr => ∃ k : Nat, k ≤ n ∧ i = .int .i64 k ∧ wr.ownsRow w.heap.size 5 1 v (2 * k) ((hexOf (bs.take k)).map bv) ∧ Below w.heap.size w wr) (fun _ i _ => n - (intOf i).toNat)
  case atStart => exact ⟨0, Nat.zero_le _, rfl, by simpa [hexOf] using hown, (Below.refl _ _).grown hg (Nat.le_refl _) (by simp)⟩
  case round =>
    clear hown hg
    obtain ⟨k, hk, rfl, hown, hbel⟩ := hrel
    by_cases hlt : k < n
    · obtain ⟨b, hb⟩ : ∃ b, bs[k]? = some b := ⟨_, List.getElem?_eq_getElem (by rw [HL.out]; exact hlt)⟩
      obtain ⟨ad, rfl, hadB, hcell⟩ := hr.at_ (j := k) (u := bv b) (by rw [List.getElem?_map, hb]; rfl)
      have HB : Hid (bs[k]? = some b) := hb
      clear hb
      have hcl : ∀ w' : World, Below w.heap.size w w' → w'.cell? (ad.add k) = some (bv b) := fun w' h => by rw [h.cell (by rw [add_block]; exact hadB)]; exact hcell
      clear hcell
      have k0 : (0 : Int) ≤ (k : Int) := Int.natCast_nonneg _
      have k1 : (k : Int) < (n : Int) := by omega
      have hd1 : ∀ w, (Instr.index 9 (.string ⟨#[48, 49, 50, 51, 52, 53, 54, 55, 56, 57, 97, 98, 99, 100, 101, 102]⟩) (.int .u8 ((b.toNat : Int) / 16))).run Tryd.prog w = .ok (bv (hexD (b.toNat / 16))) w := fun w => digit_run (b.toNat / 16) (by have := b.toNat_lt; omega) w
      have hd2 : ∀ w, (Instr.index 9 (.string ⟨#[48, 49, 50, 51, 52, 53, 54, 55, 56, 57, 97, 98, 99, 100, 101, 102]⟩) (.int .u8 (bits .and .u8 (b.toNat : Int) 15))).run Tryd.prog w = .ok (bv (hexD (b.toNat % 16))) w := fun w => by rw [and15 ⟨b.toNat, b.toNat_lt⟩]; exact digit_run (b.toNat % 16) (by omega) w
      go_wp2
      go_region_held3 (fun w' => Below w.heap.size w w') (first | exact hbel.drew | exact (hbel.alloc hbel.size _).drew | exact hb2)
        ((refine step_append_src _ (by rfl) (.tmp 14) (.tmp 27) _ (by rfl) w.heap.size 5 i0 _ 1 Tryd.underlying22 hi0 hz0 hz1 hz2 rfl u3 (2 * k) _ (by rfl) (hown.alloc _).drew _ _ 2 2 [bv (hexD (b.toNat / 16)), bv (hexD (b.toNat % 16))] (by rfl) rfl (Lies.new wr 5 _).drew (by simp [Value.oneCell']) (by unfold maxLen; omega) (by omega) (by have := hbel.size; simp; omega) ?_; intro v' w' hown' hg' hat'; have hb2 : Below w.heap.size w w' := ((hbel.alloc hbel.size _).drew).grown hg' (by have := hbel.size; simp; omega) (own_ge hown)))
      all_goals
        clear hd1 hd2 hcl
        go_wp2
        go_roundw
        case rel => exact ⟨k + 1, by omega, by go_num, by rw [hexOf_take bs k b HB.out, List.map_append]; exact hown', hb2⟩
        case measure => simp [intOf]; omega
    · obtain ⟨A', c', rfl, _⟩ := own_form hown
      have hk : k = n := by omega
      subst hk
      have hcv := run_string_of (P := Tryd.prog) wr 22 5 Tryd.underlying22 Tryd.underlying5 9 Tryd.underlying9 _ A' (2 * k) c' (hexOf bs) (by rw [hexOf_length, HL.out]) (by have := Lies.of_own hown; rwa [List.take_of_length_le (by rw [HL.out]; omega)] at this)
      clear hown
      go_wp2
      go_ret
      exact ⟨rfl, hbel⟩
end Go.Proofs.YtbcldknecdbemaaDoor.Hx

/-
  Stores, as mathematics: places, what Get and Put answer and leave.
-/
namespace Go.Proofs.YtbcldknecdbemaaDoor
set_option linter.unusedVariables false
set_option maxRecDepth 20000

theorem hexD_inj : ∀ i j : Fin 16, Hx.hexD i.val = Hx.hexD j.val → i = j := by decide +kernel
theorem hexD_pos : ∀ i : Fin 16, Hx.hexD i.val ≠ 0 := by decide +kernel
theorem hex_cons (x : UInt8) (r : Byts) : Hx.hexOf (x :: r) = Hx.hexD (x.toNat / 16) :: Hx.hexD (x.toNat % 16) :: Hx.hexOf r := rfl
theorem hex_inj : ∀ (a b : Byts), Hx.hexOf a = Hx.hexOf b → a = b
  | [], [], _ => rfl
  | [], y :: ys, h => by rw [hex_cons] at h; cases h
  | x :: xs, [], h => by rw [hex_cons] at h; cases h
  | x :: xs, y :: ys, h => by
    rw [hex_cons, hex_cons] at h
    injection h with h1 h
    injection h with h2 h3
    have hx := x.toNat_lt
    have hy := y.toNat_lt
    have e1 := hexD_inj ⟨x.toNat / 16, by omega⟩ ⟨y.toNat / 16, by omega⟩ h1
    have e2 := hexD_inj ⟨x.toNat % 16, by omega⟩ ⟨y.toNat % 16, by omega⟩ h2
    injection e1 with e1
    injection e2 with e2
    have : x = y := UInt8.toNat_inj.1 (by omega)
    rw [this, hex_inj xs ys h3]
theorem hex_ne0 : ∀ (l : Byts), ∀ c ∈ Hx.hexOf l, c ≠ 0
  | [], c, h => by cases h
  | x :: r, c, h => by
    rw [hex_cons] at h
    have hx := x.toNat_lt
    rcases List.mem_cons.1 h with rfl | h
    · exact hexD_pos ⟨x.toNat / 16, by omega⟩
    · rcases List.mem_cons.1 h with rfl | h
      · exact hexD_pos ⟨x.toNat % 16, by omega⟩
      · exact hex_ne0 r c h

def placeB (nm : Byts) : Byts := [99, 47] ++ (Hx.hexOf nm).take 2 ++ [47] ++ Hx.hexOf nm
def aheadB (nm : Byts) : Byts := [116, 47] ++ Hx.hexOf nm
section
variable {nm : Byts} (h : nm.length = 32)
include h
theorem hex_len : (Hx.hexOf nm).length = 64 := by rw [Hx.hexOf_length, h]
theorem place_len : (placeB nm).length = 69 := by
  unfold placeB
  have := hex_len h
  simp only [List.length_append, List.length_take, List.length_cons, List.length_nil, this]
  omega
theorem ahead_len : (aheadB nm).length = 66 := by
  unfold aheadB
  have := hex_len h
  simp only [List.length_append, List.length_cons, List.length_nil, this]
theorem place_named : namedB (placeB nm) = true := by
  have hl := place_len h
  have : (placeB nm).all (fun c => c != 0) = true := by
    rw [List.all_eq_true]
    intro c hc
    have hn : c ≠ 0 := by
      unfold placeB at hc
      rcases List.mem_append.1 hc with hc | hc
      · rcases List.mem_append.1 hc with hc | hc
        · rcases List.mem_append.1 hc with hc | hc
          · intro e; subst e; revert hc; decide
          · exact hex_ne0 nm c (List.mem_of_mem_take hc)
        · intro e; subst e; revert hc; decide
      · exact hex_ne0 nm c hc
    simpa using hn
  unfold namedB
  rw [hl, this]
  rfl
theorem ahead_named : namedB (aheadB nm) = true := by
  have hl := ahead_len h
  have : (aheadB nm).all (fun c => c != 0) = true := by
    rw [List.all_eq_true]
    intro c hc
    have hn : c ≠ 0 := by
      unfold aheadB at hc
      rcases List.mem_append.1 hc with hc | hc
      · intro e; subst e; revert hc; decide
      · exact hex_ne0 nm c hc
    simpa using hn
  unfold namedB
  rw [hl, this]
  rfl
end
theorem ahead_ne (x y : Byts) : aheadB x ≠ placeB y := fun e => by
  unfold aheadB placeB at e
  simp at e
theorem place_inj {a b : Byts} (ha : a.length = 32) (hb : b.length = 32) (e : placeB a = placeB b) : a = b := by
  unfold placeB at e
  have h1 := hex_len ha
  have h2 := hex_len hb
  exact hex_inj a b (List.append_inj_right e (by simp only [List.length_append, List.length_take, h1, h2, List.length_cons]))

/-- What Get tells. -/
def getD (D : Dk) (nm : Byts) : Byts × Int :=
  if (readD D (placeB nm)).2 ≠ 0 then ([], (readD D (placeB nm)).2) else
  if (openOf (readD D (placeB nm)).1 4096).2 = 0 ∧ shaOf (openOf (readD D (placeB nm)).1 4096).1 = nm then ((openOf (readD D (placeB nm)).1 4096).1, 0) else ([], 7)
def thenD (r : Dk × Int) (f : Dk → Dk × Int) : Dk × Int := if r.2 = 0 then f r.1 else r
def putS (D : Dk) (nm b : Byts) : Dk × Int := thenD (thenD (thenD (writeD D (aheadB nm) (sealOf b)) syncD) (fun E => renameD E (aheadB nm) (placeB nm))) syncD
/-- What Put leaves and answers. -/
def zero32 : Byts := List.replicate 32 0
def putD (D : Dk) (b : Byts) : Dk × Byts × Int :=
  if 4096 < b.length then (D, zero32, 3) else if (getD D (shaOf b)).2 = 0 then (D, shaOf b, 0) else
  ((putS D (shaOf b) b).1, if (putS D (shaOf b) b).2 = 0 then shaOf b else zero32, (putS D (shaOf b) b).2)
theorem putD_len (D : Dk) (b : Byts) : (putD D b).2.1.length = 32 := by
  unfold putD
  split
  · rfl
  · split
    · rfl
    · show (if _ then _ else _ : Byts).length = 32
      split <;> rfl

/-- A disk on which nothing waits. -/
def still (room : Int) (S : Fls) (k : Int) : Dk := ⟨room, S, S, [], k⟩
theorem restart_still (room : Int) (S : Fls) (k : Int) (ks : List Bool) : restartD (still room S k) ks = still room S (-1) := rfl
theorem fGet_one (p q b : Byts) : fGet [(p, b)] q = if p = q then some b else none := by rw [fGet_cons]; rfl
section
variable {b : Byts} {room : Int} (hb : b.length ≤ 4096)
include hb
theorem get_whole (k : Int) (hk : k ≠ 0) : getD (still room [(placeB (shaOf b), sealOf b)] k) (shaOf b) = (b, 0) := by
  have hr : readD (still room [(placeB (shaOf b), sealOf b)] k) (placeB (shaOf b)) = (sealOf b, 0) := by
    unfold readD
    rw [if_neg (show ¬ (still room _ k).power = 0 from hk)]
    show (match fGet [(placeB (shaOf b), sealOf b)] (placeB (shaOf b)) with | none => _ | some b => _) = _
    rw [fGet_one, if_pos rfl]
  have ho : openOf (sealOf b) 4096 = (b, 0) := by rw [open_seal b 4096 (by omega), if_neg (by omega)]
  unfold getD
  rw [hr]
  simp only [ho]
  rw [if_neg (by simp), if_pos ⟨trivial, trivial⟩]
omit hb in
theorem get_other (nm : Byts) (S : Fls) (k : Int) (hk : k ≠ 0) (hS : fGet S (placeB nm) = none) : getD (still room S k) nm = ([], 4) := by
  have hr : readD (still room S k) (placeB nm) = ([], 4) := by
    unfold readD
    rw [if_neg (show ¬ (still room _ k).power = 0 from hk)]
    show (match fGet S (placeB nm) with | none => _ | some b => _) = _
    rw [hS]
  unfold getD
  rw [hr, if_pos (by simp)]
omit hb in
theorem get_down (nm : Byts) (D : Dk) (hk : D.power = 0) : getD D nm = ([], 6) := by
  have hr : readD D (placeB nm) = ([], 6) := by
    unfold readD
    rw [if_pos hk]
  unfold getD
  rw [hr, if_pos (by simp)]
end
def lessP (k : Int) : Int := if 0 < k then k - 1 else k
section
variable {b : Byts} {room : Int} (S : Fls) (k : Int)
/-- Files among which Put has but its own one ahead. -/
def Own1 (b : Byts) (S : Fls) : Prop := S = [] ∨ ∃ x, S = [(aheadB (shaOf b), x)]
theorem own1_put (h : Own1 b S) (f : Byts) : fPut S (aheadB (shaOf b)) f = [(aheadB (shaOf b), f)] := by
  rcases h with rfl | ⟨x, rfl⟩
  · rfl
  · unfold fPut
    rw [if_neg (fun e => cmpB_lt_ne e rfl), fDel_cons, if_pos rfl]
    rfl
theorem own1_get (h : Own1 b S) : fGet S (placeB (shaOf b)) = none := by
  rcases h with rfl | ⟨x, rfl⟩
  · rfl
  · rw [fGet_one, if_neg (ahead_ne _ _)]
theorem own1_used (h : Own1 b S) : (fUsed S : Int) - (((fGet S (aheadB (shaOf b))).getD []).length : Int) = 0 := by
  rcases h with rfl | ⟨x, rfl⟩
  · rfl
  · rw [fGet_one, if_pos rfl]
    simp [fUsed]
/-- A Write ahead. -/
theorem put_one (h : Own1 b S) (hk : k ≠ 0) (hr : ((sealOf b).length : Int) ≤ room) :
    writeD (still room S k) (aheadB (shaOf b)) (sealOf b) = (⟨room, [(aheadB (shaOf b), sealOf b)], S, [.wr (aheadB (shaOf b)) (sealOf b)], lessP k⟩, 0) := by
  unfold writeD
  rw [ahead_named (shaOf_len b), if_neg (by simp), if_neg (show ¬ (still room S k).power = 0 from hk)]
  have hu := own1_used S h
  rw [if_neg (by show ¬ (room < (fUsed S : Int) - (((fGet S (aheadB (shaOf b))).getD []).length : Int) + ((sealOf b).length : Int)); omega)]
  show (Dk.mk room (mkF S (.wr (aheadB (shaOf b)) (sealOf b))) S ([] ++ [.wr (aheadB (shaOf b)) (sealOf b)]) (lessP k), (0 : Int)) = _
  rw [show mkF S (.wr (aheadB (shaOf b)) (sealOf b)) = [(aheadB (shaOf b), sealOf b)] from own1_put S h _]
  rfl
theorem put_sync (F : Fls) (l : List Chg) (hk : k ≠ 0) : syncD ⟨room, F, S, l, k⟩ = (still room F (lessP k), 0) := by
  unfold syncD
  rw [if_neg (by exact hk)]
  rfl
theorem put_down (D : Dk) (hk : D.power = 0) : syncD D = (D, 6) := by unfold syncD; rw [if_pos hk]
theorem put_turn (f : Byts) (hk : k ≠ 0) : renameD (still room [(aheadB (shaOf b), f)] k) (aheadB (shaOf b)) (placeB (shaOf b)) =
    (⟨room, [(placeB (shaOf b), f)], [(aheadB (shaOf b), f)], [.rn (aheadB (shaOf b)) (placeB (shaOf b))], lessP k⟩, 0) := by
  unfold renameD
  rw [place_named (shaOf_len b), if_neg (by simp), if_neg (show ¬ (still room _ k).power = 0 from hk)]
  have hg : fGet [(aheadB (shaOf b), f)] (aheadB (shaOf b)) = some f := by rw [fGet_one, if_pos rfl]
  rw [if_neg (by show ¬ fGet [(aheadB (shaOf b), f)] (aheadB (shaOf b)) = none; rw [hg]; simp)]
  show (Dk.mk room (mkF [(aheadB (shaOf b), f)] (.rn (aheadB (shaOf b)) (placeB (shaOf b)))) [(aheadB (shaOf b), f)] ([] ++ [.rn (aheadB (shaOf b)) (placeB (shaOf b))]) (lessP k), (0 : Int)) = _
  have : mkF [(aheadB (shaOf b), f)] (.rn (aheadB (shaOf b)) (placeB (shaOf b))) = [(placeB (shaOf b), f)] := by
    show (match fGet [(aheadB (shaOf b), f)] (aheadB (shaOf b)) with | none => _ | some b => _) = _
    rw [hg, fDel_cons, if_pos rfl]
    rfl
  rw [this]
  rfl
theorem turn_down (D : Dk) (p q : Byts) (hq : namedB q = true) (hk : D.power = 0) : renameD D p q = (D, 6) := by unfold renameD; rw [hq, if_neg (by simp), if_pos hk]
theorem write_down (D : Dk) (p d : Byts) (hq : namedB p = true) (hk : D.power = 0) : writeD D p d = (D, 6) := by unfold writeD; rw [hq, if_neg (by simp), if_pos hk]

/-- A Put that is done: there is power. -/
theorem put_all (h : Own1 b S) (hb : b.length ≤ 4096) (hk : k < 0 ∨ 4 ≤ k) (hr : ((sealOf b).length : Int) ≤ room) :
    putD (still room S k) b = (still room [(placeB (shaOf b), sealOf b)] (lessP (lessP (lessP (lessP k)))), shaOf b, 0) := by
  have e : putS (still room S k) (shaOf b) b = (still room [(placeB (shaOf b), sealOf b)] (lessP (lessP (lessP (lessP k)))), 0) := by
    unfold putS
    have n1 : lessP k ≠ 0 := by unfold lessP; split <;> omega
    have n2 : lessP (lessP k) ≠ 0 := by unfold lessP; (repeat' split) <;> omega
    have n3 : lessP (lessP (lessP k)) ≠ 0 := by unfold lessP; (repeat' split) <;> omega
    rw [put_one S k h (by omega) hr]
    rw [show ∀ (x : Dk) f, thenD (x, 0) f = f x from fun x f => by unfold thenD; rw [if_pos rfl], put_sync _ _ _ _ n1,
      show ∀ (x : Dk) f, thenD (x, 0) f = f x from fun x f => by unfold thenD; rw [if_pos rfl], put_turn _ _ n2,
      show ∀ (x : Dk) f, thenD (x, 0) f = f x from fun x f => by unfold thenD; rw [if_pos rfl], put_sync _ _ _ _ n3]
  unfold putD
  rw [if_neg (by omega), get_other _ S k (by omega) (own1_get S h), if_neg (by simp), e]
  rfl
theorem put_again (hb : b.length ≤ 4096) (hk : k ≠ 0) : putD (still room [(placeB (shaOf b), sealOf b)] k) b = (still room [(placeB (shaOf b), sealOf b)] k, shaOf b, 0) := by
  unfold putD
  rw [if_neg (by omega), get_whole hb k hk, if_pos rfl]
theorem restart_mk (F L : Fls) (l : List Chg) (ks : List Bool) : restartD ⟨room, F, L, l, k⟩ ks = still room (rstF l ks L) (-1) := rfl
theorem then_ok (D : Dk) (f : Dk → Dk × Int) : thenD (D, 0) f = f D := by unfold thenD; rw [if_pos rfl]
theorem then_no (D : Dk) (f : Dk → Dk × Int) : thenD (D, 6) f = (D, 6) := by unfold thenD; rw [if_neg (by simp)]
theorem put_no (D D' : Dk) (hb : b.length ≤ 4096) (h1 : putS D (shaOf b) b = (D', 6)) (h2 : (getD D (shaOf b)).2 ≠ 0) : putD D b = (D', zero32, 6) := by
  unfold putD
  rw [if_neg (by omega), if_neg h2, h1]
  rfl
/-- What is left of a Put for which there was no power. -/
theorem put_few0 (hb : b.length ≤ 4096) : putD (still room [] 0) b = (still room [] 0, zero32, 6) := by
  have e : putS (still room [] 0) (shaOf b) b = (still room [] 0, 6) := by
    unfold putS
    rw [write_down _ _ _ (ahead_named (shaOf_len b)) rfl, then_no, then_no, then_no]
  exact put_no _ _ hb e (by rw [get_down _ _ rfl]; simp)
theorem put_few1 (hb : b.length ≤ 4096) (hr : ((sealOf b).length : Int) ≤ room) : putD (still room [] 1) b = (⟨room, [(aheadB (shaOf b), sealOf b)], [], [.wr (aheadB (shaOf b)) (sealOf b)], 0⟩, zero32, 6) := by
  have e : putS (still room [] 1) (shaOf b) b = (⟨room, [(aheadB (shaOf b), sealOf b)], [], [.wr (aheadB (shaOf b)) (sealOf b)], 0⟩, 6) := by
    unfold putS
    rw [put_one [] 1 (.inl rfl) (by simp) hr, then_ok, show lessP 1 = 0 from rfl, put_down _ rfl, then_no, then_no]
  exact put_no _ _ hb e (by rw [get_other _ [] 1 (by omega) rfl]; simp)
theorem put_few2 (hb : b.length ≤ 4096) (hr : ((sealOf b).length : Int) ≤ room) : putD (still room [] 2) b = (still room [(aheadB (shaOf b), sealOf b)] 0, zero32, 6) := by
  have e : putS (still room [] 2) (shaOf b) b = (still room [(aheadB (shaOf b), sealOf b)] 0, 6) := by
    unfold putS
    rw [put_one [] 2 (.inl rfl) (by simp) hr, then_ok, show lessP 2 = 1 from rfl, put_sync _ _ _ _ (by decide), then_ok, show lessP 1 = 0 from rfl, turn_down _ _ _ (place_named (shaOf_len b)) rfl, then_no]
  exact put_no _ _ hb e (by rw [get_other _ [] 2 (by omega) rfl]; simp)
theorem put_few3 (hb : b.length ≤ 4096) (hr : ((sealOf b).length : Int) ≤ room) : putD (still room [] 3) b = (⟨room, [(placeB (shaOf b), sealOf b)], [(aheadB (shaOf b), sealOf b)], [.rn (aheadB (shaOf b)) (placeB (shaOf b))], 0⟩, zero32, 6) := by
  have e : putS (still room [] 3) (shaOf b) b = (⟨room, [(placeB (shaOf b), sealOf b)], [(aheadB (shaOf b), sealOf b)], [.rn (aheadB (shaOf b)) (placeB (shaOf b))], 0⟩, 6) := by
    unfold putS
    rw [put_one [] 3 (.inl rfl) (by simp) hr, then_ok, show lessP 3 = 2 from rfl, put_sync _ _ _ _ (by decide), then_ok, show lessP 2 = 1 from rfl, put_turn _ _ (by decide), then_ok, show lessP 1 = 0 from rfl, put_down _ rfl]
  exact put_no _ _ hb e (by rw [get_other _ [] 3 (by omega) rfl]; simp)
theorem put_few (hb : b.length ≤ 4096) (n : Nat) (hn : n ≤ 3) (hr : ((sealOf b).length : Int) ≤ room) (ks : List Bool) :
    ∃ D', putD (still room [] n) b = (D', zero32, 6) ∧ ∃ S, restartD D' ks = still room S (-1) ∧ (Own1 b S ∨ S = [(placeB (shaOf b), sealOf b)]) := by
  have h4 : n = 0 ∨ n = 1 ∨ n = 2 ∨ n = 3 := by omega
  rcases h4 with rfl | rfl | rfl | rfl
  · exact ⟨_, put_few0 hb, [], restart_still _ _ _ _, .inl (.inl rfl)⟩
  · refine ⟨_, put_few1 hb hr, _, restart_mk _ _ _ _ _, .inl ?_⟩
    unfold rstF
    split
    · exact .inr ⟨_, rfl⟩
    · exact .inl rfl
  · exact ⟨_, put_few2 hb hr, _, restart_still _ _ _ _, .inl (.inr ⟨_, rfl⟩)⟩
  · refine ⟨_, put_few3 hb hr, _, restart_mk _ _ _ _ _, ?_⟩
    unfold rstF
    split
    · right
      have hg : fGet [(aheadB (shaOf b), sealOf b)] (aheadB (shaOf b)) = some (sealOf b) := by rw [fGet_one, if_pos rfl]
      show (match fGet [(aheadB (shaOf b), sealOf b)] (aheadB (shaOf b)) with | none => _ | some b => _) = _
      rw [hg, fDel_cons, if_pos rfl]
      rfl
    · exact .inl (.inr ⟨_, rfl⟩)
end
end Go.Proofs.YtbcldknecdbemaaDoor

/-
  Contract of errors.Is over two values of api.Errno: it returns whether the two numbers are one; memory is left as it was. No condition.
-/
namespace Go.Proofs.YtbcldknecdbemaaDoor
open Go.RowKit Go.Extern.Stop Go.Stop Go.Extern
set_option linter.unusedVariables false
set_option maxRecDepth 20000

theorem isTypeOf (v : Value) (w : World) : (callFunc 130 #[.iface 38 v]).run Tryd.prog w = .ok (.value (.iface 214 (.agg #[.pointer (some ⟨3, 38, none⟩)]))) w := by kernel_rfl
theorem isComparable (w : World) : (callFunc 179 #[.agg #[.pointer (some ⟨3, 38, none⟩)]]).run Tryd.prog w = .ok (.value (.bool true)) w := by kernel_rfl
theorem isMethod (v : Value) (w : World) : (Go.method 371 214 v "Comparable").run Tryd.prog w = .ok (179, v) w := by kernel_rfl
theorem isComp : (Tryd.prog.info? 38).map (·.comparable) = some true := by kernel_rfl
theorem noIs (v : Value) (xT : TypeId) (w : World) : (Instr.typeAssert (.iface 38 v) xT 216 true).run Tryd.prog w = .ok (.tuple #[.nilIface, .bool false]) w := run_typeAssert_lacksB Tryd.underlying216 (by kernel_rfl) (by kernel_rfl) v xT w
theorem noUnwrap (v : Value) (xT : TypeId) (w : World) : (Instr.typeAssert (.iface 38 v) xT 219 true).run Tryd.prog w = .ok (.tuple #[.nilIface, .bool false]) w := run_typeAssert_lacksB Tryd.underlying219 (by kernel_rfl) (by kernel_rfl) v xT w
theorem noUnwraps (v : Value) (xT : TypeId) (w : World) : (Instr.typeAssert (.iface 38 v) xT 221 true).run Tryd.prog w = .ok (.tuple #[.nilIface, .bool false]) w := run_typeAssert_lacksB Tryd.underlying221 (by kernel_rfl) (by kernel_rfl) v xT w

/-- '==' between two Errnos that are held as errors. -/
theorem eql_errno (a b : Int) (w : World) : (binOp .eql 193 (.iface 38 (.int .i64 a)) (.iface 38 (.int .i64 b))).run Tryd.prog w = .ok (.bool (a == b)) w := by
  obtain ⟨i, hi, hcmp⟩ := Option.map_eq_some_iff.1 isComp
  have deep : ∀ d : Nat, (Op.equalIn (d + 2) 193 (.iface 38 (.int .i64 a)) (.iface 38 (.int .i64 b))).run Tryd.prog w = .ok (a == b) w := fun d => by
    simp [Op.equalIn, run_underlying Tryd.underlying193, run_underlying Tryd.underlying38, typeInfo, hi, hcmp]
  have h := deep 9998
  simp only [binOp]
  simp [Op.equal, Op.maxDepth, h]

set_option maxHeartbeats 400000 in
theorem is_true (a : Int) (w : World) :
    Calls Tryd.prog 102 #[.iface 38 (.int .i64 a), .iface 38 (.int .i64 a)] w fun e w' => e = .returned (.bool true) ∧ w = w' := by
  have tT := isTypeOf
  have cT := isComparable
  have mT := isMethod
  have hq := eql_errno a a
  simp only [beq_self_eq_true] at hq
  go_enter Tryd.func102, Tryd.ntmps102
  go_wp2
  refine wp_loop_rounds 1 ?_
  rw [rounds_succ]
  go_wp2
  go_ret
  exact ⟨rfl, rfl⟩

set_option maxHeartbeats 400000 in
theorem is_false (a b : Int) (w : World) (hab : a ≠ b) :
    Calls Tryd.prog 102 #[.iface 38 (.int .i64 a), .iface 38 (.int .i64 b)] w fun e w' => e = .returned (.bool false) ∧ w = w' := by
  have tT := isTypeOf
  have cT := isComparable
  have mT := isMethod
  have hq := eql_errno a b
  rw [show (a == b) = false from by simpa using hab] at hq
  have n1 := noIs
  have n2 := noUnwrap
  have n3 := noUnwraps
  clear hab
  go_enter Tryd.func102, Tryd.ntmps102
  go_wp2
  refine wp_loop_rounds 1 ?_
  rw [rounds_succ]
  go_wp2
  go_ret
  exact ⟨rfl, rfl⟩
end Go.Proofs.YtbcldknecdbemaaDoor

/-
  Contracts of hexa.digit and hexa.pair: a byte that is a digit gives its number, two digits give their byte; else ErrForm. Memory is left as it was. Condition: the arguments are bytes.
-/
namespace Go.Proofs.YtbcldknecdbemaaDoor.Hx
open Go.RowKit
set_option linter.unusedVariables false
set_option maxRecDepth 20000

/-- A digit's number. -/
def digN (n : Nat) : Option Nat := if 48 ≤ n ∧ n ≤ 57 then some (n - 48) else if 97 ≤ n ∧ n ≤ 102 then some (n - 87) else none
theorem digN_lt {n d : Nat} (h : digN n = some d) : d < 16 := by
  unfold digN at h
  split at h
  · injection h with h; omega
  · split at h
    · injection h with h; omega
    · cases h

theorem tup2 {k : IntKind} {a b : Int} {c : Value} (h : a = b) : Ending.returned (.tuple #[.int k a, c]) = .returned (.tuple #[.int k b, c]) := by rw [h]

theorem or16 : ∀ h : Fin 16, ∀ l : Fin 16, bits .or .u8 ((h.val : Int) * 16) (l.val : Int) = ((16 * h.val + l.val : Nat) : Int) := by decide +kernel

/-- Two digits' byte. -/
def pairN (a b : Nat) : Option Nat := match digN a, digN b with
  | some h, some l => some (16 * h + l)
  | _, _ => none

theorem pairN_lt {a b d : Nat} (h : pairN a b = some d) : d < 256 := by
  unfold pairN at h
  split at h
  · rename_i x y hx hy
    have := digN_lt hx
    have := digN_lt hy
    injection h with h
    omega
  · cases h
end Go.Proofs.YtbcldknecdbemaaDoor.Hx

/-
  Contract of hexa.Parse: the bytes whose digits the text is, in new memory, and OK; or none, and ErrForm. Condition: the text has at most a million bytes.
-/
namespace Go.Proofs.YtbcldknecdbemaaDoor.Hx
open Go.RowKit
set_option linter.unusedVariables false
set_option maxRecDepth 20000

/-- The byte of the k-th two digits. -/
def pairAt (s : List UInt8) (k : Nat) : Option UInt8 := (pairN (s.getD (2 * k) 0).toNat (s.getD (2 * k + 1) 0).toNat).map UInt8.ofNat
def pref (s : List UInt8) : Nat → Option (List UInt8)
  | 0 => some []
  | k + 1 => match pref s k, pairAt s k with
    | some l, some c => some (l ++ [c])
    | _, _ => none
/-- The bytes of digits, if they are digits. -/
def unhex (s : List UInt8) : Option (List UInt8) := if s.length % 2 = 1 then none else pref s (s.length / 2)

theorem pref_length {s : List UInt8} : ∀ {k : Nat} {l : List UInt8}, pref s k = some l → l.length = k
  | 0, l, h => by simp [pref] at h; subst h; rfl
  | k + 1, l, h => by
    simp only [pref] at h
    split at h
    · rename_i l' c hl hc
      injection h with h
      subst h
      simp [pref_length hl]
    · cases h
theorem pref_none {s : List UInt8} {k : Nat} (h : pref s k = none) : ∀ j, pref s (k + j) = none
  | 0 => h
  | j + 1 => by
    have := pref_none h j
    show pref s (k + j + 1) = none
    simp only [pref, this]
theorem pref_none_le {s : List UInt8} {k m : Nat} (h : pref s k = none) (hk : k ≤ m) : pref s m = none := by
  have := pref_none h (m - k)
  rwa [show k + (m - k) = m from by omega] at this
theorem row_set (l : List UInt8) (c : UInt8) (k m : Nat) (z : Value) (hl : l.length = k) (hk : k < m) :
    (l.map bv ++ List.replicate (m - k) z).set k (bv c) = (l ++ [c]).map bv ++ List.replicate (m - (k + 1)) z := by
  rw [List.set_append, if_neg (by simp; omega)]
  have e : m - k = (m - (k + 1)) + 1 := by omega
  rw [e, List.replicate_succ]
  simp [hl]

theorem made_bytes (m : Nat) : (madeCells (Value.int .u8 0).cells (m * 1)).toList = List.replicate m (.int .u8 0) := by
  apply List.ext_getElem
  · simp [madeCells]
  · intro j h1 h2
    simp [madeCells, Value.cells, Nat.mod_one]

def ParseRes (w : World) (r : Option (List UInt8)) (e : Ending) (w' : World) : Prop :=
  Below w.heap.size w w' ∧ match r with
    | some l => ∃ v, e = .returned (.tuple #[v, .int .i64 0]) ∧ w'.ownsRow w.heap.size 5 1 v l.length (l.map bv)
    | none => e = .returned (.tuple #[.slice none 0 0, .int .i64 2])

theorem at_run (s : List UInt8) (j : Nat) (hj : j < s.length) (i : Int) (hi : i = (j : Int)) (w : World) : (Instr.index 9 (.string ⟨s.toArray⟩) (.int .i64 i)).run Tryd.prog w = .ok (.int .u8 ((s.getD j 0).toNat : Int)) w := by
  subst hi
  have hs : (⟨s.toArray⟩ : ByteArray).size = s.length := by show s.toArray.size = _; simp
  rw [run_index_string w 9 _ .i64 j Tryd.underlying9, dif_pos ⟨by omega, by rw [hs]; omega⟩]
  simp only [Int.toNat_natCast]
  have : (⟨s.toArray⟩ : ByteArray)[j] = s.getD j 0 := by
    show s.toArray[j] = _
    simp [List.getD, List.getElem?_eq_getElem hj]
  rw [this]

end Go.Proofs.YtbcldknecdbemaaDoor.Hx

/-
  Contracts of the reference's Text, digit, Parse, Short and Around (layer 1): they compute what the functions hexOf, digN, unhex, take, and a remainder say. Condition: at most a million bytes.
-/
namespace Go.Proofs.YtbcldknecdbemaaDoor.Hx
open Go.RowKit
set_option linter.unusedVariables false
set_option maxRecDepth 20000

theorem ret_int {k : IntKind} {a b : Int} (h : a = b) : Ending.returned (.int k a) = .returned (.int k b) := by rw [h]
theorem cut_dig : ∀ k : Fin 16, ((⟨#[48, 49, 50, 51, 52, 53, 54, 55, 56, 57, 97, 98, 99, 100, 101, 102]⟩ : ByteArray).extract k.val (k.val + 1)).data.toList = [hexD k.val] := by decide +kernel
theorem cut_one (k : Nat) (hk : k < 16) (X Y : Int) (hX : X = (k : Int)) (hY : Y = (k : Int) + 1) (w : World) :
    (Instr.slice 9 (.string ⟨#[48, 49, 50, 51, 52, 53, 54, 55, 56, 57, 97, 98, 99, 100, 101, 102]⟩) (some (.int .i64 X)) (some (.int .i64 Y)) none).run Tryd.prog w = .ok (.string ⟨[hexD k].toArray⟩) w := by
  subst hX hY
  have hs : (⟨#[48, 49, 50, 51, 52, 53, 54, 55, 56, 57, 97, 98, 99, 100, 101, 102]⟩ : ByteArray).size = 16 := rfl
  rw [run_slice_string w 9 _ .i64 .i64 (k : Int) ((k : Int) + 1) Tryd.underlying9 (by omega) (by omega) (by rw [hs]; omega)]
  have h := cut_dig ⟨k, hk⟩
  have e : ((k : Int) + 1).toNat = k + 1 := by omega
  rw [Int.toNat_natCast, e, ← h]

set_option maxHeartbeats 1000000 in
theorem rtext_any (A : Option Addr) (n c : Nat) (bs : List UInt8) (w : World) (hl : bs.length = n) (hr : Lies w w.heap.size A (bs.map bv)) (hc : n ≤ 1000000) :
    Calls Tryd.prog 62 #[.slice A n c] w fun e w' => e = .returned (.string ⟨(hexOf bs).toArray⟩) ∧ Below w.heap.size w w' := by
  have HL := Lib.hid hl
  clear hl
  go_enter Tryd.func62, Tryd.ntmps62
  go_wp2
  go_loopw [4, 5, 6, 7] (fun s i _ _ wr => ∃ k : Nat, k ≤ n ∧ i = .int .i64 k ∧ s = .string ⟨(hexOf (bs.take k)).toArray⟩ ∧ Below w.heap.size w wr) (fun _ i _ _ _ => n - (intOf i).toNat)
  case atStart => exact ⟨0, Nat.zero_le _, rfl, rfl, Below.refl _ _⟩
  case round =>
    obtain ⟨k, hk, rfl, rfl, hbel⟩ := hrel
    by_cases hlt : k < n
    · obtain ⟨b, hb⟩ : ∃ b, bs[k]? = some b := ⟨_, List.getElem?_eq_getElem (by rw [HL.out]; exact hlt)⟩
      obtain ⟨ad, rfl, hadB, hcell⟩ := hr.at_ (j := k) (u := bv b) (by rw [List.getElem?_map, hb]; rfl)
      have hcl : wr.cell? (ad.add k) = some (bv b) := by rw [hbel.cell (by rw [add_block]; exact hadB)]; exact hcell
      clear hcell
      have hlen : (hexOf (bs.take k)).length = 2 * k := by rw [hexOf_length, List.length_take, HL.out]; omega
      have hnx := hexOf_take bs k b hb
      have HB := Lib.hid hnx
      have bl := b.toNat_lt
      have c1 := run_cat (P := Tryd.prog) (hexOf (bs.take k)) [hexD (b.toNat / 16)] (by rw [hlen]; simp; omega)
      have c2 := run_cat (P := Tryd.prog) (hexOf (bs.take k) ++ [hexD (b.toNat / 16)]) [hexD (b.toNat % 16)] (by simp [hlen]; omega)
      have s1 := cut_one (b.toNat / 16) (by omega) ((b.toNat : Int) / 16) ((b.toNat : Int) / 16 + 1) (by omega) (by omega)
      have s2 := cut_one (b.toNat % 16) (by omega) ((b.toNat : Int) % 16) ((b.toNat : Int) % 16 + 1) (by omega) (by omega)
      clear hlen hnx hb
      generalize hexOf (bs.take k) = t at *
      generalize hexD (b.toNat / 16) = d1 at *
      generalize hexD (b.toNat % 16) = d2 at *
      go_wp2
      go_quiet (fail)
      go_wp2
      go_roundw
      case rel => exact ⟨k + 1, by omega, by go_num, by rw [HB.out], below_draws hbel⟩
      case measure => simp [intOf]; omega
    · obtain rfl : k = n := by omega
      go_wp2
      go_ret
      rw [List.take_of_length_le (by rw [HL.out]; omega)]
      exact ⟨rfl, hbel⟩

theorem extract_take (s : List UInt8) (m : Nat) : (⟨s.toArray⟩ : ByteArray).extract 0 m = ⟨(s.take m).toArray⟩ := by
  apply ByteArray.ext
  simp [ByteArray.data_extract]

set_option maxHeartbeats 400000 in
theorem short_any (s : List UInt8) (m : Nat) (w : World) (hs : s.length ≤ maxLen) (hm : m ≤ 1000000) :
    Calls Tryd.prog 47 #[.string ⟨s.toArray⟩, .int .i64 (m : Int)] w fun e w' => e = .returned (.string ⟨(s.take m).toArray⟩) ∧ w = w' := by
  unfold maxLen at hs
  by_cases h : m < s.length
  · have hx := extract_take s m
    go_enter Tryd.func47, Tryd.ntmps47
    go_wp2
    go_ret
    exact ⟨rfl, rfl⟩
  · rw [List.take_of_length_le (by omega)]
    go_enter Tryd.func47, Tryd.ntmps47
    go_wp2
    go_ret
    exact ⟨rfl, rfl⟩

/-- What Around answers. -/
def around (n : Int) (m : Nat) : Nat := ((if n < 0 then -(n + 1) else n) % (m : Int)).toNat
theorem around_lt (n : Int) {m : Nat} (h : 0 < m) : around n m < m := by
  unfold around
  have h1 := Int.emod_lt_of_pos (if n < 0 then -(n + 1) else n) (show (0 : Int) < (m : Int) by omega)
  have h2 := Int.emod_nonneg (if n < 0 then -(n + 1) else n) (show (m : Int) ≠ 0 by omega)
  omega

set_option maxHeartbeats 400000 in
theorem around_any (n : Int) (m : Nat) (w : World) (hn : -9223372036854775808 ≤ n ∧ n ≤ 9223372036854775807) (hm : 0 < m ∧ m ≤ 1000000) :
    Calls Tryd.prog 8 #[.int .i64 n, .int .i64 (m : Int)] w fun e w' => e = .returned (.int .i64 (around n m : Int)) ∧ w = w' := by
  obtain ⟨n1, n2⟩ := hn
  obtain ⟨m1, m2⟩ := hm
  have hz : ((m : Int) == 0) = false := by simp; omega
  by_cases h : n < 0
  · have hr : (around n m : Int) = (-(n + 1)) % (m : Int) := by
      unfold around
      rw [if_pos h]
      have h2 := Int.emod_nonneg (-(n + 1)) (show (m : Int) ≠ 0 by omega)
      omega
    rw [hr]
    clear hr
    go_enter Tryd.func8, Tryd.ntmps8
    go_wp2
    go_ret
    exact ⟨ret_int (by rw [← Int.neg_tmod, Int.tmod_eq_emod_of_nonneg (by omega)]), rfl⟩
  · have hr : (around n m : Int) = n % (m : Int) := by
      unfold around
      rw [if_neg h]
      have h2 := Int.emod_nonneg n (show (m : Int) ≠ 0 by omega)
      omega
    rw [hr]
    clear hr
    go_enter Tryd.func8, Tryd.ntmps8
    go_wp2
    go_ret
    exact ⟨rfl, rfl⟩

end Go.Proofs.YtbcldknecdbemaaDoor.Hx
