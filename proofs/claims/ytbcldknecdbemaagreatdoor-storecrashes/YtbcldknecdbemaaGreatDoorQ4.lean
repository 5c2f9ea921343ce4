/-
  Contracts, joined (LzM Amap Cut2 LzN LzB LzC Off).
-/
import Derived.Test.YtbcldknecdbemaaGreatDoorQ1
import Derived.Test.YtbcldknecdbemaaGreatDoorQ2
import Derived.MapKept
import Derived.DeepKeys3
import Derived.Maps.Range
import Derived.Test.YtbcldknecdbemaaGreatDoorRows
import Derived.Laws.BitsAllLaws
import Derived.Outline
import Derived.Lib.Hide
import Derived.BigQuiet
import Derived.Deep.AppendSrc
import Derived.Test.YtbcldknecdbemaaGreatDoorQ3

/-
  Bytes in fewer, as functions of lists (of no program): the match at a place, literal tokens, bytes packed, unpacked, how many tokens; what is packed is unpacked as it was, and how long it is.
-/
namespace Go.Proofs.YtbcldknecdbemaaGreatDoor
set_option linter.unusedVariables false
set_option maxRecDepth 20000

/-- From n on: how many bytes from i on are those d ahead of them (f more at most). -/
def mgo (b : List UInt8) (i d : Nat) : Nat → Nat → Nat
  | 0, n => n
  | f + 1, n => if i + n < b.length ∧ b[i + n]? = b[i + n - d]? then mgo b i d f (n + 1) else n
def mlen (b : List UInt8) (i d : Nat) : Nat := mgo b i d 131 0
theorem mgo_go {b : List UInt8} {i d n : Nat} (hn : n < 131) (h1 : i + n < b.length) (h2 : b[i + n]? = b[i + n - d]?) : mgo b i d (131 - n) n = mgo b i d (131 - (n + 1)) (n + 1) := by
  rw [show 131 - n = (131 - (n + 1)) + 1 by omega, mgo, if_pos ⟨h1, h2⟩]
theorem mgo_end {b : List UInt8} {i d n : Nat} (h : ¬ (n < 131 ∧ i + n < b.length ∧ b[i + n]? = b[i + n - d]?)) : mgo b i d (131 - n) n = n := by
  by_cases hn : n < 131
  · rw [show 131 - n = (131 - (n + 1)) + 1 by omega, mgo, if_neg (fun hc => h ⟨hn, hc⟩)]
  · rw [show 131 - n = 0 by omega, mgo]
theorem mgo_spec (b : List UInt8) (i d : Nat) : ∀ f n, n ≤ mgo b i d f n ∧ mgo b i d f n ≤ n + f ∧ (∀ t, n ≤ t → t < mgo b i d f n → i + t < b.length ∧ b[i + t]? = b[i + t - d]?) ∧
    (mgo b i d f n < n + f → ¬ (i + mgo b i d f n < b.length ∧ b[i + mgo b i d f n]? = b[i + mgo b i d f n - d]?))
  | 0, n => by refine ⟨Nat.le_refl _, Nat.le_refl _, fun t h1 h2 => ?_, fun h => ?_⟩ <;> (simp only [mgo] at *; omega)
  | f + 1, n => by
    rw [mgo]
    split
    · rename_i hc
      obtain ⟨h1, h2, h3, h4⟩ := mgo_spec b i d f (n + 1)
      refine ⟨by omega, by omega, fun t ht1 ht2 => ?_, fun h => h4 (by omega)⟩
      rcases Nat.lt_or_ge n t with h | h
      · exact h3 t (by omega) ht2
      · obtain rfl : t = n := by omega
        exact hc
    · rename_i hc
      exact ⟨Nat.le_refl _, by omega, fun t h1 h2 => by omega, fun _ => hc⟩
theorem mlen_le (b : List UInt8) (i d : Nat) : mlen b i d ≤ 131 := by have := (mgo_spec b i d 131 0).2.1; unfold mlen; omega
theorem mlen_at {b : List UInt8} {i d t : Nat} (h : t < mlen b i d) : i + t < b.length ∧ b[i + t]? = b[i + t - d]? := (mgo_spec b i d 131 0).2.2.1 t (Nat.zero_le _) h
theorem mlen_stop {b : List UInt8} {i d : Nat} (h : mlen b i d < 131) : ¬ (i + mlen b i d < b.length ∧ b[i + mlen b i d]? = b[i + mlen b i d - d]?) := (mgo_spec b i d 131 0).2.2.2 (by unfold mlen at h; omega)
theorem mlen_ge {b : List UInt8} {i d n : Nat} (hn : n ≤ 131) (h : ∀ t, t < n → i + t < b.length ∧ b[i + t]? = b[i + t - d]?) : n ≤ mlen b i d := by
  rcases Nat.lt_or_ge (mlen b i d) n with hlt | hge
  · exact absurd (h _ hlt) (mlen_stop (by omega))
  · exact hge
theorem mlen_fit {b : List UInt8} {i d : Nat} (h : 0 < mlen b i d) : i + mlen b i d ≤ b.length := by have := (mlen_at (b := b) (i := i) (d := d) (t := mlen b i d - 1) (by omega)).1; omega

/-- The best of the distances 1 to k. -/
def bestTo (b : List UInt8) (i : Nat) : Nat → Nat × Nat
  | 0 => (0, 0)
  | k + 1 => if 3 < mlen b i (k + 1) ∧ (bestTo b i k).1 < mlen b i (k + 1) then (mlen b i (k + 1), k + 1) else bestTo b i k
theorem bestTo_spec (b : List UInt8) (i : Nat) : ∀ k, (bestTo b i k = (0, 0) ∧ ∀ d, 1 ≤ d → d ≤ k → mlen b i d ≤ 3) ∨
    (3 < (bestTo b i k).1 ∧ 1 ≤ (bestTo b i k).2 ∧ (bestTo b i k).2 ≤ k ∧ (bestTo b i k).1 = mlen b i (bestTo b i k).2 ∧ (∀ d, 1 ≤ d → d ≤ k → mlen b i d ≤ (bestTo b i k).1) ∧ ∀ d, 1 ≤ d → d < (bestTo b i k).2 → mlen b i d < (bestTo b i k).1)
  | 0 => .inl ⟨rfl, fun d h1 h2 => by omega⟩
  | k + 1 => by
    have ih := bestTo_spec b i k
    rw [bestTo]
    split
    · rename_i hc
      obtain ⟨h1, h2⟩ := hc
      refine .inr ⟨h1, by simp, by simp, rfl, fun d hd1 hd2 => ?_, fun d hd1 hd2 => ?_⟩
      · rcases Nat.lt_or_ge k d with h | h
        · obtain rfl : d = k + 1 := by omega
          exact Nat.le_refl _
        · rcases ih with ⟨e, h3⟩ | ⟨_, _, _, _, h3, _⟩
          · have := h3 d hd1 h; simp only []; omega
          · have := h3 d hd1 h; simp only []; omega
      · simp only [] at hd2 ⊢
        rcases ih with ⟨e, h3⟩ | ⟨_, _, _, _, h3, _⟩
        · have := h3 d hd1 (by omega); omega
        · have := h3 d hd1 (by omega); omega
    · rename_i hc
      rcases ih with ⟨e, h3⟩ | ⟨g1, g2, g3, g4, g5, g6⟩
      · refine .inl ⟨e, fun d hd1 hd2 => ?_⟩
        rcases Nat.lt_or_ge k d with h | h
        · obtain rfl : d = k + 1 := by omega
          rw [e] at hc
          simp only [] at hc
          omega
        · exact h3 d hd1 h
      · refine .inr ⟨g1, g2, by omega, g4, fun d hd1 hd2 => ?_, g6⟩
        rcases Nat.lt_or_ge k d with h | h
        · obtain rfl : d = k + 1 := by omega
          omega
        · exact g5 d hd1 h

/-- The match at a place: its length and its distance, 0 and 0 if there is none. -/
def matchOf (b : List UInt8) (i : Nat) : Nat × Nat := if i < b.length then bestTo b i (min i 1024) else (0, 0)
def matchAt (b : List UInt8) (p : Int) : Nat × Nat := if p < 0 then (0, 0) else matchOf b p.toNat
theorem matchAt_nat (b : List UInt8) (i : Nat) : matchAt b (i : Int) = matchOf b i := by unfold matchAt; rw [if_neg (by omega)]; simp
theorem match_none {b : List UInt8} {i : Nat} (h : (matchOf b i).1 = 0) : matchOf b i = (0, 0) := by
  unfold matchOf at h ⊢
  split
  · rw [if_pos ‹_›] at h
    rcases bestTo_spec b i (min i 1024) with ⟨e, _⟩ | ⟨g, _⟩
    · exact e
    · omega
  · rfl
theorem match_some {b : List UInt8} {i : Nat} (h : (matchOf b i).1 ≠ 0) : 4 ≤ (matchOf b i).1 ∧ (matchOf b i).1 ≤ 131 ∧ 1 ≤ (matchOf b i).2 ∧ (matchOf b i).2 ≤ i ∧ (matchOf b i).2 ≤ 1024 ∧ i + (matchOf b i).1 ≤ b.length ∧
    ∀ t, t < (matchOf b i).1 → i + t < b.length ∧ b[i + t]? = b[i + t - (matchOf b i).2]? := by
  unfold matchOf at h ⊢
  split
  · rw [if_pos ‹_›] at h
    rcases bestTo_spec b i (min i 1024) with ⟨e, _⟩ | ⟨g1, g2, g3, g4, _⟩
    · rw [e] at h; exact absurd rfl h
    · refine ⟨by omega, ?_, g2, by omega, by omega, ?_, ?_⟩
      · rw [g4]; exact mlen_le _ _ _
      · have := mlen_fit (b := b) (i := i) (d := (bestTo b i (min i 1024)).2) (by omega)
        omega
      · intro t ht
        rw [g4] at ht
        exact mlen_at ht
  · rw [if_neg ‹_›] at h; exact absurd rfl h

/-- Literal bytes as tokens. -/
def lits (l : List UInt8) : List UInt8 :=
  if h : l = [] then [] else UInt8.ofNat ((l.take 128).length - 1) :: (l.take 128 ++ lits (l.drop 128))
termination_by l.length
decreasing_by
  have : 0 < l.length := List.length_pos_iff.2 h
  rw [List.length_drop]
  omega
theorem lits_nil : lits [] = [] := by rw [lits]; rfl
theorem lits_more {l : List UInt8} (h : l ≠ []) : lits l = UInt8.ofNat ((l.take 128).length - 1) :: (l.take 128 ++ lits (l.drop 128)) := by
  rw [lits, dif_neg h]
/-- A match as a token. -/
def mtok (m : Nat × Nat) : List UInt8 := [UInt8.ofNat (124 + m.1), UInt8.ofNat ((m.2 - 1) % 256), UInt8.ofNat ((m.2 - 1) / 256)]
/-- Bytes packed, from the place i on, the literal ones from fr on. -/
def packFrom (b : List UInt8) (i fr : Nat) : List UInt8 :=
  if h : i < b.length then
    if hn : (matchOf b i).1 = 0 then packFrom b (i + 1) fr
    else lits ((b.drop fr).take (i - fr)) ++ (mtok (matchOf b i) ++ packFrom b (i + (matchOf b i).1) (i + (matchOf b i).1))
  else lits (b.drop fr)
termination_by b.length - i
def packOf (b : List UInt8) : List UInt8 := packFrom b 0 0
theorem pack_none {b : List UInt8} {i fr : Nat} (h : i < b.length) (hn : (matchOf b i).1 = 0) : packFrom b i fr = packFrom b (i + 1) fr := by rw [packFrom, dif_pos h, dif_pos hn]
theorem pack_some {b : List UInt8} {i fr : Nat} (h : i < b.length) (hn : (matchOf b i).1 ≠ 0) :
    packFrom b i fr = lits ((b.drop fr).take (i - fr)) ++ (mtok (matchOf b i) ++ packFrom b (i + (matchOf b i).1) (i + (matchOf b i).1)) := by rw [packFrom, dif_pos h, dif_neg hn]
theorem pack_end {b : List UInt8} {i fr : Nat} (h : ¬ i < b.length) : packFrom b i fr = lits (b.drop fr) := by rw [packFrom, dif_neg h]

/-- n times the byte d ahead of the end. -/
def copyN : Nat → Nat → List UInt8 → List UInt8
  | 0, _, out => out
  | n + 1, d, out => copyN n d (out ++ [out.getD (out.length - d) 0])
theorem copyN_len : ∀ n d (out : List UInt8), (copyN n d out).length = out.length + n
  | 0, _, _ => rfl
  | n + 1, d, out => by rw [copyN, copyN_len n]; simp; omega
theorem copyN_succ : ∀ n d (out : List UInt8), copyN (n + 1) d out = copyN n d out ++ [(copyN n d out).getD ((copyN n d out).length - d) 0]
  | 0, _, _ => rfl
  | n + 1, d, out => by rw [copyN, copyN_succ n d, copyN]
theorem copyN_take {b : List UInt8} {d : Nat} (hd : 1 ≤ d) : ∀ (n i : Nat), d ≤ i → (∀ t, t < n → i + t < b.length ∧ b[i + t]? = b[i + t - d]?) → copyN n d (b.take i) = b.take (i + n)
  | 0, i, _, _ => rfl
  | n + 1, i, hi, h => by
    obtain ⟨h1, h2⟩ := h 0 (by omega)
    rw [Nat.add_zero] at h1 h2
    have hl : (b.take i).length = i := by rw [List.length_take]; omega
    have e : (b.take i).getD ((b.take i).length - d) 0 = b[i] := by
      rw [hl, List.getD, List.getElem?_take, if_pos (by omega), ← h2, List.getElem?_eq_getElem h1]
      rfl
    rw [copyN, e, ← List.take_succ_eq_append_getElem h1, copyN_take hd n (i + 1) (by omega) (fun t ht => by have := h (t + 1) (by omega); rwa [show i + (t + 1) = i + 1 + t by omega] at this), show i + 1 + n = i + (n + 1) by omega]

/-- The bytes of tokens, behind those that are there, and the error's number. -/
def unp (most : Int) (p out : List UInt8) : List UInt8 × Nat :=
  match p with
  | [] => (out, 0)
  | c :: r =>
    if c.toNat < 128 then
      if r.length < c.toNat + 1 then ([], 2)
      else if most < (out.length : Int) + c.toNat + 1 then ([], 3)
      else unp most (r.drop (c.toNat + 1)) (out ++ r.take (c.toNat + 1))
    else if r.length < 2 then ([], 2)
    else if out.length < 1 + (r.getD 0 0).toNat + 256 * (r.getD 1 0).toNat then ([], 2)
    else if most < (out.length : Int) + c.toNat - 124 then ([], 3)
    else unp most (r.drop 2) (copyN (c.toNat - 124) (1 + (r.getD 0 0).toNat + 256 * (r.getD 1 0).toNat) out)
termination_by p.length
decreasing_by all_goals (simp only [List.length_cons, List.length_drop]; omega)
def unpackOf (p : List UInt8) (most : Int) : List UInt8 × Nat := unp most p []
theorem unp_nil (most : Int) (out : List UInt8) : unp most [] out = (out, 0) := by rw [unp]
section
variable {most : Int} {c : UInt8} {r out : List UInt8}
theorem unp_lit_form (hc : c.toNat < 128) (h : r.length < c.toNat + 1) : unp most (c :: r) out = ([], 2) := by rw [unp, if_pos hc, if_pos h]
theorem unp_lit_range (hc : c.toNat < 128) (h : ¬ r.length < c.toNat + 1) (hm : most < (out.length : Int) + c.toNat + 1) : unp most (c :: r) out = ([], 3) := by rw [unp, if_pos hc, if_neg h, if_pos hm]
theorem unp_lit (hc : c.toNat < 128) (h : ¬ r.length < c.toNat + 1) (hm : ¬ most < (out.length : Int) + c.toNat + 1) : unp most (c :: r) out = unp most (r.drop (c.toNat + 1)) (out ++ r.take (c.toNat + 1)) := by
  rw [unp, if_pos hc, if_neg h, if_neg hm]
theorem unp_mat_short (hc : ¬ c.toNat < 128) (h : r.length < 2) : unp most (c :: r) out = ([], 2) := by rw [unp, if_neg hc, if_pos h]
theorem unp_mat_far (hc : ¬ c.toNat < 128) (h : ¬ r.length < 2) (hd : out.length < 1 + (r.getD 0 0).toNat + 256 * (r.getD 1 0).toNat) : unp most (c :: r) out = ([], 2) := by rw [unp, if_neg hc, if_neg h, if_pos hd]
theorem unp_mat_range (hc : ¬ c.toNat < 128) (h : ¬ r.length < 2) (hd : ¬ out.length < 1 + (r.getD 0 0).toNat + 256 * (r.getD 1 0).toNat) (hm : most < (out.length : Int) + c.toNat - 124) : unp most (c :: r) out = ([], 3) := by
  rw [unp, if_neg hc, if_neg h, if_neg hd, if_pos hm]
theorem unp_mat (hc : ¬ c.toNat < 128) (h : ¬ r.length < 2) (hd : ¬ out.length < 1 + (r.getD 0 0).toNat + 256 * (r.getD 1 0).toNat) (hm : ¬ most < (out.length : Int) + c.toNat - 124) :
    unp most (c :: r) out = unp most (r.drop 2) (copyN (c.toNat - 124) (1 + (r.getD 0 0).toNat + 256 * (r.getD 1 0).toNat) out) := by rw [unp, if_neg hc, if_neg h, if_neg hd, if_neg hm]
end

/-- One literal token. -/
theorem unp_piece {most : Int} {l r out : List UInt8} {k : Nat} (hk : l.length = k + 1) (h8 : k < 128) (hm : (out.length : Int) + (k + 1 : Nat) ≤ most) : unp most (UInt8.ofNat k :: (l ++ r)) out = unp most r (out ++ l) := by
  have hc : (UInt8.ofNat k).toNat = k := by rw [UInt8.toNat_ofNat']; omega
  rw [unp_lit (by omega) (by rw [hc, List.length_append]; omega) (by rw [hc]; omega), hc]
  rw [← hk, List.drop_left, List.take_left]
theorem unp_piece_range {most : Int} {l r out : List UInt8} {k : Nat} (hk : l.length = k + 1) (h8 : k < 128) (hm : most < (out.length : Int) + (k + 1 : Nat)) : unp most (UInt8.ofNat k :: (l ++ r)) out = ([], 3) := by
  have hc : (UInt8.ofNat k).toNat = k := by rw [UInt8.toNat_ofNat']; omega
  rw [unp_lit_range (by omega) (by rw [hc, List.length_append]; omega) (by rw [hc]; omega)]
theorem unp_lits (most : Int) : ∀ (n : Nat) (l r out : List UInt8), l.length = n → (out.length : Int) ≤ most →
    unp most (lits l ++ r) out = if (out.length : Int) + l.length ≤ most then unp most r (out ++ l) else ([], 3) := by
  intro n
  induction n using Nat.strongRecOn with
  | ind n ih =>
    intro l r out hl ho
    by_cases he : l = []
    · subst he
      rw [lits_nil, if_pos (by simpa using ho), List.nil_append, List.append_nil]
    · have hpos : 0 < l.length := List.length_pos_iff.2 he
      have ht : (l.take 128).length = ((l.take 128).length - 1) + 1 := by rw [List.length_take]; omega
      have ht8 : (l.take 128).length - 1 < 128 := by rw [List.length_take]; omega
      have hsum : (l.take 128).length + (l.drop 128).length = l.length := by rw [List.length_take, List.length_drop]; omega
      rw [lits_more he, List.cons_append, List.append_assoc]
      by_cases hm : (out.length : Int) + (l.take 128).length ≤ most
      · rw [unp_piece ht ht8 (by omega), ih (l.drop 128).length (by rw [List.length_drop]; omega) _ _ _ rfl (by rw [List.length_append]; omega), List.append_assoc, List.take_append_drop, List.length_append]
        by_cases hx : (out.length : Int) + l.length ≤ most
        · rw [if_pos hx, if_pos (by omega)]
        · rw [if_neg hx, if_neg (by omega)]
      · rw [unp_piece_range ht ht8 (by omega), if_neg (by omega)]
/-- One match token. -/
theorem unp_mtok {most : Int} {r out : List UInt8} {m : Nat × Nat} (h1 : 4 ≤ m.1) (h2 : m.1 ≤ 131) (h3 : 1 ≤ m.2) (h4 : m.2 ≤ out.length) (h5 : m.2 ≤ 65536) :
    unp most (mtok m ++ r) out = if (out.length : Int) + m.1 ≤ most then unp most r (copyN m.1 m.2 out) else ([], 3) := by
  have hc : (UInt8.ofNat (124 + m.1)).toNat = 124 + m.1 := by rw [UInt8.toNat_ofNat']; omega
  have hx : (UInt8.ofNat ((m.2 - 1) % 256)).toNat = (m.2 - 1) % 256 := by rw [UInt8.toNat_ofNat']; omega
  have hy : (UInt8.ofNat ((m.2 - 1) / 256)).toNat = (m.2 - 1) / 256 := by rw [UInt8.toNat_ofNat']; omega
  have hd : 1 + (m.2 - 1) % 256 + 256 * ((m.2 - 1) / 256) = m.2 := by omega
  unfold mtok
  simp only [List.cons_append, List.nil_append]
  by_cases hm : (out.length : Int) + m.1 ≤ most
  · rw [unp_mat (by rw [hc]; omega) (by simp) (by simp [hx, hy]; omega) (by rw [hc]; omega), if_pos hm]
    simp only [List.drop_succ_cons, List.drop_zero, List.getD_cons_zero, List.getD_cons_succ, hx, hy, hc, hd]
    rw [show 124 + m.1 - 124 = m.1 by omega]
  · rw [unp_mat_range (by rw [hc]; omega) (by simp) (by simp [hx, hy]; omega) (by rw [hc]; omega), if_neg hm]

theorem pack_unp (most : Int) (b : List UInt8) : ∀ (n i fr : Nat), b.length - i = n → fr ≤ i → i ≤ b.length → (fr : Int) ≤ most →
    unp most (packFrom b i fr) (b.take fr) = if (b.length : Int) ≤ most then (b, 0) else ([], 3) := by
  intro n
  induction n using Nat.strongRecOn with
  | ind n ih =>
    intro i fr hn hfi hib hm
    have hfl : (b.take fr).length = fr := by rw [List.length_take]; omega
    by_cases hi : i < b.length
    · by_cases h0 : (matchOf b i).1 = 0
      · rw [pack_none hi h0]
        exact ih (b.length - (i + 1)) (by omega) (i + 1) fr rfl (by omega) (by omega) hm
      · obtain ⟨g1, g2, g3, g4, g5, g6, g7⟩ := match_some h0
        have hpl : ((b.drop fr).take (i - fr)).length = i - fr := by rw [List.length_take, List.length_drop]; omega
        have hcat : b.take fr ++ (b.drop fr).take (i - fr) = b.take i := by
          rw [show i = fr + (i - fr) by omega, List.take_add, show fr + (i - fr) - fr = i - fr by omega]
        have hil : (b.take i).length = i := by rw [List.length_take]; omega
        rw [pack_some hi h0, unp_lits most _ _ _ _ rfl (by omega), hfl, hpl]
        by_cases hm2 : (i : Int) ≤ most
        · rw [if_pos (by omega), hcat, unp_mtok g1 g2 g3 (by omega) (by omega), hil]
          by_cases hm3 : (i : Int) + (matchOf b i).1 ≤ most
          · rw [if_pos hm3, copyN_take g3 _ i g4 g7]
            exact ih (b.length - (i + (matchOf b i).1)) (by omega) _ _ rfl (Nat.le_refl _) g6 (by omega)
          · rw [if_neg hm3, if_neg (by omega)]
        · rw [if_neg (by omega), if_neg (by omega)]
    · rw [pack_end hi]
      have h := unp_lits most _ (b.drop fr) [] (b.take fr) rfl (by omega)
      rw [List.append_nil] at h
      rw [h, hfl, List.length_drop, List.take_append_drop, unp_nil]
      by_cases hx : (b.length : Int) ≤ most
      · rw [if_pos (by omega), if_pos hx]
      · rw [if_neg (by omega), if_neg hx]
/-- What is packed is unpacked as it was, just if there are no more bytes than most. -/
theorem unpack_pack (b : List UInt8) (most : Int) (h : 0 ≤ most) : unpackOf (packOf b) most = if (b.length : Int) ≤ most then (b, 0) else ([], 3) := by
  have := pack_unp most b _ 0 0 rfl (Nat.le_refl _) (Nat.zero_le _) (by simpa using h)
  simpa [unpackOf, packOf] using this

theorem lits_len : ∀ (n : Nat) (l : List UInt8), l.length = n → (lits l).length = n + (n + 127) / 128 := by
  intro n
  induction n using Nat.strongRecOn with
  | ind n ih =>
    intro l hl
    by_cases he : l = []
    · subst he
      simp at hl
      subst hl
      rw [lits_nil]
      rfl
    · have hpos : 0 < l.length := List.length_pos_iff.2 he
      rw [lits_more he, List.length_cons, List.length_append, ih (l.length - 128) (by omega) _ (by rw [List.length_drop]), List.length_take]
      omega
theorem mtok_len (m : Nat × Nat) : (mtok m).length = 3 := rfl
theorem packFrom_len (b : List UInt8) : ∀ (n i fr : Nat), b.length - i = n → fr ≤ i → i ≤ b.length → (packFrom b i fr).length ≤ (b.length - fr) + (b.length - fr + 127) / 128 := by
  intro n
  induction n using Nat.strongRecOn with
  | ind n ih =>
    intro i fr hn hfi hib
    by_cases hi : i < b.length
    · by_cases h0 : (matchOf b i).1 = 0
      · rw [pack_none hi h0]
        exact ih (b.length - (i + 1)) (by omega) (i + 1) fr rfl (by omega) (by omega)
      · obtain ⟨g1, g2, g3, g4, g5, g6, g7⟩ := match_some h0
        have h1 := ih (b.length - (i + (matchOf b i).1)) (by omega) _ (i + (matchOf b i).1) rfl (Nat.le_refl _) g6
        rw [pack_some hi h0, List.length_append, List.length_append, mtok_len, lits_len (i - fr) _ (by rw [List.length_take, List.length_drop]; omega)]
        omega
    · rw [pack_end hi, lits_len (b.length - fr) _ (by rw [List.length_drop])]
      exact Nat.le_refl _
theorem packOf_len (b : List UInt8) : (packOf b).length ≤ b.length + (b.length + 127) / 128 := packFrom_len b _ 0 0 rfl (Nat.le_refl _) (Nat.zero_le _)

/-- How many tokens, behind n. -/
def cnt (p : List UInt8) (n : Nat) : Option Nat :=
  match p with
  | [] => some n
  | c :: r => if c.toNat < 128 then (if r.length < c.toNat + 1 then none else cnt (r.drop (c.toNat + 1)) (n + 1)) else if r.length < 2 then none else cnt (r.drop 2) (n + 1)
termination_by p.length
decreasing_by all_goals (simp only [List.length_cons, List.length_drop]; omega)
def countOf (p : List UInt8) : Option Nat := cnt p 0
theorem cnt_nil (n : Nat) : cnt [] n = some n := by rw [cnt]
theorem cnt_lit {c : UInt8} {r : List UInt8} {n : Nat} (hc : c.toNat < 128) (h : ¬ r.length < c.toNat + 1) : cnt (c :: r) n = cnt (r.drop (c.toNat + 1)) (n + 1) := by rw [cnt, if_pos hc, if_neg h]
theorem cnt_lit_none {c : UInt8} {r : List UInt8} {n : Nat} (hc : c.toNat < 128) (h : r.length < c.toNat + 1) : cnt (c :: r) n = none := by rw [cnt, if_pos hc, if_pos h]
theorem cnt_mat {c : UInt8} {r : List UInt8} {n : Nat} (hc : ¬ c.toNat < 128) (h : ¬ r.length < 2) : cnt (c :: r) n = cnt (r.drop 2) (n + 1) := by rw [cnt, if_neg hc, if_neg h]
theorem cnt_mat_none {c : UInt8} {r : List UInt8} {n : Nat} (hc : ¬ c.toNat < 128) (h : r.length < 2) : cnt (c :: r) n = none := by rw [cnt, if_neg hc, if_pos h]
theorem cnt_lits : ∀ (k : Nat) (l r : List UInt8) (n : Nat), l.length = k → cnt (lits l ++ r) n = cnt r (n + (k + 127) / 128) := by
  intro k
  induction k using Nat.strongRecOn with
  | ind k ih =>
    intro l r n hl
    by_cases he : l = []
    · subst he
      simp at hl
      subst hl
      rw [lits_nil]
      rfl
    · have hpos : 0 < l.length := List.length_pos_iff.2 he
      have hc : (UInt8.ofNat ((l.take 128).length - 1)).toNat = (l.take 128).length - 1 := by rw [UInt8.toNat_ofNat', List.length_take]; omega
      have ht : (l.take 128).length - 1 + 1 = (l.take 128).length := by rw [List.length_take]; omega
      rw [lits_more he, List.cons_append, List.append_assoc, cnt_lit (by rw [hc, List.length_take]; omega) (by rw [hc, ht, List.length_append]; omega), hc, ht, List.drop_left,
        ih (l.length - 128) (by omega) _ _ _ (by rw [List.length_drop])]
      congr 1
      omega
theorem cnt_mtok (m : Nat × Nat) (r : List UInt8) (n : Nat) (h : 4 ≤ m.1) (h2 : m.1 ≤ 131) : cnt (mtok m ++ r) n = cnt r (n + 1) := by
  have hc : (UInt8.ofNat (124 + m.1)).toNat = 124 + m.1 := by rw [UInt8.toNat_ofNat']; omega
  unfold mtok
  simp only [List.cons_append, List.nil_append]
  rw [cnt_mat (by rw [hc]; omega) (by simp)]
  rfl

/-- One byte many times: the match at each place but the first. -/
theorem rep_at (k : Nat) (c : UInt8) (j : Nat) : (List.replicate k c)[j]? = if j < k then some c else none := List.getElem?_replicate
theorem rep_mlen (k : Nat) (c : UInt8) (i d : Nat) (hd : 1 ≤ d) (hdi : d ≤ i) (hi : i < k) : mlen (List.replicate k c) i d = min 131 (k - i) := by
  have h1 : min 131 (k - i) ≤ mlen (List.replicate k c) i d := mlen_ge (by omega) fun t ht => by
    rw [List.length_replicate, rep_at, rep_at, if_pos (by omega), if_pos (by omega)]
    exact ⟨by omega, rfl⟩
  have h2 := mlen_le (List.replicate k c) i d
  have h3 := mlen_fit (b := List.replicate k c) (i := i) (d := d) (by omega)
  rw [List.length_replicate] at h3
  omega
theorem rep_best (k : Nat) (c : UInt8) (i : Nat) (hi : i < k) (h4 : 4 ≤ k - i) : ∀ m, 1 ≤ m → m ≤ i → bestTo (List.replicate k c) i m = (min 131 (k - i), 1)
  | 0, h, _ => by omega
  | 1, _, hm => by
    rw [bestTo, rep_mlen k c i 1 (by omega) hm hi, if_pos ⟨by omega, by rw [bestTo]; simp only []; omega⟩]
  | m + 2, _, hm => by
    rw [bestTo, rep_best k c i hi h4 (m + 1) (by omega) (by omega), rep_mlen k c i (m + 1 + 1) (by omega) hm hi, if_neg (by simp)]
theorem rep_match (k : Nat) (c : UInt8) (i : Nat) (h1 : 1 ≤ i) (h4 : 4 ≤ k - i) : matchOf (List.replicate k c) i = (min 131 (k - i), 1) := by
  unfold matchOf
  rw [List.length_replicate, if_pos (by omega), rep_best k c i (by omega) h4 _ (by omega) (by omega)]
theorem rep_none (k : Nat) (c : UInt8) (i : Nat) (h : i = 0 ∨ k - i < 4) : (matchOf (List.replicate k c) i).1 = 0 := by
  by_cases h0 : (matchOf (List.replicate k c) i).1 = 0
  · exact h0
  · obtain ⟨g1, g2, g3, g4, g5, g6, g7⟩ := match_some h0
    rw [List.length_replicate] at g6
    omega
/-- Where no match is left. -/
theorem pack_rest {b : List UInt8} {fr : Nat} : ∀ (n i : Nat), b.length - i = n → (∀ j, i ≤ j → j < b.length → (matchOf b j).1 = 0) → packFrom b i fr = lits (b.drop fr)
  | 0, i, hn, _ => pack_end (by omega)
  | n + 1, i, hn, h => by
    rw [pack_none (by omega) (h i (Nat.le_refl _) (by omega))]
    exact pack_rest n (i + 1) (by omega) fun j h1 h2 => h j (by omega) h2
theorem rep_cnt (k : Nat) (c : UInt8) : ∀ (n i t : Nat), k - i = n → 1 ≤ i → i ≤ k → cnt (packFrom (List.replicate k c) i i) t = some (t + (k - i + 130) / 131) := by
  intro n
  induction n using Nat.strongRecOn with
  | ind n ih =>
    intro i t hn h1 hk
    by_cases h4 : 4 ≤ k - i
    · have hm := rep_match k c i h1 h4
      rw [pack_some (by rw [List.length_replicate]; omega) (by rw [hm]; simp only []; omega), hm, Nat.sub_self, List.take_zero, lits_nil, List.nil_append, cnt_mtok _ _ _ (by simp only []; omega) (by simp only []; omega)]
      simp only []
      rw [ih (k - (i + min 131 (k - i))) (by omega) _ _ rfl (by omega) (by omega)]
      congr 1
      omega
    · rw [pack_rest _ i rfl (fun j hj _ => rep_none k c j (.inr (by omega)))]
      have := cnt_lits (k - i) ((List.replicate k c).drop i) [] t (by simp)
      rw [List.append_nil, cnt_nil] at this
      rw [this]
      congr 1
      omega
/-- One byte k times: how many tokens. -/
theorem rep_count (k : Nat) (c : UInt8) : countOf (packOf (List.replicate k c)) = some (if 4 < k then 1 + (k - 1 + 130) / 131 else min k 1) := by
  unfold countOf packOf
  by_cases h : 4 < k
  · have hm := rep_match k c 1 (by omega) (by omega)
    rw [if_pos h, pack_none (by rw [List.length_replicate]; omega) (rep_none k c 0 (.inl rfl)), Nat.zero_add, pack_some (by rw [List.length_replicate]; omega) (by rw [hm]; simp only []; omega), hm]
    rw [cnt_lits 1 _ _ _ (by simp; omega), cnt_mtok _ _ _ (by simp only []; omega) (by simp only []; omega)]
    simp only []
    rw [rep_cnt k c _ _ _ rfl (by omega) (by omega)]
    congr 1
    omega
  · rw [if_neg h, pack_rest _ 0 rfl (fun j hj _ => rep_none k c j (by omega))]
    have := cnt_lits k ((List.replicate k c).drop 0) [] 0 (by simp)
    rw [List.append_nil, cnt_nil] at this
    rw [this]
    congr 1
    omega
end Go.Proofs.YtbcldknecdbemaaGreatDoor

/-
  Maps whose keys are arrays of four bytes (of no program): what is looked up, stored, deleted, key by key.
-/
namespace Go.Proofs.YtbcldknecdbemaaGreatDoor
open Go.RowKit
set_option linter.unusedVariables false
set_option maxRecDepth 20000
set_option linter.unusedSectionVars false

/-- A key, its value, its stamp. -/
abbrev Ent := List UInt8 × Value × Nat
def ent (p : Ent) : MapEntry := { key := dv p.1, val := p.2.1, born := p.2.2 }
def fndFrom (k : List UInt8) : List Ent → Nat → Option (Nat × Value)
  | [], _ => none
  | p :: r, i => if k == p.1 then some (i, p.2.1) else fndFrom k r (i + 1)
structure Fine (l : List Ent) (clock : Nat) : Prop where
  four : ∀ p ∈ l, p.1.length = 4
  keys : (l.map (·.1)).Nodup
  stamps : (l.map (·.2.2)).Nodup
  past : ∀ p ∈ l, p.2.2 < clock
/-- The value at a key. -/
def look (l : List Ent) (k : List UInt8) : Option Value := (l.find? (fun p => k == p.1)).map (·.2.1)

theorem fnd_spec (k : List UInt8) : ∀ (l : List Ent) (i : Nat), (fndFrom k l i = none ∧ look l k = none ∧ ∀ p ∈ l, p.1 ≠ k) ∨ ∃ j p, fndFrom k l i = some (i + j, p.2.1) ∧ l[j]? = some p ∧ p.1 = k ∧ look l k = some p.2.1
  | [], i => .inl ⟨rfl, rfl, fun _ h => by simp at h⟩
  | p :: r, i => by
    by_cases h : k = p.1
    · refine .inr ⟨0, p, ?_, rfl, h.symm, ?_⟩
      · simp [fndFrom, h]
      · simp [look, h]
    · have hb : (k == p.1) = false := by simpa using h
      have e1 : fndFrom k (p :: r) i = fndFrom k r (i + 1) := by simp [fndFrom, hb]
      have e2 : look (p :: r) k = look r k := by simp [look, hb]
      rw [e1, e2]
      rcases fnd_spec k r (i + 1) with ⟨h1, h2, h3⟩ | ⟨j, q, h1, h2, h3, h4⟩
      · exact .inl ⟨h1, h2, fun x hx => by
          rcases List.mem_cons.1 hx with rfl | hx
          · exact fun e => h e.symm
          · exact h3 x hx⟩
      · exact .inr ⟨j + 1, q, by rw [h1, show i + 1 + j = i + (j + 1) by omega], h2, h3, h4⟩

section
variable {P : Program} {T K E U : TypeId} (hT : P.underlying T = some (.map K E)) (hK : P.underlying K = some (.array 4 U)) (hU : P.underlying U = some (.int .u8)) (hcU : P.cellsOf U = 1) (w : World)
include hK hU hcU

theorem equal_key (la lb : List UInt8) (ha : la.length = 4) (hb : lb.length = 4) : (Op.equal K (dv la) (dv lb)).run P w = .ok (la == lb) w := by
  obtain ⟨i, hi⟩ := info_of_underlying hU
  have h := run_equalIn_array (P := P) w 9999 (t := K) (la.map bv).toArray (lb.map bv).toArray hK hi
  rw [hcU, run_items_bytes w 9998 hU la lb (List.range 4) (fun j hj => by have := List.mem_range.1 hj; omega), all_eq la lb 4 ha hb] at h
  simp [Op.equal, Op.maxDepth, h]

theorem find_key (k : List UInt8) (hk : k.length = 4) : ∀ (l : List Ent) (i : Nat), (∀ p ∈ l, p.1.length = 4) → (Instr.findAsking K (dv k) (l.map ent) i).run P w = .ok (fndFrom k l i) w
  | [], i, _ => by simp [Instr.findAsking, fndFrom]
  | p :: r, i, h => by
    have ih := find_key k hk r (i + 1) (fun q hq => h q (by simp [hq]))
    have he := equal_key hK hU hcU w k p.1 hk (h p (by simp))
    simp only [List.map_cons, Instr.findAsking, Sem.run_bind, ent, he, Result.andThen_ok, fndFrom]
    split <;> simp_all

theorem run_find (k : List UInt8) (hk : k.length = 4) (l : List Ent) (h : ∀ p ∈ l, p.1.length = 4) : (Instr.findKey K (dv k) (l.map ent)).run P w = .ok (fndFrom k l 0) w := by
  rw [run_findKey_eq w (by simp [hK])]
  exact find_key hK hU hcU w k hk l 0 h

theorem run_check (em : Bool) (k : List UInt8) (hk : k.length = 4) : (Instr.checkKey em 10000 K (dv k)).run P w = .ok () w := by
  obtain ⟨i, hi⟩ := info_of_underlying hU
  have hsz : (sizeOf U).run P w = .ok 1 w := by
    have := hcU
    simp [Program.cellsOf, hi] at this
    simp [sizeOf, typeInfo, hi, this]
  have hp : ∀ j, j < 4 → ∃ x : UInt8, (part U (k.map bv).toArray j).run P w = .ok (bv x) w := fun j hj => ⟨_, run_part_byte w hU k j (by omega)⟩
  have hc : ∀ x : UInt8, (Instr.checkKey em 9999 U (bv x)).run P w = .ok () w := fun x => by
    show (Instr.checkKey em (9998 + 1) U (bv x)).run P w = _
    rw [Instr.checkKey]
    simp only [Sem.run_bind, run_underlying hU, Result.andThen_ok, Sem.run_pure]
  obtain ⟨x0, h0⟩ := hp 0 (by omega)
  obtain ⟨x1, h1⟩ := hp 1 (by omega)
  obtain ⟨x2, h2⟩ := hp 2 (by omega)
  obtain ⟨x3, h3⟩ := hp 3 (by omega)
  show (Instr.checkKey em (9999 + 1) K (dv k)).run P w = _
  rw [Instr.checkKey]
  simp only [Sem.run_bind, run_underlying hK, Result.andThen_ok, dv]
  simp only [Std.Legacy.Range.forIn_eq_forIn_range', Std.Legacy.Range.size, Nat.sub_zero, Nat.add_one_sub_one, Nat.div_one]
  simp [List.range', List.forIn_cons, hsz, h0, h1, h2, h3, hc]
end

theorem sameBits_dv (n : Nat) (k : List UInt8) : Instr.sameBits (n + 1) (dv k) (dv k) = true := by
  rw [Instr.sameBits]
  simp only [beq_self_eq_true, Bool.true_and, List.all_eq_true]
  intro x hx
  obtain ⟨a, b⟩ := x
  have : a = b ∧ a ∈ k.map bv := by
    clear n
    generalize k.map bv = m at hx ⊢
    induction m with
    | nil => simp at hx
    | cons c r ih =>
      simp only [List.zip_cons_cons, List.mem_cons, Prod.mk.injEq] at hx
      rcases hx with ⟨rfl, rfl⟩ | hx
      · exact ⟨rfl, by simp⟩
      · exact ⟨(ih hx).1, by simp [(ih hx).2]⟩
  obtain ⟨rfl, hm⟩ := this
  obtain ⟨y, _, rfl⟩ := List.mem_map.1 hm
  cases n <;> simp [Instr.sameBits]

def upd (f : List UInt8 → Option Value) (k : List UInt8) (v : Option Value) : List UInt8 → Option Value := fun k' => if k' = k then v else f k'

section
variable {k k' : List UInt8} {v : Value} {s : Nat} {p : Ent}
theorem look_cons (p : Ent) (l : List Ent) (k : List UInt8) : look (p :: l) k = if k = p.1 then some p.2.1 else look l k := by
  by_cases h : k = p.1
  · simp [look, h]
  · have hb : (k == p.1) = false := by simpa using h
    simp [look, hb, h]
theorem look_none : ∀ {l : List Ent}, k ∉ l.map (·.1) → look l k = none
  | [], _ => rfl
  | q :: r, h => by
    simp only [List.map_cons, List.mem_cons, not_or] at h
    rw [look_cons, if_neg h.1, look_none h.2]
theorem look_set : ∀ {l : List Ent} {i : Nat}, l[i]? = some p → p.1 = k → (l.map (·.1)).Nodup → look (l.set i (k, v, s)) k' = if k' = k then some v else look l k'
  | [], i, h, _, _ => by simp at h
  | q :: r, 0, h, hp, hn => by
    simp at h
    subst h
    rw [List.set_cons_zero, look_cons, look_cons, hp]
    split <;> rfl
  | q :: r, i + 1, h, hp, hn => by
    simp only [List.getElem?_cons_succ] at h
    simp only [List.map_cons, List.nodup_cons] at hn
    have hq : q.1 ≠ k := fun e => hn.1 (by rw [e, ← hp]; exact List.mem_map_of_mem (List.mem_of_getElem? h))
    rw [List.set_cons_succ, look_cons, look_cons, look_set h hp hn.2]
    by_cases h1 : k' = k
    · subst h1; rw [if_pos rfl, if_pos rfl, if_neg (fun e => hq e.symm)]
    · rw [if_neg h1, if_neg h1]
theorem look_erase : ∀ {l : List Ent} {i : Nat}, l[i]? = some p → p.1 = k → (l.map (·.1)).Nodup → look (l.eraseIdx i) k' = if k' = k then none else look l k'
  | [], i, h, _, _ => by simp at h
  | q :: r, 0, h, hp, hn => by
    simp at h
    subst h
    simp only [List.map_cons, List.nodup_cons] at hn
    rw [List.eraseIdx_cons_zero, look_cons, hp]
    by_cases h1 : k' = k
    · subst h1; rw [if_pos rfl, look_none (by rw [← hp]; exact hn.1)]
    · rw [if_neg h1, if_neg h1]
  | q :: r, i + 1, h, hp, hn => by
    simp only [List.getElem?_cons_succ] at h
    simp only [List.map_cons, List.nodup_cons] at hn
    have hq : q.1 ≠ k := fun e => hn.1 (by rw [e, ← hp]; exact List.mem_map_of_mem (List.mem_of_getElem? h))
    rw [List.eraseIdx_cons_succ, look_cons, look_cons, look_erase h hp hn.2]
    by_cases h1 : k' = k
    · subst h1; rw [if_pos rfl, if_pos rfl, if_neg (fun e => hq e.symm)]
    · rw [if_neg h1, if_neg h1]
theorem look_push : ∀ {l : List Ent}, k ∉ l.map (·.1) → look (l ++ [(k, v, s)]) k' = if k' = k then some v else look l k'
  | [], _ => by rw [List.nil_append, look_cons]
  | q :: r, h => by
    simp only [List.map_cons, List.mem_cons, not_or] at h
    rw [List.cons_append, look_cons, look_cons, look_push h.2]
    by_cases h1 : k' = k
    · subst h1; rw [if_pos rfl, if_pos rfl, if_neg h.1]
    · rw [if_neg h1, if_neg h1]

theorem erase_map {α β : Type} (g : α → β) : ∀ (l : List α) (j : Nat), (l.map g).eraseIdx j = (l.eraseIdx j).map g
  | [], _ => by simp
  | a :: r, 0 => by simp
  | a :: r, j + 1 => by simp [erase_map g r j]
theorem set_map {α β : Type} (g : α → β) (l : List α) (i : Nat) (q : α) (h : (l[i]?).map g = some (g q)) : (l.set i q).map g = l.map g := by
  apply List.ext_getElem?
  intro j
  rw [List.getElem?_map, List.getElem?_map, List.getElem?_set]
  by_cases hj : i = j
  · subst hj
    have hi : i < l.length := by
      rcases Nat.lt_or_ge i l.length with h1 | h1
      · exact h1
      · rw [List.getElem?_eq_none h1] at h; cases h
    rw [if_pos rfl, if_pos hi, h]; rfl
  · rw [if_neg hj]
theorem Fine.set {l : List Ent} {clock i : Nat} (F : Fine l clock) (h : l[i]? = some p) (v : Value) : Fine (l.set i (p.1, v, p.2.2)) clock := by
  refine ⟨fun q hq => ?_, ?_, ?_, fun q hq => ?_⟩
  · rcases List.mem_or_eq_of_mem_set hq with h1 | rfl
    · exact F.four q h1
    · exact F.four p (List.mem_of_getElem? h)
  · rw [set_map _ _ _ _ (by rw [h]; rfl)]; exact F.keys
  · rw [set_map _ _ _ _ (by rw [h]; rfl)]; exact F.stamps
  · rcases List.mem_or_eq_of_mem_set hq with h1 | rfl
    · exact F.past q h1
    · exact F.past p (List.mem_of_getElem? h)
theorem Fine.erase {l : List Ent} {clock : Nat} (F : Fine l clock) (i : Nat) : Fine (l.eraseIdx i) clock := by
  have hs : (l.eraseIdx i).Sublist l := List.eraseIdx_sublist l i
  exact ⟨fun q hq => F.four q (hs.mem hq), F.keys.sublist (hs.map _), F.stamps.sublist (hs.map _), fun q hq => F.past q (hs.mem hq)⟩
theorem Fine.push {l : List Ent} {clock : Nat} (F : Fine l clock) (hk : k.length = 4) (hn : k ∉ l.map (·.1)) (v : Value) : Fine (l ++ [(k, v, clock)]) (clock + 1) := by
  refine ⟨fun q hq => ?_, ?_, ?_, fun q hq => ?_⟩
  · rcases List.mem_append.1 hq with h1 | h1
    · exact F.four q h1
    · simp at h1; subst h1; exact hk
  · rw [List.map_append, List.nodup_append]
    exact ⟨F.keys, by simp, fun a ha b hb => by simp at hb; subst hb; exact fun e => hn (e ▸ ha)⟩
  · rw [List.map_append, List.nodup_append]
    refine ⟨F.stamps, by simp, fun a ha b hb => ?_⟩
    simp at hb
    obtain ⟨q, hq, rfl⟩ := List.mem_map.1 ha
    have := F.past q hq
    omega
  · rcases List.mem_append.1 hq with h1 | h1
    · have := F.past q h1; omega
    · simp at h1; subst h1; exact Nat.lt_succ_self _
theorem stamp_idx : ∀ {l : List Ent} {i : Nat}, l[i]? = some p → (l.map (·.2.2)).Nodup → (l.map ent).findIdx? (fun e => (e.born : Int) == (p.2.2 : Int)) = some i
  | [], i, h, _ => by simp at h
  | q :: r, 0, h, hn => by
    simp at h
    subst h
    simp [List.findIdx?_cons, ent]
  | q :: r, i + 1, h, hn => by
    simp only [List.getElem?_cons_succ] at h
    simp only [List.map_cons, List.nodup_cons] at hn
    have hq : ¬ ((q.2.2 : Int) = (p.2.2 : Int)) := fun e => hn.1 (by rw [show q.2.2 = p.2.2 by omega]; exact List.mem_map_of_mem (List.mem_of_getElem? h))
    have ih := stamp_idx h hn.2
    rw [List.map_cons, List.findIdx?_cons, ih]
    simp [ent, hq]
theorem modify_ent {l : List Ent} {i : Nat} (h : l[i]? = some p) (g : MapEntry → MapEntry) (q : Ent) (hg : g (ent p) = ent q) : (l.map ent).toArray.modify i g = ((l.set i q).map ent).toArray := by
  apply Array.ext'
  rw [Array.toList_modify]
  apply List.ext_getElem?
  intro j
  simp only [List.getElem?_modify, List.getElem?_map, List.getElem?_set]
  by_cases hj : i = j
  · subst hj
    have hi : i < l.length := by
      rcases Nat.lt_or_ge i l.length with h1 | h1
      · exact h1
      · rw [List.getElem?_eq_none h1] at h; cases h
    have hx : l[i] = p := by rw [List.getElem?_eq_getElem hi] at h; injection h
    simp [hi, hx, hg]
  · simp [hj]
end

/-- Block b is such a map, and f tells its values. -/
def MapAt (w : World) (b : Nat) (f : List UInt8 → Option Value) : Prop := ∃ l clock, w.heap[b]? = some (.map (l.map ent).toArray clock) ∧ Fine l clock ∧ ∀ k, look l k = f k
theorem MapAt.lt {w : World} {b : Nat} {f : List UInt8 → Option Value} (h : MapAt w b f) : b < w.heap.size := by
  obtain ⟨l, clock, hb, _⟩ := h
  exact (Array.getElem?_eq_some_iff.1 hb).1
theorem MapAt.kept {w w' : World} {b : Nat} {f : List UInt8 → Option Value} {row : Option Nat} (h : MapAt w b f) (hg : w.grownBy w' row) (hne : some b ≠ row) : MapAt w' b f := by
  have hlt := h.lt
  obtain ⟨l, clock, hb, F⟩ := h
  exact ⟨l, clock, (hg.block b hlt hne).trans hb, F⟩
theorem MapAt.new (w : World) : MapAt (w.alloc (.map #[] 0)) w.heap.size (fun _ => none) :=
  ⟨[], 0, heap_alloc_new w _, ⟨fun _ h => by simp at h, by simp, by simp, fun _ h => by simp at h⟩, fun _ => rfl⟩
/-- The block is set anew. -/
def reblock (w : World) (b : Nat) (o : Obj) : World := { w with heap := w.heap.setIfInBounds b o }
theorem reblock_at {w : World} {b : Nat} (h : b < w.heap.size) (o : Obj) : (reblock w b o).heap[b]? = some o := by
  simp [reblock, h]
theorem reblock_grown (w : World) (b : Nat) (o : Obj) : w.grownBy (reblock w b o) (some b) :=
  ⟨rfl, rfl, rfl, by simp [reblock], fun k hk hne => by
    have : b ≠ k := fun e => hne (by rw [e])
    simp [reblock, Array.getElem?_setIfInBounds_ne this]⟩
theorem reblock_size (w : World) (b : Nat) (o : Obj) : (reblock w b o).heap.size = w.heap.size := by simp [reblock]

section
variable {P : Program} {T K E U : TypeId} (hT : P.underlying T = some (.map K E)) (hK : P.underlying K = some (.array 4 U)) (hU : P.underlying U = some (.int .u8)) (hcU : P.cellsOf U = 1)
  (hE : ∀ w : World, (zeroValue E).run P w = .ok (.slice none 0 0) w) {w : World} {b : Nat} {f : List UInt8 → Option Value} {k : List UInt8} (hk : k.length = 4)
include hT hK hU hcU hE hk

/-- m[k] -/
theorem MapAt.get (h : MapAt w b f) : (Instr.lookup T (.map (some b)) (dv k) false).run P w = .ok ((f k).getD (.slice none 0 0)) w := by
  obtain ⟨l, clock, hb, F, hf⟩ := h
  have hg := MapKept.run_getObj_map (P := P) hb
  have hc := fun em => run_check hK hU hcU w em k hk
  have hs := run_find hK hU hcU w k hk l F.four
  unfold Instr.lookup
  simp only [Sem.run_bind, run_underlying hT, hg, Result.andThen_ok, Sem.run_pure, hc, hs]
  rcases fnd_spec k l 0 with ⟨h1, h2, _⟩ | ⟨j, p, h1, _, _, h4⟩
  · rw [hf] at h2
    simp [h1, h2, hE w]
  · rw [hf] at h4
    simp [h1, h4]
/-- m[k] = v, where there is an entry. -/
theorem MapAt.put (h : MapAt w b f) (hin : f k ≠ none) (v : Value) : ∃ w', (Instr.mapUpdate T (.map (some b)) (dv k) v).run P w = .ok () w' ∧ MapAt w' b (upd f k (some v)) ∧ w.grownBy w' (some b) ∧ w'.heap.size = w.heap.size := by
  have hlt := h.lt
  obtain ⟨l, clock, hb, F, hf⟩ := h
  have hg := MapKept.run_getObj_map (P := P) hb
  have hc := fun em => run_check hK hU hcU w em k hk
  have hs := run_find hK hU hcU w k hk l F.four
  rcases fnd_spec k l 0 with ⟨h1, h2, _⟩ | ⟨j, p, h1, h2, rfl, h4⟩
  · rw [hf] at h2; exact absurd h2 hin
  · have hget : (((l.map ent).toArray)[j]?).map (·.key) = some (dv p.1) := by simp [h2, ent]
    have hset := fun o => MapKept.run_setObj_map (P := P) o hb
    have hm := modify_ent h2 (fun e => { e with key := dv p.1, val := v }) (p.1, v, p.2.2) rfl
    refine ⟨reblock w b (.map ((l.set j (p.1, v, p.2.2)).map ent).toArray clock), ?_, ⟨_, _, reblock_at hlt _, F.set h2 v, fun k' => by rw [look_set h2 rfl F.keys, hf]; rfl⟩, reblock_grown _ _ _, reblock_size _ _ _⟩
    unfold Instr.mapUpdate
    simp only [Sem.run_bind, run_underlying hT, hg, Result.andThen_ok, hc, hs, h1, Nat.zero_add]
    rw [hget]
    simp only [Option.getD_some, Instr.keyThatStays, sameBits_dv, if_true, Sem.run_pure, Result.andThen_ok]
    rw [hset, hm]
    rfl
/-- delete(m, k) -/
theorem MapAt.del (h : MapAt w b f) (hin : f k ≠ none) (ty kt : TypeId) : ∃ w', (Builtin.delete_ #[T, kt] ty #[.map (some b), dv k]).run P w = .ok (.tuple #[]) w' ∧ MapAt w' b (upd f k none) ∧ w.grownBy w' (some b) ∧ w'.heap.size = w.heap.size := by
  have hlt := h.lt
  obtain ⟨l, clock, hb, F, hf⟩ := h
  have hg := MapKept.run_getObj_map (P := P) hb
  have hc := fun em => run_check hK hU hcU w em k hk
  have hs := run_find hK hU hcU w k hk l F.four
  rcases fnd_spec k l 0 with ⟨h1, h2, _⟩ | ⟨j, p, h1, h2, rfl, h4⟩
  · rw [hf] at h2; exact absurd h2 hin
  · have hset := fun o => MapKept.run_setObj_map (P := P) o hb
    have hj : j < l.length := by
      rcases Nat.lt_or_ge j l.length with h | h
      · exact h
      · rw [List.getElem?_eq_none h] at h2; cases h2
    have hm : (l.map ent).toArray.eraseIdxIfInBounds j = ((l.eraseIdx j).map ent).toArray := by
      apply Array.ext'
      simp [Array.eraseIdxIfInBounds, hj, erase_map]
    refine ⟨reblock w b (.map ((l.eraseIdx j).map ent).toArray clock), ?_, ⟨_, _, reblock_at hlt _, F.erase j, fun k' => by rw [look_erase h2 rfl F.keys, hf]; rfl⟩, reblock_grown _ _ _, reblock_size _ _ _⟩
    unfold Builtin.delete_
    simp only [List.getElem?_toArray, List.getElem?_cons_zero, List.getElem?_cons_succ]
    simp only [Sem.run_bind, run_underlying hT, hg, Result.andThen_ok, hc, hs, h1, Nat.zero_add, hset, hm, Sem.run_pure]
    rfl
/-- The entry of k, be it there or made; what is stored there then. -/
theorem MapAt.entry (h : MapAt w b f) : ∃ w1 born, (Instr.mapEntry T (.map (some b)) (dv k)).run P w = .ok (.tuple #[(f k).getD (.slice none 0 0), born]) w1 ∧ w.grownBy w1 (some b) ∧ w1.heap.size = w.heap.size ∧
    ∀ (w2 : World) (row : Option Nat) (v : Value), w1.grownBy w2 row → some b ≠ row → ∃ w3, (Instr.entryStore T (.map (some b)) born v).run P w2 = .ok () w3 ∧ MapAt w3 b (upd f k (some v)) ∧ w2.grownBy w3 (some b) ∧ w3.heap.size = w2.heap.size := by
  have hlt := h.lt
  obtain ⟨l, clock, hb, F, hf⟩ := h
  have hg := MapKept.run_getObj_map (P := P) hb
  have hc := fun em => run_check hK hU hcU w em k hk
  have hs := run_find hK hU hcU w k hk l F.four
  have hset := fun o => MapKept.run_setObj_map (P := P) o hb
  -- the way back
  have back : ∀ (l1 : List Ent) (c1 j : Nat) (p : Ent), Fine l1 c1 → l1[j]? = some p → p.1 = k → (∀ k', k' ≠ k → look l1 k' = f k') → ∀ (w2 : World) (row : Option Nat) (v : Value),
      (reblock w b (.map (l1.map ent).toArray c1)).grownBy w2 row → some b ≠ row → ∃ w3, (Instr.entryStore T (.map (some b)) (goInt p.2.2) v).run P w2 = .ok () w3 ∧ MapAt w3 b (upd f k (some v)) ∧ w2.grownBy w3 (some b) ∧ w3.heap.size = w2.heap.size := by
    intro l1 c1 j p F1 hj hp hl w2 row v hg2 hne
    have hb2 : w2.heap[b]? = some (.map (l1.map ent).toArray c1) := (hg2.block b (by rw [reblock_size]; exact hlt) hne).trans (reblock_at hlt _)
    have hlt2 : b < w2.heap.size := (Array.getElem?_eq_some_iff.1 hb2).1
    have hm := modify_ent hj (fun e => { e with val := v }) (p.1, v, p.2.2) rfl
    have hix : ((l1.map ent).toArray).findIdx? (fun e => (e.born : Int) == (p.2.2 : Int)) = some j := by
      rw [List.findIdx?_toArray]; exact stamp_idx hj F1.stamps
    refine ⟨reblock w2 b (.map ((l1.set j (p.1, v, p.2.2)).map ent).toArray c1), ?_, ⟨_, _, reblock_at hlt2 _, F1.set hj v, fun k' => ?_⟩, reblock_grown _ _ _, reblock_size _ _ _⟩
    · unfold Instr.entryStore
      simp only [Sem.run_bind, MapKept.run_getObj_map (P := P) hb2, Result.andThen_ok, goInt, asInt, asIntOf, Sem.run_pure]
      rw [hix]
      simp only [MapKept.run_setObj_map (P := P) _ hb2, hm]
      rfl
    · rw [hp, look_set hj hp F1.keys]
      unfold upd
      by_cases hk' : k' = k
      · rw [if_pos hk', if_pos hk']
      · rw [if_neg hk', if_neg hk', hl k' hk']
  rcases fnd_spec k l 0 with ⟨h1, h2, h3⟩ | ⟨j, p, h1, h2, rfl, h4⟩
  · have hnot : k ∉ l.map (·.1) := fun hm => by
      obtain ⟨q, hq, e⟩ := List.mem_map.1 hm
      exact h3 q hq e
    refine ⟨reblock w b (.map ((l ++ [(k, Value.slice none 0 0, clock)]).map ent).toArray (clock + 1)), goInt clock, ?_, reblock_grown _ _ _, reblock_size _ _ _, back _ _ l.length (k, Value.slice none 0 0, clock) (F.push hk hnot _) (by simp) rfl fun k' hk' => ?_⟩
    · rw [hf] at h2
      unfold Instr.mapEntry
      simp only [Sem.run_bind, run_underlying hT, hg, Result.andThen_ok, hc, hs, h1, hE, hset, Sem.run_pure, h2, Option.getD_none]
      congr 1
      unfold reblock
      simp [ent]
    · rw [look_push hnot, if_neg hk', hf]
  · have hget : (((l.map ent).toArray)[j]?).map (·.key) = some (dv p.1) := by simp [h2, ent]
    have hgetb : (((l.map ent).toArray)[j]?).map (fun x => (x.born : Int)) = some (p.2.2 : Int) := by simp [h2, ent]
    have hm := modify_ent h2 (fun e => { e with key := dv p.1 }) p rfl
    have hsm : l.set j p = l := by
      have := set_map id l j p (by simpa using h2)
      simpa using this
    rw [hsm] at hm
    refine ⟨reblock w b (.map (l.map ent).toArray clock), goInt p.2.2, ?_, reblock_grown _ _ _, reblock_size _ _ _, back _ _ j p F h2 rfl fun k' hk' => hf k'⟩
    rw [hf] at h4
    unfold Instr.mapEntry
    simp only [Sem.run_bind, run_underlying hT, hg, Result.andThen_ok, hc, hs, h1, Nat.zero_add, h4, Option.getD_some]
    rw [hget, hgetb]
    simp only [Option.getD_some, Instr.keyThatStays, sameBits_dv, if_true, Sem.run_pure, Result.andThen_ok]
    rw [hset, hm]
    rfl
end
end Go.Proofs.YtbcldknecdbemaaGreatDoor

/-
  Cuts of a slice whose elements have one cell (of no program), whatever the bounds: where what is cut out lies.
-/
namespace Go.Proofs.YtbcldknecdbemaaGreatDoor
open Go.RowKit
set_option linter.unusedVariables false
set_option maxRecDepth 20000
set_option linter.unusedSectionVars false

section
variable {P : Program} {t e : TypeId} (ht : P.underlying t = some (.slice e)) (hs : (P.info? e).map (·.size) = some 1) (A : Option Addr) (n c : Nat)
include ht hs
/-- b[l:h] -/
theorem cut_mid (k k' : IntKind) (lo hi : Int) (l h : Nat) (hlo : lo = (l : Int)) (hhi : hi = (h : Int)) (h1 : l ≤ h) (h2 : h ≤ c) :
    ∃ A' : Option Addr, (∀ u, (Instr.sliceAt t (.slice A n c) (some (.int k lo)) (some (.int k' hi)) none).run P u = .ok (.slice A' (h - l) (c - l)) u) ∧
      ∀ (w : World) (B : Nat) (vs : List Value), Lies w B A vs → Lies w B A' ((vs.drop l).take (h - l)) := by
  subst hlo hhi
  have ht' : P.underlying t = some (.slice (P.elem t)) := by rw [elem_of ht hs]; exact ht
  refine ⟨if c = l then A else A.map (·.add l), fun u => ?_, fun w B vs hL => ?_⟩
  · rw [run_sliceAt_slice u t _ _ _ _ ht', run_slice_lh u t A n c ht' k k' l h (by omega) (by omega) (by omega), size_of_elem ht hs]
    simp [Result.andThen, sliced]
  · split
    · rw [show h - l = 0 by omega]
      simp [Lies.empty]
    · exact (hL.from_ l).take _
/-- b[l:] -/
theorem cut_from (k : IntKind) (lo : Int) (l : Nat) (hlo : lo = (l : Int)) (h1 : l ≤ n) (h2 : n ≤ c) :
    ∃ A' : Option Addr, (∀ u, (Instr.sliceAt t (.slice A n c) (some (.int k lo)) none none).run P u = .ok (.slice A' (n - l) (c - l)) u) ∧
      ∀ (w : World) (B : Nat) (vs : List Value), vs.length = n → Lies w B A vs → Lies w B A' (vs.drop l) := by
  subst hlo
  have ht' : P.underlying t = some (.slice (P.elem t)) := by rw [elem_of ht hs]; exact ht
  refine ⟨if c = l then A else A.map (·.add l), fun u => ?_, fun w B vs hv hL => ?_⟩
  · rw [run_sliceAt_slice u t _ _ _ _ ht', run_slice_l u t A n c ht' k l (by omega) (by omega), size_of_elem ht hs]
    simp [Result.andThen, sliced]
  · split
    · rw [List.drop_eq_nil_of_le (by omega)]
      exact Lies.empty
    · exact hL.from_ l
/-- b[:h] -/
theorem cut_to (k : IntKind) (hi : Int) (h : Nat) (hhi : hi = (h : Int)) (h2 : h ≤ c) (u : World) : (Instr.sliceAt t (.slice A n c) none (some (.int k hi)) none).run P u = .ok (.slice A h c) u := by
  subst hhi
  exact run_cut_to ht hs A n c h k h2 u
end
/-- What a cut b[l:] leads to, as a walk spells it. -/
theorem Lies.cut {w : World} {B : Nat} {A : Option Addr} {vs : List Value} (h : Lies w B A vs) {l c : Nat} (hv : vs.length ≤ c) : Lies w B (if c = l then A else A.map (·.add l)) (vs.drop l) := by
  split
  · rw [List.drop_eq_nil_of_le (by omega)]
    exact Lies.empty
  · exact h.from_ l
end Go.Proofs.YtbcldknecdbemaaGreatDoor

/-
  The longest match among places that are given, as a function of lists (of no program).
-/
namespace Go.Proofs.YtbcldknecdbemaaGreatDoor
set_option linter.unusedVariables false
set_option maxRecDepth 20000

/-- One distance more is looked at. -/
def bstep (b : List UInt8) (i : Nat) (acc : Nat × Nat) (d : Nat) : Nat × Nat := if 4 ≤ mlen b i d ∧ acc.1 < mlen b i d then (mlen b i d, d) else acc
/-- The longest match at i that begins at one of these places, the last ones first. -/
def lgo (b : List UInt8) (i : Nat) (js : List Nat) : Nat × Nat := js.foldr (fun j acc => bstep b i acc (i - j)) (0, 0)
theorem lgo_nil (b : List UInt8) (i : Nat) : lgo b i [] = (0, 0) := rfl
theorem lgo_cons (b : List UInt8) (i j : Nat) (js : List Nat) : lgo b i (j :: js) = bstep b i (lgo b i js) (i - j) := rfl
theorem lgo_drop {b : List UInt8} {i k j : Nat} {js : List Nat} (h : js[k]? = some j) : lgo b i (js.drop k) = bstep b i (lgo b i (js.drop (k + 1))) (i - j) := by
  have hk : k < js.length := by
    rcases Nat.lt_or_ge k js.length with h1 | h1
    · exact h1
    · rw [List.getElem?_eq_none h1] at h; cases h
  rw [List.drop_eq_getElem_cons hk, lgo_cons]
  rw [List.getElem?_eq_getElem hk] at h
  injection h with h
  rw [h]
theorem bstep_le {b : List UInt8} {i d : Nat} {acc : Nat × Nat} (h : acc.1 ≤ 131) : (bstep b i acc d).1 ≤ 131 := by
  unfold bstep
  split
  · exact mlen_le _ _ _
  · exact h
theorem lgo_le (b : List UInt8) (i : Nat) : ∀ js, (lgo b i js).1 ≤ 131
  | [] => by simp [lgo]
  | j :: js => by rw [lgo_cons]; exact bstep_le (lgo_le b i js)
theorem bstep_full {b : List UInt8} {i d : Nat} {acc : Nat × Nat} (h : ¬ acc.1 < 131) : bstep b i acc d = acc := by
  unfold bstep
  have := mlen_le b i d
  rw [if_neg (by omega)]
theorem lgo_full {b : List UInt8} {i : Nat} {js : List Nat} : ∀ m, ¬ (lgo b i (js.drop m)).1 < 131 → lgo b i js = lgo b i (js.drop m)
  | 0, _ => rfl
  | m + 1, h => by
    by_cases hm : m < js.length
    · have e : lgo b i (js.drop m) = lgo b i (js.drop (m + 1)) := by
        rw [lgo_drop (List.getElem?_eq_getElem hm), bstep_full h]
      rw [← e]
      exact lgo_full m (by rw [e]; exact h)
    · rw [List.drop_eq_nil_of_le (by omega)] at h
      simp [lgo] at h
theorem lgo_dist (b : List UInt8) (i : Nat) : ∀ js, (lgo b i js).2 ≤ i
  | [] => by simp [lgo]
  | j :: js => by
    rw [lgo_cons]
    unfold bstep
    split
    · exact Nat.sub_le _ _
    · exact lgo_dist b i js
theorem lgo_all (b : List UInt8) (i : Nat) : ∀ m, m ≤ i → lgo b i (List.range' (i - m) m) = bestTo b i m
  | 0, _ => rfl
  | m + 1, h => by
    rw [List.range'_succ, lgo_cons, show i - (m + 1) + 1 = i - m by omega, lgo_all b i m (by omega), show i - (i - (m + 1)) = m + 1 by omega]
    rfl
theorem lgo_match {b : List UInt8} {i : Nat} (h : i < b.length) : lgo b i (List.range' (i - min i 1024) (min i 1024)) = matchOf b i := by
  rw [lgo_all b i _ (by omega)]
  unfold matchOf
  rw [if_pos h]
/-- Places at which fewer than four bytes are alike count nothing. -/
theorem lgo_filter {b : List UInt8} {i : Nat} {p : Nat → Bool} : ∀ (js : List Nat), (∀ j ∈ js, p j = false → mlen b i (i - j) < 4) → lgo b i (js.filter p) = lgo b i js
  | [], _ => rfl
  | j :: js, h => by
    have ih := lgo_filter js (fun k hk => h k (by simp [hk]))
    by_cases hp : p j = true
    · rw [List.filter_cons_of_pos hp, lgo_cons, lgo_cons, ih]
    · have hp' : p j = false := by simpa using hp
      have h4 := h j (by simp) hp'
      rw [List.filter_cons_of_neg hp, lgo_cons, ih]
      unfold bstep
      rw [if_neg (by omega)]
end Go.Proofs.YtbcldknecdbemaaGreatDoor

/-
  Contracts of lz's alike, longest and Match.
-/
namespace Go.Proofs.YtbcldknecdbemaaGreatDoor
open Go.RowKit
set_option linter.unusedVariables false
set_option maxRecDepth 20000

theorem ret_i64 {a b : Int} (h : a = b) : Ending.returned (.int .i64 a) = .returned (.int .i64 b) := by rw [h]
/-- An int as a value. -/
abbrev iv (n : Nat) : Value := .int .i64 (n : Int)
theorem iv_one (l : List Nat) : ∀ u ∈ l.map iv, u.oneCell' = true := fun u hu => by
  obtain ⟨b, _, rfl⟩ := List.mem_map.1 hu
  rfl
theorem int_info : (Tryz.prog.info? 3).map (fun i => (i.zero, i.size, i.bytes)) = some (some (.int .i64 0), 1, 8) := by kernel_rfl

set_option maxRecDepth 20000 in
set_option maxHeartbeats 1000000 in
theorem alike_any (A : Option Addr) (n c i d : Nat) (bs : List UInt8) (w : World) (hl : bs.length = n) (hr : Lies w w.heap.size A (bs.map bv)) (hi : i < n) (hd1 : 1 ≤ d) (hd : d ≤ i) (hn : n ≤ 1000000000000) :
    Calls Tryz.prog 166 #[.slice A n c, .int .i64 (i : Int), .int .i64 (d : Int)] w fun e w' => e = .returned (.int .i64 (mlen bs i d : Int)) ∧ Grows w w' := by
  have HL := Lib.hid hl
  have HM : Hid (mgo bs i d (131 - 0) 0 = mlen bs i d) := rfl
  clear hl
  generalize mlen bs i d = want at *
  obtain ⟨most, hmost⟩ : ∃ most, most = min 131 (n - i) := ⟨_, rfl⟩
  have hmi : min (131 : Int) ((n : Int) - (i : Int)) = (most : Int) := by omega
  go_enter Tryz.func166, Tryz.ntmps166
  by_cases h131 : (131 : Int) ≤ (n : Int) - (i : Int)
  all_goals
    go_wp2
    go_loopw [8] (fun q wr => ∃ k : Nat, q = .int .i64 k ∧ k ≤ most ∧ Hid (mgo bs i d (131 - k) k = want) ∧ Grows w wr) (fun q _ => 131 - (intOf q).toNat)
    case atStart => exact ⟨0, rfl, by omega, HM.out, Grows.refl _⟩
    case round =>
      obtain ⟨k, rfl, hk, HK, hgr⟩ := hrel
      by_cases hlt : k < most
      · obtain ⟨x, hx⟩ : ∃ x, bs[i + k]? = some x := ⟨_, List.getElem?_eq_getElem (by rw [HL.out]; omega)⟩
        obtain ⟨y, hy⟩ : ∃ y, bs[i + k - d]? = some y := ⟨_, List.getElem?_eq_getElem (by rw [HL.out]; omega)⟩
        obtain ⟨ad, eA, _, cx⟩ := (hr.later hgr).at_ (j := i + k) (u := bv x) (by rw [List.getElem?_map, hx]; rfl)
        obtain ⟨ad', eA', _, cy⟩ := (hr.later hgr).at_ (j := i + k - d) (u := bv y) (by rw [List.getElem?_map, hy]; rfl)
        obtain rfl : ad = ad' := by rw [eA] at eA'; injection eA'
        subst eA
        have k0 : (0 : Int) ≤ (i : Int) + (k : Int) := by omega
        have k1 : (i : Int) + (k : Int) < (n : Int) := by omega
        have k2 : (0 : Int) ≤ (i : Int) + (k : Int) - (d : Int) := by omega
        have k3 : (i : Int) + (k : Int) - (d : Int) < (n : Int) := by omega
        have t1 : ((i : Int) + (k : Int)).toNat = i + k := by omega
        have t2 : ((i : Int) + (k : Int) - (d : Int)).toNat = i + k - d := by omega
        have l1 : (k : Int) < 131 := by omega
        have l2 : (k : Int) < (n : Int) - (i : Int) := by omega
        by_cases hxy : x = y
        · have hb : ((x.toNat : Int) == (y.toNat : Int)) = true := by simp [hxy]
          have HS : Hid (mgo bs i d (131 - (k + 1)) (k + 1) = want) := by
            show _ = _
            rw [← mgo_go (by omega) (by rw [HL.out]; omega) (by rw [hx, hy, hxy])]; exact HK.out
          clear hx hy HK hxy
          go_wp2
          go_quiet (fail)
          go_wp2
          go_roundw
          case rel => exact ⟨k + 1, by go_num, by omega, HS.out, below_draws hgr⟩
          case measure => simp [intOf]; omega
        · have hb : ((x.toNat : Int) == (y.toNat : Int)) = false := by
            rw [beq_eq_false_iff_ne]
            intro e; exact hxy (UInt8.toNat_inj.1 (by omega))
          have HS : Hid (k = want) := by
            show _ = _
            rw [← HK.out, mgo_end (fun h => by have := h.2.2; rw [hx, hy] at this; injection this with this; exact hxy this)]
          clear hx hy HK hxy
          go_wp2
          go_quiet (fail)
          go_wp2
          go_ret
          exact ⟨ret_i64 (by rw [← HS.out]), below_draws hgr⟩
      · have HS : Hid (k = want) := by
          show _ = _
          rw [← HK.out, mgo_end (fun h => by have h1 := h.1; have h2 := h.2.1; rw [HL.out] at h2; omega)]
        first
          | (have l1 : decide ((k : Int) < 131) = false := by rw [decide_eq_false_iff_not]; omega
             go_wp2
             go_quiet (fail)
             go_wp2
             go_ret
             exact ⟨ret_i64 (by rw [← HS.out]), below_draws hgr⟩)
          | (have l1 : decide ((k : Int) < (n : Int) - (i : Int)) = false := by rw [decide_eq_false_iff_not]; omega
             go_wp2
             go_quiet (fail)
             go_wp2
             go_ret
             exact ⟨ret_i64 (by rw [← HS.out]), below_draws hgr⟩)

set_option maxRecDepth 20000 in
set_option maxHeartbeats 1000000 in
theorem longest_any (A : Option Addr) (n c i : Nat) (bs : List UInt8) (A2 : Option Addr) (m c2 : Nat) (js : List Nat) (w : World) (hl : bs.length = n) (hr : Lies w w.heap.size A (bs.map bv)) (hj : js.length = m) (hr2 : Lies w w.heap.size A2 (js.map iv))
    (hlt : ∀ j ∈ js, j < i) (hi : i < n) (hn : n ≤ 1000000000000) (hm : m ≤ 1000000000000) :
    Calls Tryz.prog 136 #[.slice A n c, .int .i64 (i : Int), .slice A2 m c2] w fun e w' => e = .returned (.tuple #[iv (lgo bs i js).1, iv (lgo bs i js).2]) ∧ Grows w w' := by
  have HL := Lib.hid hl
  have HJ := Lib.hid hj
  have HT := Lib.hid hlt
  have HA := Lib.hid (fun (d : Nat) (hd1 : 1 ≤ d) (hd : d ≤ i) (u : World) (hu : Lies u u.heap.size A (bs.map bv)) => alike_any A n c i d bs u hl hu hi hd1 hd hn)
  have HQ : Hid ((0, 0) = lgo bs i (js.drop m)) := by show _ = _; rw [List.drop_eq_nil_of_le (by omega)]; rfl
  clear hl hj hlt
  go_enter Tryz.func136, Tryz.ntmps136
  go_wp2
  go_loopw [8, 9, 10, 11, 12] (fun a b q _ _ wr => ∃ (x y k : Nat), a = iv x ∧ b = iv y ∧ q = .int .i64 ((k : Int) - 1) ∧ k ≤ m ∧ Hid ((x, y) = lgo bs i (js.drop k)) ∧ Grows w wr) (fun _ _ q _ _ _ => (intOf q + 1).toNat)
  case atStart => exact ⟨0, 0, m, rfl, rfl, rfl, Nat.le_refl _, HQ.out, Grows.refl _⟩
  case round =>
    obtain ⟨x, y, k, rfl, rfl, rfl, hk, HK, hgr⟩ := hrel
    by_cases hk0 : k = 0
    · subst hk0
      have HX : Hid (lgo bs i js = (x, y)) := HK.out.symm
      clear HK
      go_wp2
      go_ret2
      rw [HX.out]
      exact ⟨rfl, hgr⟩
    · obtain ⟨j0, rfl⟩ : ∃ j0, k = j0 + 1 := ⟨k - 1, by omega⟩
      rw [show ((j0 + 1 : Nat) : Int) - 1 = (j0 : Int) by omega]
      by_cases hx : x < 131
      · obtain ⟨j, hjj⟩ : ∃ j, js[j0]? = some j := ⟨_, List.getElem?_eq_getElem (by rw [HJ.out]; omega)⟩
        have hji := HT.out j (List.mem_of_getElem? hjj)
        obtain ⟨ad, rfl, _, cx⟩ := (hr2.later hgr).at_ (j := j0) (u := iv j) (by rw [List.getElem?_map, hjj]; rfl)
        have HD := Lib.hid (lgo_drop (b := bs) (i := i) hjj)
        clear hjj
        have j1 : (j0 : Int) < (m : Int) := by omega
        obtain ⟨d, hd⟩ : ∃ d, d = i - j := ⟨_, rfl⟩
        have hd' : (i : Int) - (j : Int) = (d : Int) := by omega
        have hdd : 1 ≤ d ∧ d ≤ i := by omega
        have HDD := Lib.hid hd
        clear hd
        go_wp2_with fail
        refine (HA.out d hdd.1 hdd.2 _ (hr.later hgr)).mono ?_
        rintro e w2 ⟨rfl, hg2⟩
        have hg12 := Grows.trans hgr hg2
        rw [← HDD.out, ← HK.out] at HD
        have hml := mlen_le bs i d
        unfold bstep at HD
        generalize mlen bs i d = q at *
        clear hg2 cx hd'
        by_cases hq : 4 ≤ q
        · by_cases hq2 : x < q
          · have HN : Hid ((q, d) = lgo bs i (js.drop j0)) := by show _ = _; rw [HD.out, if_pos ⟨hq, hq2⟩]
            clear HD HK
            go_wp2_with fail
            go_roundw
            case rel => exact ⟨q, d, j0, rfl, rfl, by go_num, by omega, HN.out, hg12⟩
            case measure => simp [intOf]
          · have HN : Hid ((x, y) = lgo bs i (js.drop j0)) := by show _ = _; rw [HD.out, if_neg (by simp only []; omega)]
            clear HD HK
            go_wp2_with fail
            go_roundw
            case rel => exact ⟨x, y, j0, rfl, rfl, by go_num, by omega, HN.out, hg12⟩
            case measure => simp [intOf]
        · have HN : Hid ((x, y) = lgo bs i (js.drop j0)) := by show _ = _; rw [HD.out, if_neg (by omega)]
          clear HD HK
          go_wp2_with fail
          go_roundw
          case rel => exact ⟨x, y, j0, rfl, rfl, by go_num, by omega, HN.out, hg12⟩
          case measure => simp [intOf]
      · have HX : Hid (lgo bs i js = (x, y)) := by
          show _ = _
          rw [HK.out]
          exact lgo_full (j0 + 1) (by rw [← HK.out]; exact hx)
        clear HK
        go_wp2
        go_ret2
        rw [HX.out]
        exact ⟨rfl, hgr⟩
end Go.Proofs.YtbcldknecdbemaaGreatDoor

/-
  Contracts of lz's putLiterals and putMatch: what is put behind bytes that the call owns.
-/
namespace Go.Proofs.YtbcldknecdbemaaGreatDoor
open Go.RowKit
set_option linter.unusedVariables false
set_option maxRecDepth 20000

theorem byte_oneL : (Tryz.prog.info? 5).map (·.size) = some 1 := by kernel_rfl
theorem int_one : (Tryz.prog.info? 3).map (·.size) = some 1 := by kernel_rfl

/-- From v in w to v' in w': nothing but v's own block has turned, and v' lies there or in a new one. -/
structure Wrote (v v' : Value) (w w' : World) : Prop where
  grown : w.grownBy w' v.ownBlock
  at_ : v'.ownBlock = v.ownBlock ∨ ∃ g, v'.ownBlock = some g ∧ w.heap.size ≤ g
theorem Wrote.refl (v : Value) (w : World) : Wrote v v w w := ⟨World.grownBy.refl w _, .inl rfl⟩
theorem Wrote.trans {v v1 v2 : Value} {w w1 w2 : World} (h : Wrote v v1 w w1) (k : Wrote v1 v2 w1 w2) : Wrote v v2 w w2 := by
  have hs := h.grown.size
  refine ⟨h.grown.andThen k.grown fun j hj => ?_, ?_⟩
  · rcases h.at_ with e | ⟨g, e, hg⟩
    · exact .inr (e ▸ hj)
    · rw [e] at hj; injection hj with hj; exact .inl (by omega)
  · rcases k.at_ with e | ⟨g, e, hg⟩
    · rcases h.at_ with e' | ⟨g', e', hg'⟩
      · exact .inl (e.trans e')
      · exact .inr ⟨g', e.trans e', hg'⟩
    · exact .inr ⟨g, e, by omega⟩
theorem Wrote.app {v v' : Value} {w w' : World} (hg : w.grownBy w' v.ownBlock) (hat : v'.ownBlock = v.ownBlock ∨ v'.ownBlock = some w.heap.size) : Wrote v v' w w' :=
  ⟨hg, hat.imp_right fun e => ⟨_, e, Nat.le_refl _⟩⟩
theorem grows_by {w w' : World} (h : Grows w w') (row : Option Nat) : w.grownBy w' row := ⟨h.os, h.tape, h.output, h.size, fun k hk _ => h.block k hk⟩
theorem Wrote.later {v v' : Value} {w w1 w' : World} (h : Grows w w1) (k : Wrote v v' w1 w') : Wrote v v' w w' := Wrote.trans ⟨grows_by h _, .inl rfl⟩ k
theorem Wrote.then_ {v v' : Value} {w w1 w' : World} (k : Wrote v v' w w1) (h : Grows w1 w') : Wrote v v' w w' := Wrote.trans k ⟨grows_by h _, .inl rfl⟩
theorem Wrote.below {v v' : Value} {w w' : World} {B : Nat} (h : Wrote v v' w w') (hB : B ≤ w.heap.size) (hv : ∀ g, v.ownBlock = some g → B ≤ g) : Below B w w' := (Below.refl B w).grown h.grown hB hv

def slen : Value → Nat
  | .slice _ n _ => n
  | _ => 0

set_option maxRecDepth 20000 in
set_option maxHeartbeats 2000000 in
theorem putlits_any (v : Value) (base m : Nat) (out : List UInt8) (A : Option Addr) (n c : Nat) (bs : List UInt8) (w : World) (hown : w.ownsRow base 5 1 v m (out.map bv)) (hl : bs.length = n) (hr : Lies w base A (bs.map bv)) (hc : n ≤ c)
    (hb : base ≤ w.heap.size) (hn : m + 2 * n ≤ 1000000000000) :
    Calls Tryz.prog 138 #[v, .slice A n c] w fun e w' => ∃ v', e = .returned v' ∧ w'.ownsRow base 5 1 v' (out ++ lits bs).length ((out ++ lits bs).map bv) ∧ Wrote v v' w w' := by
  obtain ⟨i0, hi0, hz0, hz1, hz2⟩ := info_parts byte_info
  have hm : out.length = m := by simpa using hown.1
  have HL := Lib.hid hl
  subst hm
  have HF : Hid (out ++ lits bs = out ++ lits (bs.drop 0)) := rfl
  clear hl
  obtain ⟨W, hW⟩ : ∃ W, W = out ++ lits bs := ⟨_, rfl⟩
  rw [← hW] at HF ⊢
  clear hW
  go_enter Tryz.func138, Tryz.ntmps138
  go_wp2
  go_loopw [0, 1, 5] (fun p l _ wr => ∃ (j : Nat) (o' : List UInt8) (A' : Option Addr) (c' : Nat), j ≤ n ∧ l = .slice A' (n - j) c' ∧ n - j ≤ c' ∧ Lies wr base A' ((bs.drop j).map bv) ∧ Hid (W = o' ++ lits (bs.drop j)) ∧ o'.length ≤ out.length + 2 * j ∧
      wr.ownsRow base 5 1 p o'.length (o'.map bv) ∧ Wrote v p w wr) (fun _ l _ _ => slen l)
  case atStart => exact ⟨0, out, A, c, Nat.zero_le _, rfl, hc, hr, HF.out, by omega, hown, Wrote.refl _ _⟩
  case round =>
    obtain ⟨j, o', A', c', hj, rfl, hc', hL, HO, hol, hown', hw⟩ := hrel
    by_cases hlt : j < n
    · obtain ⟨k, hk⟩ : ∃ k, k = min 128 (n - j) := ⟨_, rfl⟩
      have hmin : (if ((n - j : Nat) : Int) < 128 then ((n - j : Nat) : Int) else 128) = (k : Int) := by split <;> omega
      have hpos : (0 : Int) < ((n - j : Nat) : Int) := by omega
      have hk1 : 1 ≤ k ∧ k ≤ 128 ∧ k ≤ n - j := by omega
      have hbyte : (k : Int) - 1 = ((UInt8.ofNat (k - 1)).toNat : Int) := by rw [UInt8.toNat_ofNat']; omega
      have HNE : Hid (bs.drop j ≠ []) := fun h0 => by have := congrArg List.length h0; rw [List.length_drop, HL.out] at this; simp at this; omega
      have HST : Hid (lits (bs.drop j) = [UInt8.ofNat (k - 1)] ++ (bs.drop j).take k ++ lits (bs.drop (j + k))) := by
        show _ = _
        have e1 : (bs.drop j).take 128 = (bs.drop j).take k := by
          rcases Nat.lt_or_ge 128 (n - j) with h | h
          · rw [show k = 128 by omega]
          · rw [List.take_of_length_le (by rw [List.length_drop, HL.out]; omega), List.take_of_length_le (by rw [List.length_drop, HL.out]; omega)]
        have e2 : (bs.drop j).drop 128 = (bs.drop (j + k)) := by
          rw [List.drop_drop]
          rcases Nat.lt_or_ge 128 (n - j) with h | h
          · rw [show k = 128 by omega]
          · rw [List.drop_eq_nil_of_le (by rw [HL.out]; omega), List.drop_eq_nil_of_le (by rw [HL.out]; omega)]
        rw [lits_more HNE.out, e1, e2, List.length_take, List.length_drop, HL.out, Nat.min_eq_left (by omega)]
        simp
      have HPL : Hid (((bs.drop j).take k).length = k) := by show _ = _; rw [List.length_take, List.length_drop, HL.out]; omega
      have hLt : Lies wr base A' (((bs.drop j).take k).map bv) := by rw [List.map_take]; exact hL.take k
      have hct := cut_to (P := Tryz.prog) Tryz.underlying27 byte_oneL A' (n - j) c' .i64 (k : Int) k rfl (by omega)
      have HCT := Lib.hid hct
      clear hct
      generalize (bs.drop j).take k = piece at *
      generalize UInt8.ofNat (k - 1) = q at *
      have hq8 := q.toNat_lt
      have HK := Lib.hid hk
      clear hk
      have hnew := Lies.new wr 5 [bv q]
      have hwb : base ≤ wr.heap.size := Nat.le_trans hb hw.grown.size
      go_wp2_with (first
        | (with_reducible refine wpList_cut rfl 27 (.tmp 19) none (some (.tmp 20)) none rfl _ (HCT.out _) ?_)
        | (at_builtin; refine wpList_append_src _ rfl (.tmp 12) (.tmp 16) _ rfl base 5 i0 _ 1 Tryz.underlying27 hi0 hz0 hz1 hz2 rfl _ o'.length _ rfl (hown'.alloc _) _ _ 1 1 [bv q] rfl rfl hnew (by simp [Value.oneCell']) (by unfold maxLen; omega) (by omega) (by rw [World.size_alloc]; omega) ?_; intro v1 w1 hown1 hg1 hat1)
        | (at_builtin; refine wpList_append_src _ rfl (.tmp 18) (.tmp 21) _ rfl base 5 i0 _ 1 Tryz.underlying27 hi0 hz0 hz1 hz2 rfl _ (o'.length + 1) _ rfl hown1 base A' k c' (piece.map bv) rfl (by rw [List.length_map]; exact HPL.out) (hLt.below (Wrote.below (Wrote.later (grows_alloc _ _) (Wrote.app hg1 hat1)) hwb (own_ge hown'))) (bv_one piece) (by unfold maxLen; omega) (by omega) (Nat.le_trans hwb (Wrote.later (grows_alloc _ _) (Wrote.app hg1 hat1)).grown.size) ?_; intro v2 w2 hown2 hg2 hat2))
      have hW1 := Wrote.later (grows_alloc _ _) (Wrote.app hg1 hat1)
      have hW2 := hw.trans (hW1.trans (Wrote.app hg2 hat2))
      have e9 : o'.length + 1 + k = (o' ++ [q] ++ piece).length := by rw [List.length_append, List.length_append, HPL.out]; rfl
      rw [show [bv q] = [q].map bv from rfl, ← List.map_append, ← List.map_append, e9] at hown2
      have hB := Wrote.below hW2 hb (own_ge hown)
      go_roundw
      case rel =>
        refine ⟨j + k, o' ++ [q] ++ piece, _, c' - k, by omega, by rw [show n - j - k = n - (j + k) by omega], by omega, ?_, ?_, ?_, hown2, hW2⟩
        · have := (hL.below (Wrote.below (hW1.trans (Wrote.app hg2 hat2)) hwb (own_ge hown'))).cut (l := k) (c := c') (by rw [List.length_map, List.length_drop, HL.out]; exact hc')
          rwa [← List.map_drop, List.drop_drop] at this
        · show _ = _; rw [HO.out, HST.out]; simp
        · rw [← e9]; omega
      case measure => simp [slen]; omega
    · have HE : Hid (W = o') := by
        show _ = _
        rw [HO.out, List.drop_eq_nil_of_le (by rw [HL.out]; omega), lits_nil, List.append_nil]
      have hown2 : wr.ownsRow base 5 1 u0 W.length (W.map bv) := by rw [HE.out]; exact hown'
      go_wp2
      go_ret
      exact ⟨_, rfl, hown2, hw⟩

set_option maxRecDepth 20000 in
set_option maxHeartbeats 2000000 in
theorem putmatch_any (v : Value) (base m : Nat) (out : List UInt8) (x y : Nat) (w : World) (hown : w.ownsRow base 5 1 v m (out.map bv)) (hb : base ≤ w.heap.size) (hn : m ≤ 1000000000000) (hx : 4 ≤ x ∧ x ≤ 131) (hy : 1 ≤ y ∧ y ≤ 65536) :
    Calls Tryz.prog 139 #[v, iv x, iv y] w fun e w' => ∃ v', e = .returned v' ∧ w'.ownsRow base 5 1 v' (out ++ mtok (x, y)).length ((out ++ mtok (x, y)).map bv) ∧ Wrote v v' w w' := by
  obtain ⟨i0, hi0, hz0, hz1, hz2⟩ := info_parts byte_info
  have hm : out.length = m := by simpa using hown.1
  subst hm
  obtain ⟨d, rfl⟩ : ∃ d, y = d + 1 := ⟨y - 1, by omega⟩
  have HT : Hid (mtok (x, d + 1) = [UInt8.ofNat (124 + x), UInt8.ofNat (d % 256), UInt8.ofNat (d / 256)]) := rfl
  have b1 : (128 : Int) + (x : Int) - 4 = ((UInt8.ofNat (124 + x)).toNat : Int) := by rw [UInt8.toNat_ofNat']; omega
  have b2 : (d : Int) % 256 = ((UInt8.ofNat (d % 256)).toNat : Int) := by rw [UInt8.toNat_ofNat']; omega
  have b3 : (d : Int) / 256 = ((UInt8.ofNat (d / 256)).toNat : Int) := by rw [UInt8.toNat_ofNat']; omega
  have b0 : ((d + 1 : Nat) : Int) - 1 = (d : Int) := by omega
  generalize UInt8.ofNat (124 + x) = q1 at *
  generalize UInt8.ofNat (d % 256) = q2 at *
  generalize UInt8.ofNat (d / 256) = q3 at *
  have h1 := q1.toNat_lt
  have h2 := q2.toNat_lt
  have h3 := q3.toNat_lt
  have hnew := Lies.new w 5 [bv q1, bv q2, bv q3]
  generalize hyv : ((d + 1 : Nat) : Int) = yi at *
  go_enter Tryz.func139, Tryz.ntmps139
  go_wp2_with (at_builtin; refine wpList_append_src _ rfl (.tmp 10) (.tmp 20) _ rfl base 5 i0 _ 1 Tryz.underlying27 hi0 hz0 hz1 hz2 rfl _ out.length _ rfl (hown.alloc _) _ _ 3 3 [bv q1, bv q2, bv q3] rfl rfl hnew (by simp [Value.oneCell']) (by unfold maxLen; omega) (by omega) (by rw [World.size_alloc]; omega) ?_; intro v1 w1 hown1 hg1 hat1)
  go_ret
  refine ⟨_, rfl, ?_, Wrote.later (grows_alloc _ _) (Wrote.app hg1 hat1)⟩
  rw [HT.out, List.map_append, List.length_append]
  exact hown1
end Go.Proofs.YtbcldknecdbemaaGreatDoor

/-
  Slices of ints that begin anywhere in a row of their own (of no program): one more put behind, the first one cut off. An array out of a slice. Operations on maps in a walk.
-/
namespace Go.Proofs.YtbcldknecdbemaaGreatDoor
open Go.RowKit
set_option linter.unusedVariables false
set_option maxRecDepth 20000
set_option linter.unusedSectionVars false

/-- v is a slice of these ints, in a row that may be written. -/
def OffRow (w : World) (v : Value) (js : List Nat) : Prop := ∃ g o c vs, v = .slice (some ⟨g, o, none⟩) js.length c ∧ Has w g vs ∧ o + c ≤ vs.length ∧ js.length ≤ c ∧ ∀ (t j : Nat), js[t]? = some j → vs[o + t]? = some (iv j)
theorem Has.kept {w w' : World} {b : Nat} {vs : List Value} {row : Option Nat} (h : Has w b vs) (hg : w.grownBy w' row) (hne : some b ≠ row) : Has w' b vs :=
  ⟨Nat.lt_of_lt_of_le h.lt hg.size, fun j u hu => (World.cell?_of_block (hg.block b h.lt hne)).trans (h.cells j u hu), fun j => (World.frozen?_of_block (hg.block b h.lt hne)).trans (h.free j)⟩
theorem OffRow.kept {w w' : World} {v : Value} {js : List Nat} {row : Option Nat} (h : OffRow w v js) (hg : w.grownBy w' row) (hne : v.ownBlock ≠ row) : OffRow w' v js := by
  obtain ⟨g, o, c, vs, rfl, hH, h1, h2, h3⟩ := h
  exact ⟨g, o, c, vs, rfl, hH.kept hg hne, h1, h2, h3⟩
theorem OffRow.lt {w : World} {v : Value} {js : List Nat} (h : OffRow w v js) : ∃ g, v.ownBlock = some g ∧ g < w.heap.size := by
  obtain ⟨g, o, c, vs, rfl, hH, h1, h2, h3⟩ := h
  exact ⟨g, rfl, hH.lt⟩
theorem OffRow.lies {w : World} {v : Value} {js : List Nat} (h : OffRow w v js) : ∃ A c, v = .slice A js.length c ∧ Lies w w.heap.size A (js.map iv) := by
  obtain ⟨g, o, c, vs, rfl, hH, h1, h2, h3⟩ := h
  refine ⟨_, c, rfl, fun j u hu => ⟨_, rfl, hH.lt, ?_⟩⟩
  rw [List.getElem?_map] at hu
  obtain ⟨x, hx, rfl⟩ := Option.map_eq_some_iff.1 hu
  rw [add_plain]
  exact hH.cell (h3 j x hx)

section
variable {P : Program}
/-- append(v, i) -/
theorem off_append (t ty e : TypeId) (i : TypeInfo) (ht : P.underlying t = some (.slice e)) (hi : P.info? e = some i) (hz : i.zero = some (.int .i64 0)) (hs : i.size = 1) (hby : i.bytes = 8) {w : World} {v : Value} {js : List Nat}
    (hv : (v = .slice none 0 0 ∧ js = []) ∨ OffRow w v js) (a : Addr) (x : Nat) (hx : w.cell? (a.add 0) = some (iv x)) (hl : js.length ≤ 1000000000000) :
    ∃ v' w', (Builtin.append_ #[t, t] ty #[v, .slice (some a) 1 1]).run P w = .ok v' w' ∧ OffRow w' v' (js ++ [x]) ∧ Wrote v v' w w' := by
  have hnews : ∀ j u, [iv x][j]? = some u → w.cell? (a.add j) = some u := fun j u hu => by
    cases j with
    | zero => simp at hu; subst hu; exact hx
    | succ j => simp at hu
  -- what a new row is
  have grown : ∀ (olds : List Value) (cap : Nat), olds.length = js.length → js.length + 1 ≤ cap → (∀ (t j : Nat), js[t]? = some j → olds[t]? = some (iv j)) →
      OffRow (w.drew.alloc (.cells (olds.toArray ++ [iv x].toArray ++ Builtin.zeroCells (Value.int .i64 0).cells (cap - (js.length + 1))) e)) (.slice (some ⟨w.heap.size, 0, none⟩) (js.length + 1) cap) (js ++ [x]) := by
    intro olds cap ho hc hp
    have e1 : olds.toArray ++ [iv x].toArray ++ Builtin.zeroCells (Value.int .i64 0).cells (cap - (js.length + 1)) = (olds ++ [iv x] ++ (Builtin.zeroCells (Value.int .i64 0).cells (cap - (js.length + 1))).toList).toArray := by
      apply Array.ext'; simp
    have hzl : (Builtin.zeroCells (Value.int .i64 0).cells (cap - (js.length + 1))).toList.length = cap - (js.length + 1) := by
      rw [Array.length_toList, size_zeroCells]; simp [Value.cells]
    rw [e1]
    refine ⟨w.heap.size, 0, cap, _, by simp, Has.new w.drew e _, ?_, by simpa using hc, fun t j hj => ?_⟩
    · simp only [List.length_append, hzl, ho, List.length_singleton]; omega
    · rw [Nat.zero_add]
      rcases Nat.lt_or_ge t js.length with h1 | h1
      · rw [List.getElem?_append_left h1] at hj
        rw [List.append_assoc, List.getElem?_append_left (by omega)]
        exact hp t j hj
      · rw [List.getElem?_append_right h1] at hj
        have ht0 : t = js.length := by
          rcases Nat.eq_or_lt_of_le h1 with h | h
          · exact h.symm
          · rw [List.getElem?_eq_none (by simp; omega)] at hj; cases hj
        subst ht0
        simp at hj
        subst hj
        rw [List.getElem?_append_left (by simp [ho]), List.getElem?_append_right (by omega), ho]
        simp
  rcases hv with ⟨rfl, rfl⟩ | ⟨g, o, c, vs, rfl, hH, h1, h2, h3⟩
  · have hr := run_append_nil (P := P) w t ty e i _ ht hi hz a 1 1 [iv x] (by rw [hs]; rfl) hnews (by omega) (by omega) (by rw [hby]; omega)
    have hg := grown [] (grownCap w 1 0 e) rfl (by have := grownCap_ge w 1 0 e; simpa using this) (fun t j h => by simp at h)
    simp only [List.length_nil, Nat.zero_add] at hg
    refine ⟨_, _, hr, ?_, ⟨⟨rfl, rfl, rfl, by simp, fun k hk _ => heap_alloc_old w.drew _ hk⟩, .inr ⟨_, rfl, Nat.le_refl _⟩⟩⟩
    simpa using hg
  · by_cases hroom : js.length + 1 ≤ c
    · have hS : Src P i.size t (.slice (some a) 1 1) 1 [iv x] w := Src.ofSlice w ht a 1 1 [iv x] (by rw [hs]; rfl) hnews (by simp [Value.oneCell'])
      have hlt : o + js.length < vs.length := by omega
      have hr := run_append_room_src (P := P) w t t ty e i ht hi g o js.length c _ 1 [iv x] hS hroom
        (fun j hj => by
          have : j = 0 := by simpa using hj
          subst this
          rw [hs, Nat.mul_one, Nat.add_zero, hH.cell (List.getElem?_eq_getElem hlt)]; rfl)
        (fun j hj => hH.free _)
      rw [hs, Nat.mul_one] at hr
      refine ⟨_, _, hr, ⟨g, o, c, vs.set (o + js.length) (iv x), by simp, ?_, by simpa using h1, by simpa using hroom, fun t j hj => ?_⟩, ⟨⟨?_, ?_, ?_, ?_, ?_⟩, .inl rfl⟩⟩
      · exact hH.set_ hlt _
      · rcases Nat.lt_or_ge t js.length with h4 | h4
        · rw [List.getElem?_append_left h4] at hj
          rw [List.getElem?_set_ne (by omega)]
          exact h3 t j hj
        · rw [List.getElem?_append_right h4] at hj
          have ht0 : t = js.length := by
            rcases Nat.eq_or_lt_of_le h4 with h | h
            · exact h.symm
            · rw [List.getElem?_eq_none (by simp; omega)] at hj; cases hj
          subst ht0
          simp at hj
          subst hj
          exact List.getElem?_set_self hlt
      · simp [World.setCells, World.setCell]
      · simp [World.setCells, World.setCell]
      · simp [World.setCells, World.setCell]
      · rw [size_setCells]; exact Nat.le_refl _
      · intro k hk hne
        exact Below.heap_setCell w ⟨g, o + js.length, none⟩ (iv x) k (fun e => hne (by rw [e]; rfl))
    · have holds : ∀ j u, (js.map iv)[j]? = some u → w.cell? ((⟨g, o, none⟩ : Addr).add j) = some u := fun j u hu => by
        rw [List.getElem?_map] at hu
        obtain ⟨y, hy, rfl⟩ := Option.map_eq_some_iff.1 hu
        rw [add_plain]
        exact hH.cell (h3 j y hy)
      have hr := run_append_grow (P := P) w t ty e i _ ht hi hz ⟨g, o, none⟩ js.length c (js.map iv) (by rw [hs]; simp) holds a 1 1 [iv x] (by rw [hs]; rfl) hnews (by omega) (by omega) (growslice_fits (by omega) (by rw [hby]; omega))
      refine ⟨_, _, hr, ?_, ⟨⟨rfl, rfl, rfl, by simp, fun k hk _ => heap_alloc_old w.drew _ hk⟩, .inr ⟨_, rfl, Nat.le_refl _⟩⟩⟩
      exact grown (js.map iv) _ (by simp) (grownCap_ge _ _ _ _) (fun t j hj => by rw [List.getElem?_map, hj]; rfl)

/-- v[1:] -/
theorem off_cut (t e : TypeId) (ht : P.underlying t = some (.slice e)) (hs : (P.info? e).map (·.size) = some 1) {w : World} {v : Value} {j : Nat} {js : List Nat} (hv : OffRow w v (j :: js)) (h0 : js ≠ []) (k : IntKind) :
    ∃ v', (∀ u, (Instr.sliceAt t v (some (.int k 1)) none none).run P u = .ok v' u) ∧ OffRow w v' js ∧ v'.ownBlock = v.ownBlock := by
  obtain ⟨g, o, c, vs, rfl, hH, h1, h2, h3⟩ := hv
  have hl : 0 < js.length := List.length_pos_iff.2 h0
  have h2' : js.length + 1 ≤ c := by simpa using h2
  have ht' : P.underlying t = some (.slice (P.elem t)) := by rw [elem_of ht hs]; exact ht
  have hr := fun u => run_cut_from (P := P) ht hs (some ⟨g, o, none⟩) (j :: js).length c 1 k (by simp) (by omega) u
  refine ⟨_, hr, ⟨g, o + 1, c - 1, vs, ?_, hH, by omega, by omega, fun t x hx => ?_⟩, ?_⟩
  · simp [add_plain]
  · rw [show o + 1 + t = o + (t + 1) by omega]
    exact h3 (t + 1) x (by simpa using hx)
  · simp [Value.ownBlock, add_plain]

/-- The address of an array of four out of a slice. -/
theorem run_arrayAt4 {K U : TypeId} (hK : P.underlying K = some (.array 4 U)) (A : Option Addr) (n c : Nat) (hn : 4 ≤ n) (w : World) : (Instr.arrayAt K (.slice A n c)).run P w = .ok (.pointer A) w := by
  simp [Instr.arrayAt, run_underlying hK, show ¬ n < 4 by omega]
theorem load_lies {K U : TypeId} (hK : P.underlying K = some (.array 4 U)) (hi : (P.info? K).map (·.size) = some 4) {w : World} {B : Nat} {A : Option Addr} {l : List UInt8} (hl : l.length = 4) (h : Lies w B A (l.map bv)) :
    (Instr.loadAt K (.pointer A)).run P w = .ok (dv l) w := by
  obtain ⟨x, hx⟩ : ∃ x, l[0]? = some x := ⟨_, List.getElem?_eq_getElem (by omega)⟩
  obtain ⟨ad, rfl, _, _⟩ := h 0 (bv x) (by rw [List.getElem?_map, hx]; rfl)
  obtain ⟨i, hi1, hi2⟩ := Option.map_eq_some_iff.1 hi
  have hc := run_loadCells_list (P := P) w ad (l.map bv) h.cells
  rw [List.length_map, hl] at hc
  simp [Instr.loadAt, Instr.sureAddr, loadVar, isAgg, run_underlying hK, sizeOf, typeInfo, hi1, hi2, hc]

variable {ops : Array Oper} {rest : List Oper} {o : Oper} {a : Act} {w : World} {Q : Exit → Act → World → Prop}
theorem wpList_arrayAt (hgd : o.guard = none) (K : TypeId) (x : Operand) (ho : o.op = .sliceToArrayPointer K x) (A : Option Addr) (n c : Nat) (hx : a.eval x = .slice A n c) (h : (Instr.arrayAt K (.slice A n c)).run P w = .ok (.pointer A) w)
    (hk : wpList P ops Q rest (a.put o.dst (.pointer A)) w) : wpList P ops Q (o :: rest) a w := by
  refine wpList_plain hgd fun K' hK' => ?_
  unfold Oper.wp execOp
  simp only [ho, hx, Sem.run_bind, h, Result.andThen_ok, Sem.run_pure]
  exact hK' _ _ hk
theorem wpList_look (hgd : o.guard = none) (T : TypeId) (x y : Operand) (ho : o.op = .lookup T x y false) (mv kv v : Value) (hx : a.eval x = mv) (hy : a.eval y = kv) (h : (Instr.lookup T mv kv false).run P w = .ok v w)
    (hk : wpList P ops Q rest (a.put o.dst v) w) : wpList P ops Q (o :: rest) a w := by
  refine wpList_plain hgd fun K' hK' => ?_
  unfold Oper.wp execOp
  simp only [ho, hx, hy, Sem.run_bind, h, Result.andThen_ok, Sem.run_pure]
  exact hK' _ _ hk
theorem wpList_mapEntry (hgd : o.guard = none) (T : TypeId) (x y : Operand) (ho : o.op = .mapEntry T x y) (mv kv v : Value) (w1 : World) (hx : a.eval x = mv) (hy : a.eval y = kv) (h : (Instr.mapEntry T mv kv).run P w = .ok v w1)
    (hk : wpList P ops Q rest (a.put o.dst v) w1) : wpList P ops Q (o :: rest) a w := by
  refine wpList_plain hgd fun K' hK' => ?_
  unfold Oper.wp execOp
  simp only [ho, hx, hy, Sem.run_bind, h, Result.andThen_ok, Sem.run_pure]
  exact hK' _ _ hk
theorem wpList_entryStore (hgd : o.guard = none) (T : TypeId) (x y z : Operand) (ho : o.op = .entryStore T x y z) (mv kv v : Value) (w1 : World) (hx : a.eval x = mv) (hy : a.eval y = kv) (hz : a.eval z = v) (h : (Instr.entryStore T mv kv v).run P w = .ok () w1)
    (hk : wpList P ops Q rest (a.put o.dst undef) w1) : wpList P ops Q (o :: rest) a w := by
  refine wpList_plain hgd fun K' hK' => ?_
  unfold Oper.wp execOp
  simp only [ho, hx, hy, hz, Sem.run_bind, h, Result.andThen_ok, Sem.run_pure]
  exact hK' _ _ hk
theorem wpList_mapPut (hgd : o.guard = none) (T : TypeId) (x y z : Operand) (ho : o.op = .mapUpdate T x y z) (mv kv v : Value) (w1 : World) (hx : a.eval x = mv) (hy : a.eval y = kv) (hz : a.eval z = v) (h : (Instr.mapUpdate T mv kv v).run P w = .ok () w1)
    (hk : wpList P ops Q rest (a.put o.dst undef) w1) : wpList P ops Q (o :: rest) a w := by
  refine wpList_plain hgd fun K' hK' => ?_
  unfold Oper.wp execOp
  simp only [ho, hx, hy, hz, Sem.run_bind, h, Result.andThen_ok, Sem.run_pure]
  exact hK' _ _ hk
theorem wpList_appendv (hgd : o.guard = none) (s x : Operand) (t : TypeId) (ho : o.op = .call { callee := .builtin .append, args := #[s, x], argTypes := #[t, t] }) (sv xv v : Value) (w1 : World) (hs : a.eval s = sv) (hx : a.eval x = xv)
    (h : (Builtin.append_ #[t, t] o.type #[sv, xv]).run P w = .ok v w1) (hk : wpList P ops Q rest (a.put o.dst v) w1) : wpList P ops Q (o :: rest) a w := by
  refine wpList_plain hgd fun K hK => ?_
  unfold Oper.wp execOp
  simp only [ho, resolve, invoke, builtin, Sem.run_bind, Sem.run_pure, Result.andThen_ok, List.map_toArray, List.map_cons, List.map_nil, hs, hx, h]
  exact hK _ _ hk
theorem wpList_deletev (hgd : o.guard = none) (s x : Operand) (t kt : TypeId) (ho : o.op = .call { callee := .builtin .delete, args := #[s, x], argTypes := #[t, kt] }) (sv xv v : Value) (w1 : World) (hs : a.eval s = sv) (hx : a.eval x = xv)
    (h : (Builtin.delete_ #[t, kt] o.type #[sv, xv]).run P w = .ok v w1) (hk : wpList P ops Q rest (a.put o.dst v) w1) : wpList P ops Q (o :: rest) a w := by
  refine wpList_plain hgd fun K hK => ?_
  unfold Oper.wp execOp
  simp only [ho, resolve, invoke, builtin, Sem.run_bind, Sem.run_pure, Result.andThen_ok, List.map_toArray, List.map_cons, List.map_nil, hs, hx, h]
  exact hK _ _ hk
end
end Go.Proofs.YtbcldknecdbemaaGreatDoor
