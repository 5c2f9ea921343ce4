/-
  Bytes in fewer, as functions of lists (of no program): the match at a place, literal tokens, bytes packed, unpacked, how many tokens; what is packed is unpacked as it was, and how long it is.
-/
namespace Go.Proofs.Ythnjbmaiebiehaa
set_option linter.unusedVariables false

/-- From n on: how many bytes from i on are those d ahead of them (f more at most). -/
def mgo (b : List UInt8) (i d : Nat) : Nat → Nat → Nat
  | 0, n => n
  | f + 1, n => if i + n < b.length ∧ b[i + n]? = b[i + n - d]? then mgo b i d f (n + 1) else n
def mlen (b : List UInt8) (i d : Nat) : Nat := mgo b i d 131 0
theorem mgo_go {b : List UInt8} {i d n : Nat} (hn : n < 131) (h1 : i + n < b.length) (h2 : b[i + n]? = b[i + n - d]?) : mgo b i d (131 - n) n = mgo b i d (131 - (n + 1)) (n + 1) := by
  rw [show 131 - n = (131 - (n + 1)) + 1 by omega, mgo, if_pos ⟨h1, h2⟩]
theorem mgo_end {b : List UInt8} {i d n : Nat} (h : ¬ (n < 131 ∧ i + n < b.length ∧ b[i + n]? = b[i + n - d]?)) : mgo b i d (131 - n) n = n := by
  by_cases hn : n < 131
  · rw [show 131 - n = (131 - (n + 1)) + 1 by omega, mgo, if_neg (fun hc => h ⟨hn, hc⟩)]
  · rw [show 131 - n = 0 by omega, mgo]
theorem mgo_spec (b : List UInt8) (i d : Nat) : ∀ f n, n ≤ mgo b i d f n ∧ mgo b i d f n ≤ n + f ∧ (∀ t, n ≤ t → t < mgo b i d f n → i + t < b.length ∧ b[i + t]? = b[i + t - d]?) ∧
    (mgo b i d f n < n + f → ¬ (i + mgo b i d f n < b.length ∧ b[i + mgo b i d f n]? = b[i + mgo b i d f n - d]?))
  | 0, n => by refine ⟨Nat.le_refl _, Nat.le_refl _, fun t h1 h2 => ?_, fun h => ?_⟩ <;> (simp only [mgo] at *; omega)
  | f + 1, n => by
    rw [mgo]
    split
    · rename_i hc
      obtain ⟨h1, h2, h3, h4⟩ := mgo_spec b i d f (n + 1)
      refine ⟨by omega, by omega, fun t ht1 ht2 => ?_, fun h => h4 (by omega)⟩
      rcases Nat.lt_or_ge n t with h | h
      · exact h3 t (by omega) ht2
      · obtain rfl : t = n := by omega
        exact hc
    · rename_i hc
      exact ⟨Nat.le_refl _, by omega, fun t h1 h2 => by omega, fun _ => hc⟩
theorem mlen_le (b : List UInt8) (i d : Nat) : mlen b i d ≤ 131 := by have := (mgo_spec b i d 131 0).2.1; unfold mlen; omega
theorem mlen_at {b : List UInt8} {i d t : Nat} (h : t < mlen b i d) : i + t < b.length ∧ b[i + t]? = b[i + t - d]? := (mgo_spec b i d 131 0).2.2.1 t (Nat.zero_le _) h
theorem mlen_stop {b : List UInt8} {i d : Nat} (h : mlen b i d < 131) : ¬ (i + mlen b i d < b.length ∧ b[i + mlen b i d]? = b[i + mlen b i d - d]?) := (mgo_spec b i d 131 0).2.2.2 (by unfold mlen at h; omega)
theorem mlen_ge {b : List UInt8} {i d n : Nat} (hn : n ≤ 131) (h : ∀ t, t < n → i + t < b.length ∧ b[i + t]? = b[i + t - d]?) : n ≤ mlen b i d := by
  rcases Nat.lt_or_ge (mlen b i d) n with hlt | hge
  · exact absurd (h _ hlt) (mlen_stop (by omega))
  · exact hge
theorem mlen_fit {b : List UInt8} {i d : Nat} (h : 0 < mlen b i d) : i + mlen b i d ≤ b.length := by have := (mlen_at (b := b) (i := i) (d := d) (t := mlen b i d - 1) (by omega)).1; omega

/-- The best of the distances 1 to k. -/
def bestTo (b : List UInt8) (i : Nat) : Nat → Nat × Nat
  | 0 => (0, 0)
  | k + 1 => if 3 < mlen b i (k + 1) ∧ (bestTo b i k).1 < mlen b i (k + 1) then (mlen b i (k + 1), k + 1) else bestTo b i k
theorem bestTo_spec (b : List UInt8) (i : Nat) : ∀ k, (bestTo b i k = (0, 0) ∧ ∀ d, 1 ≤ d → d ≤ k → mlen b i d ≤ 3) ∨
    (3 < (bestTo b i k).1 ∧ 1 ≤ (bestTo b i k).2 ∧ (bestTo b i k).2 ≤ k ∧ (bestTo b i k).1 = mlen b i (bestTo b i k).2 ∧ (∀ d, 1 ≤ d → d ≤ k → mlen b i d ≤ (bestTo b i k).1) ∧ ∀ d, 1 ≤ d → d < (bestTo b i k).2 → mlen b i d < (bestTo b i k).1)
  | 0 => .inl ⟨rfl, fun d h1 h2 => by omega⟩
  | k + 1 => by
    have ih := bestTo_spec b i k
    rw [bestTo]
    split
    · rename_i hc
      obtain ⟨h1, h2⟩ := hc
      refine .inr ⟨h1, by simp, by simp, rfl, fun d hd1 hd2 => ?_, fun d hd1 hd2 => ?_⟩
      · rcases Nat.lt_or_ge k d with h | h
        · obtain rfl : d = k + 1 := by omega
          exact Nat.le_refl _
        · rcases ih with ⟨e, h3⟩ | ⟨_, _, _, _, h3, _⟩
          · have := h3 d hd1 h; simp only []; omega
          · have := h3 d hd1 h; simp only []; omega
      · simp only [] at hd2 ⊢
        rcases ih with ⟨e, h3⟩ | ⟨_, _, _, _, h3, _⟩
        · have := h3 d hd1 (by omega); omega
        · have := h3 d hd1 (by omega); omega
    · rename_i hc
      rcases ih with ⟨e, h3⟩ | ⟨g1, g2, g3, g4, g5, g6⟩
      · refine .inl ⟨e, fun d hd1 hd2 => ?_⟩
        rcases Nat.lt_or_ge k d with h | h
        · obtain rfl : d = k + 1 := by omega
          rw [e] at hc
          simp only [] at hc
          omega
        · exact h3 d hd1 h
      · refine .inr ⟨g1, g2, by omega, g4, fun d hd1 hd2 => ?_, g6⟩
        rcases Nat.lt_or_ge k d with h | h
        · obtain rfl : d = k + 1 := by omega
          omega
        · exact g5 d hd1 h

/-- The match at a place: its length and its distance, 0 and 0 if there is none. -/
def matchOf (b : List UInt8) (i : Nat) : Nat × Nat := if i < b.length then bestTo b i (min i 1024) else (0, 0)
def matchAt (b : List UInt8) (p : Int) : Nat × Nat := if p < 0 then (0, 0) else matchOf b p.toNat
theorem matchAt_nat (b : List UInt8) (i : Nat) : matchAt b (i : Int) = matchOf b i := by unfold matchAt; rw [if_neg (by omega)]; simp
theorem match_none {b : List UInt8} {i : Nat} (h : (matchOf b i).1 = 0) : matchOf b i = (0, 0) := by
  unfold matchOf at h ⊢
  split
  · rw [if_pos ‹_›] at h
    rcases bestTo_spec b i (min i 1024) with ⟨e, _⟩ | ⟨g, _⟩
    · exact e
    · omega
  · rfl
theorem match_some {b : List UInt8} {i : Nat} (h : (matchOf b i).1 ≠ 0) : 4 ≤ (matchOf b i).1 ∧ (matchOf b i).1 ≤ 131 ∧ 1 ≤ (matchOf b i).2 ∧ (matchOf b i).2 ≤ i ∧ (matchOf b i).2 ≤ 1024 ∧ i + (matchOf b i).1 ≤ b.length ∧
    ∀ t, t < (matchOf b i).1 → i + t < b.length ∧ b[i + t]? = b[i + t - (matchOf b i).2]? := by
  unfold matchOf at h ⊢
  split
  · rw [if_pos ‹_›] at h
    rcases bestTo_spec b i (min i 1024) with ⟨e, _⟩ | ⟨g1, g2, g3, g4, _⟩
    · rw [e] at h; exact absurd rfl h
    · refine ⟨by omega, ?_, g2, by omega, by omega, ?_, ?_⟩
      · rw [g4]; exact mlen_le _ _ _
      · have := mlen_fit (b := b) (i := i) (d := (bestTo b i (min i 1024)).2) (by omega)
        omega
      · intro t ht
        rw [g4] at ht
        exact mlen_at ht
  · rw [if_neg ‹_›] at h; exact absurd rfl h

/-- Literal bytes as tokens. -/
def lits (l : List UInt8) : List UInt8 :=
  if h : l = [] then [] else UInt8.ofNat ((l.take 128).length - 1) :: (l.take 128 ++ lits (l.drop 128))
termination_by l.length
decreasing_by
  have : 0 < l.length := List.length_pos_iff.2 h
  rw [List.length_drop]
  omega
theorem lits_nil : lits [] = [] := by rw [lits]; rfl
theorem lits_more {l : List UInt8} (h : l ≠ []) : lits l = UInt8.ofNat ((l.take 128).length - 1) :: (l.take 128 ++ lits (l.drop 128)) := by
  rw [lits, dif_neg h]
/-- A match as a token. -/
def mtok (m : Nat × Nat) : List UInt8 := [UInt8.ofNat (124 + m.1), UInt8.ofNat ((m.2 - 1) % 256), UInt8.ofNat ((m.2 - 1) / 256)]
/-- Bytes packed, from the place i on, the literal ones from fr on. -/
def packFrom (b : List UInt8) (i fr : Nat) : List UInt8 :=
  if h : i < b.length then
    if hn : (matchOf b i).1 = 0 then packFrom b (i + 1) fr
    else lits ((b.drop fr).take (i - fr)) ++ (mtok (matchOf b i) ++ packFrom b (i + (matchOf b i).1) (i + (matchOf b i).1))
  else lits (b.drop fr)
termination_by b.length - i
def packOf (b : List UInt8) : List UInt8 := packFrom b 0 0
theorem pack_none {b : List UInt8} {i fr : Nat} (h : i < b.length) (hn : (matchOf b i).1 = 0) : packFrom b i fr = packFrom b (i + 1) fr := by rw [packFrom, dif_pos h, dif_pos hn]
theorem pack_some {b : List UInt8} {i fr : Nat} (h : i < b.length) (hn : (matchOf b i).1 ≠ 0) :
    packFrom b i fr = lits ((b.drop fr).take (i - fr)) ++ (mtok (matchOf b i) ++ packFrom b (i + (matchOf b i).1) (i + (matchOf b i).1)) := by rw [packFrom, dif_pos h, dif_neg hn]
theorem pack_end {b : List UInt8} {i fr : Nat} (h : ¬ i < b.length) : packFrom b i fr = lits (b.drop fr) := by rw [packFrom, dif_neg h]

/-- n times the byte d ahead of the end. -/
def copyN : Nat → Nat → List UInt8 → List UInt8
  | 0, _, out => out
  | n + 1, d, out => copyN n d (out ++ [out.getD (out.length - d) 0])
theorem copyN_len : ∀ n d (out : List UInt8), (copyN n d out).length = out.length + n
  | 0, _, _ => rfl
  | n + 1, d, out => by rw [copyN, copyN_len n]; simp; omega
theorem copyN_succ : ∀ n d (out : List UInt8), copyN (n + 1) d out = copyN n d out ++ [(copyN n d out).getD ((copyN n d out).length - d) 0]
  | 0, _, _ => rfl
  | n + 1, d, out => by rw [copyN, copyN_succ n d, copyN]
theorem copyN_take {b : List UInt8} {d : Nat} (hd : 1 ≤ d) : ∀ (n i : Nat), d ≤ i → (∀ t, t < n → i + t < b.length ∧ b[i + t]? = b[i + t - d]?) → copyN n d (b.take i) = b.take (i + n)
  | 0, i, _, _ => rfl
  | n + 1, i, hi, h => by
    obtain ⟨h1, h2⟩ := h 0 (by omega)
    rw [Nat.add_zero] at h1 h2
    have hl : (b.take i).length = i := by rw [List.length_take]; omega
    have e : (b.take i).getD ((b.take i).length - d) 0 = b[i] := by
      rw [hl, List.getD, List.getElem?_take, if_pos (by omega), ← h2, List.getElem?_eq_getElem h1]
      rfl
    rw [copyN, e, ← List.take_succ_eq_append_getElem h1, copyN_take hd n (i + 1) (by omega) (fun t ht => by have := h (t + 1) (by omega); rwa [show i + (t + 1) = i + 1 + t by omega] at this), show i + 1 + n = i + (n + 1) by omega]

/-- The bytes of tokens, behind those that are there, and the error's number. -/
def unp (most : Int) (p out : List UInt8) : List UInt8 × Nat :=
  match p with
  | [] => (out, 0)
  | c :: r =>
    if c.toNat < 128 then
      if r.length < c.toNat + 1 then ([], 2)
      else if most < (out.length : Int) + c.toNat + 1 then ([], 3)
      else unp most (r.drop (c.toNat + 1)) (out ++ r.take (c.toNat + 1))
    else if r.length < 2 then ([], 2)
    else if out.length < 1 + (r.getD 0 0).toNat + 256 * (r.getD 1 0).toNat then ([], 2)
    else if most < (out.length : Int) + c.toNat - 124 then ([], 3)
    else unp most (r.drop 2) (copyN (c.toNat - 124) (1 + (r.getD 0 0).toNat + 256 * (r.getD 1 0).toNat) out)
termination_by p.length
decreasing_by all_goals (simp only [List.length_cons, List.length_drop]; omega)
def unpackOf (p : List UInt8) (most : Int) : List UInt8 × Nat := unp most p []
theorem unp_nil (most : Int) (out : List UInt8) : unp most [] out = (out, 0) := by rw [unp]
section
variable {most : Int} {c : UInt8} {r out : List UInt8}
theorem unp_lit_form (hc : c.toNat < 128) (h : r.length < c.toNat + 1) : unp most (c :: r) out = ([], 2) := by rw [unp, if_pos hc, if_pos h]
theorem unp_lit_range (hc : c.toNat < 128) (h : ¬ r.length < c.toNat + 1) (hm : most < (out.length : Int) + c.toNat + 1) : unp most (c :: r) out = ([], 3) := by rw [unp, if_pos hc, if_neg h, if_pos hm]
theorem unp_lit (hc : c.toNat < 128) (h : ¬ r.length < c.toNat + 1) (hm : ¬ most < (out.length : Int) + c.toNat + 1) : unp most (c :: r) out = unp most (r.drop (c.toNat + 1)) (out ++ r.take (c.toNat + 1)) := by
  rw [unp, if_pos hc, if_neg h, if_neg hm]
theorem unp_mat_short (hc : ¬ c.toNat < 128) (h : r.length < 2) : unp most (c :: r) out = ([], 2) := by rw [unp, if_neg hc, if_pos h]
theorem unp_mat_far (hc : ¬ c.toNat < 128) (h : ¬ r.length < 2) (hd : out.length < 1 + (r.getD 0 0).toNat + 256 * (r.getD 1 0).toNat) : unp most (c :: r) out = ([], 2) := by rw [unp, if_neg hc, if_neg h, if_pos hd]
theorem unp_mat_range (hc : ¬ c.toNat < 128) (h : ¬ r.length < 2) (hd : ¬ out.length < 1 + (r.getD 0 0).toNat + 256 * (r.getD 1 0).toNat) (hm : most < (out.length : Int) + c.toNat - 124) : unp most (c :: r) out = ([], 3) := by
  rw [unp, if_neg hc, if_neg h, if_neg hd, if_pos hm]
theorem unp_mat (hc : ¬ c.toNat < 128) (h : ¬ r.length < 2) (hd : ¬ out.length < 1 + (r.getD 0 0).toNat + 256 * (r.getD 1 0).toNat) (hm : ¬ most < (out.length : Int) + c.toNat - 124) :
    unp most (c :: r) out = unp most (r.drop 2) (copyN (c.toNat - 124) (1 + (r.getD 0 0).toNat + 256 * (r.getD 1 0).toNat) out) := by rw [unp, if_neg hc, if_neg h, if_neg hd, if_neg hm]
end

/-- One literal token. -/
theorem unp_piece {most : Int} {l r out : List UInt8} {k : Nat} (hk : l.length = k + 1) (h8 : k < 128) (hm : (out.length : Int) + (k + 1 : Nat) ≤ most) : unp most (UInt8.ofNat k :: (l ++ r)) out = unp most r (out ++ l) := by
  have hc : (UInt8.ofNat k).toNat = k := by rw [UInt8.toNat_ofNat']; omega
  rw [unp_lit (by omega) (by rw [hc, List.length_append]; omega) (by rw [hc]; omega), hc]
  rw [← hk, List.drop_left, List.take_left]
theorem unp_piece_range {most : Int} {l r out : List UInt8} {k : Nat} (hk : l.length = k + 1) (h8 : k < 128) (hm : most < (out.length : Int) + (k + 1 : Nat)) : unp most (UInt8.ofNat k :: (l ++ r)) out = ([], 3) := by
  have hc : (UInt8.ofNat k).toNat = k := by rw [UInt8.toNat_ofNat']; omega
  rw [unp_lit_range (by omega) (by rw [hc, List.length_append]; omega) (by rw [hc]; omega)]
theorem unp_lits (most : Int) : ∀ (n : Nat) (l r out : List UInt8), l.length = n → (out.length : Int) ≤ most →
    unp most (lits l ++ r) out = if (out.length : Int) + l.length ≤ most then unp most r (out ++ l) else ([], 3) := by
  intro n
  induction n using Nat.strongRecOn with
  | ind n ih =>
    intro l r out hl ho
    by_cases he : l = []
    · subst he
      rw [lits_nil, if_pos (by simpa using ho), List.nil_append, List.append_nil]
    · have hpos : 0 < l.length := List.length_pos_iff.2 he
      have ht : (l.take 128).length = ((l.take 128).length - 1) + 1 := by rw [List.length_take]; omega
      have ht8 : (l.take 128).length - 1 < 128 := by rw [List.length_take]; omega
      have hsum : (l.take 128).length + (l.drop 128).length = l.length := by rw [List.length_take, List.length_drop]; omega
      rw [lits_more he, List.cons_append, List.append_assoc]
      by_cases hm : (out.length : Int) + (l.take 128).length ≤ most
      · rw [unp_piece ht ht8 (by omega), ih (l.drop 128).length (by rw [List.length_drop]; omega) _ _ _ rfl (by rw [List.length_append]; omega), List.append_assoc, List.take_append_drop, List.length_append]
        by_cases hx : (out.length : Int) + l.length ≤ most
        · rw [if_pos hx, if_pos (by omega)]
        · rw [if_neg hx, if_neg (by omega)]
      · rw [unp_piece_range ht ht8 (by omega), if_neg (by omega)]
/-- One match token. -/
theorem unp_mtok {most : Int} {r out : List UInt8} {m : Nat × Nat} (h1 : 4 ≤ m.1) (h2 : m.1 ≤ 131) (h3 : 1 ≤ m.2) (h4 : m.2 ≤ out.length) (h5 : m.2 ≤ 65536) :
    unp most (mtok m ++ r) out = if (out.length : Int) + m.1 ≤ most then unp most r (copyN m.1 m.2 out) else ([], 3) := by
  have hc : (UInt8.ofNat (124 + m.1)).toNat = 124 + m.1 := by rw [UInt8.toNat_ofNat']; omega
  have hx : (UInt8.ofNat ((m.2 - 1) % 256)).toNat = (m.2 - 1) % 256 := by rw [UInt8.toNat_ofNat']; omega
  have hy : (UInt8.ofNat ((m.2 - 1) / 256)).toNat = (m.2 - 1) / 256 := by rw [UInt8.toNat_ofNat']; omega
  have hd : 1 + (m.2 - 1) % 256 + 256 * ((m.2 - 1) / 256) = m.2 := by omega
  unfold mtok
  simp only [List.cons_append, List.nil_append]
  by_cases hm : (out.length : Int) + m.1 ≤ most
  · rw [unp_mat (by rw [hc]; omega) (by simp) (by simp [hx, hy]; omega) (by rw [hc]; omega), if_pos hm]
    simp only [List.drop_succ_cons, List.drop_zero, List.getD_cons_zero, List.getD_cons_succ, hx, hy, hc, hd]
    rw [show 124 + m.1 - 124 = m.1 by omega]
  · rw [unp_mat_range (by rw [hc]; omega) (by simp) (by simp [hx, hy]; omega) (by rw [hc]; omega), if_neg hm]

theorem pack_unp (most : Int) (b : List UInt8) : ∀ (n i fr : Nat), b.length - i = n → fr ≤ i → i ≤ b.length → (fr : Int) ≤ most →
    unp most (packFrom b i fr) (b.take fr) = if (b.length : Int) ≤ most then (b, 0) else ([], 3) := by
  intro n
  induction n using Nat.strongRecOn with
  | ind n ih =>
    intro i fr hn hfi hib hm
    have hfl : (b.take fr).length = fr := by rw [List.length_take]; omega
    by_cases hi : i < b.length
    · by_cases h0 : (matchOf b i).1 = 0
      · rw [pack_none hi h0]
        exact ih (b.length - (i + 1)) (by omega) (i + 1) fr rfl (by omega) (by omega) hm
      · obtain ⟨g1, g2, g3, g4, g5, g6, g7⟩ := match_some h0
        have hpl : ((b.drop fr).take (i - fr)).length = i - fr := by rw [List.length_take, List.length_drop]; omega
        have hcat : b.take fr ++ (b.drop fr).take (i - fr) = b.take i := by
          rw [show i = fr + (i - fr) by omega, List.take_add, show fr + (i - fr) - fr = i - fr by omega]
        have hil : (b.take i).length = i := by rw [List.length_take]; omega
        rw [pack_some hi h0, unp_lits most _ _ _ _ rfl (by omega), hfl, hpl]
        by_cases hm2 : (i : Int) ≤ most
        · rw [if_pos (by omega), hcat, unp_mtok g1 g2 g3 (by omega) (by omega), hil]
          by_cases hm3 : (i : Int) + (matchOf b i).1 ≤ most
          · rw [if_pos hm3, copyN_take g3 _ i g4 g7]
            exact ih (b.length - (i + (matchOf b i).1)) (by omega) _ _ rfl (Nat.le_refl _) g6 (by omega)
          · rw [if_neg hm3, if_neg (by omega)]
        · rw [if_neg (by omega), if_neg (by omega)]
    · rw [pack_end hi]
      have h := unp_lits most _ (b.drop fr) [] (b.take fr) rfl (by omega)
      rw [List.append_nil] at h
      rw [h, hfl, List.length_drop, List.take_append_drop, unp_nil]
      by_cases hx : (b.length : Int) ≤ most
      · rw [if_pos (by omega), if_pos hx]
      · rw [if_neg (by omega), if_neg hx]
/-- What is packed is unpacked as it was, just if there are no more bytes than most. -/
theorem unpack_pack (b : List UInt8) (most : Int) (h : 0 ≤ most) : unpackOf (packOf b) most = if (b.length : Int) ≤ most then (b, 0) else ([], 3) := by
  have := pack_unp most b _ 0 0 rfl (Nat.le_refl _) (Nat.zero_le _) (by simpa using h)
  simpa [unpackOf, packOf] using this

theorem lits_len : ∀ (n : Nat) (l : List UInt8), l.length = n → (lits l).length = n + (n + 127) / 128 := by
  intro n
  induction n using Nat.strongRecOn with
  | ind n ih =>
    intro l hl
    by_cases he : l = []
    · subst he
      simp at hl
      subst hl
      rw [lits_nil]
      rfl
    · have hpos : 0 < l.length := List.length_pos_iff.2 he
      rw [lits_more he, List.length_cons, List.length_append, ih (l.length - 128) (by omega) _ (by rw [List.length_drop]), List.length_take]
      omega
theorem mtok_len (m : Nat × Nat) : (mtok m).length = 3 := rfl
theorem packFrom_len (b : List UInt8) : ∀ (n i fr : Nat), b.length - i = n → fr ≤ i → i ≤ b.length → (packFrom b i fr).length ≤ (b.length - fr) + (b.length - fr + 127) / 128 := by
  intro n
  induction n using Nat.strongRecOn with
  | ind n ih =>
    intro i fr hn hfi hib
    by_cases hi : i < b.length
    · by_cases h0 : (matchOf b i).1 = 0
      · rw [pack_none hi h0]
        exact ih (b.length - (i + 1)) (by omega) (i + 1) fr rfl (by omega) (by omega)
      · obtain ⟨g1, g2, g3, g4, g5, g6, g7⟩ := match_some h0
        have h1 := ih (b.length - (i + (matchOf b i).1)) (by omega) _ (i + (matchOf b i).1) rfl (Nat.le_refl _) g6
        rw [pack_some hi h0, List.length_append, List.length_append, mtok_len, lits_len (i - fr) _ (by rw [List.length_take, List.length_drop]; omega)]
        omega
    · rw [pack_end hi, lits_len (b.length - fr) _ (by rw [List.length_drop])]
      exact Nat.le_refl _
theorem packOf_len (b : List UInt8) : (packOf b).length ≤ b.length + (b.length + 127) / 128 := packFrom_len b _ 0 0 rfl (Nat.le_refl _) (Nat.zero_le _)

/-- How many tokens, behind n. -/
def cnt (p : List UInt8) (n : Nat) : Option Nat :=
  match p with
  | [] => some n
  | c :: r => if c.toNat < 128 then (if r.length < c.toNat + 1 then none else cnt (r.drop (c.toNat + 1)) (n + 1)) else if r.length < 2 then none else cnt (r.drop 2) (n + 1)
termination_by p.length
decreasing_by all_goals (simp only [List.length_cons, List.length_drop]; omega)
def countOf (p : List UInt8) : Option Nat := cnt p 0
theorem cnt_nil (n : Nat) : cnt [] n = some n := by rw [cnt]
theorem cnt_lit {c : UInt8} {r : List UInt8} {n : Nat} (hc : c.toNat < 128) (h : ¬ r.length < c.toNat + 1) : cnt (c :: r) n = cnt (r.drop (c.toNat + 1)) (n + 1) := by rw [cnt, if_pos hc, if_neg h]
theorem cnt_lit_none {c : UInt8} {r : List UInt8} {n : Nat} (hc : c.toNat < 128) (h : r.length < c.toNat + 1) : cnt (c :: r) n = none := by rw [cnt, if_pos hc, if_pos h]
theorem cnt_mat {c : UInt8} {r : List UInt8} {n : Nat} (hc : ¬ c.toNat < 128) (h : ¬ r.length < 2) : cnt (c :: r) n = cnt (r.drop 2) (n + 1) := by rw [cnt, if_neg hc, if_neg h]
theorem cnt_mat_none {c : UInt8} {r : List UInt8} {n : Nat} (hc : ¬ c.toNat < 128) (h : r.length < 2) : cnt (c :: r) n = none := by rw [cnt, if_neg hc, if_pos h]
theorem cnt_lits : ∀ (k : Nat) (l r : List UInt8) (n : Nat), l.length = k → cnt (lits l ++ r) n = cnt r (n + (k + 127) / 128) := by
  intro k
  induction k using Nat.strongRecOn with
  | ind k ih =>
    intro l r n hl
    by_cases he : l = []
    · subst he
      simp at hl
      subst hl
      rw [lits_nil]
      rfl
    · have hpos : 0 < l.length := List.length_pos_iff.2 he
      have hc : (UInt8.ofNat ((l.take 128).length - 1)).toNat = (l.take 128).length - 1 := by rw [UInt8.toNat_ofNat', List.length_take]; omega
      have ht : (l.take 128).length - 1 + 1 = (l.take 128).length := by rw [List.length_take]; omega
      rw [lits_more he, List.cons_append, List.append_assoc, cnt_lit (by rw [hc, List.length_take]; omega) (by rw [hc, ht, List.length_append]; omega), hc, ht, List.drop_left,
        ih (l.length - 128) (by omega) _ _ _ (by rw [List.length_drop])]
      congr 1
      omega
theorem cnt_mtok (m : Nat × Nat) (r : List UInt8) (n : Nat) (h : 4 ≤ m.1) (h2 : m.1 ≤ 131) : cnt (mtok m ++ r) n = cnt r (n + 1) := by
  have hc : (UInt8.ofNat (124 + m.1)).toNat = 124 + m.1 := by rw [UInt8.toNat_ofNat']; omega
  unfold mtok
  simp only [List.cons_append, List.nil_append]
  rw [cnt_mat (by rw [hc]; omega) (by simp)]
  rfl

/-- One byte many times: the match at each place but the first. -/
theorem rep_at (k : Nat) (c : UInt8) (j : Nat) : (List.replicate k c)[j]? = if j < k then some c else none := List.getElem?_replicate
theorem rep_mlen (k : Nat) (c : UInt8) (i d : Nat) (hd : 1 ≤ d) (hdi : d ≤ i) (hi : i < k) : mlen (List.replicate k c) i d = min 131 (k - i) := by
  have h1 : min 131 (k - i) ≤ mlen (List.replicate k c) i d := mlen_ge (by omega) fun t ht => by
    rw [List.length_replicate, rep_at, rep_at, if_pos (by omega), if_pos (by omega)]
    exact ⟨by omega, rfl⟩
  have h2 := mlen_le (List.replicate k c) i d
  have h3 := mlen_fit (b := List.replicate k c) (i := i) (d := d) (by omega)
  rw [List.length_replicate] at h3
  omega
theorem rep_best (k : Nat) (c : UInt8) (i : Nat) (hi : i < k) (h4 : 4 ≤ k - i) : ∀ m, 1 ≤ m → m ≤ i → bestTo (List.replicate k c) i m = (min 131 (k - i), 1)
  | 0, h, _ => by omega
  | 1, _, hm => by
    rw [bestTo, rep_mlen k c i 1 (by omega) hm hi, if_pos ⟨by omega, by rw [bestTo]; simp only []; omega⟩]
  | m + 2, _, hm => by
    rw [bestTo, rep_best k c i hi h4 (m + 1) (by omega) (by omega), rep_mlen k c i (m + 1 + 1) (by omega) hm hi, if_neg (by simp)]
theorem rep_match (k : Nat) (c : UInt8) (i : Nat) (h1 : 1 ≤ i) (h4 : 4 ≤ k - i) : matchOf (List.replicate k c) i = (min 131 (k - i), 1) := by
  unfold matchOf
  rw [List.length_replicate, if_pos (by omega), rep_best k c i (by omega) h4 _ (by omega) (by omega)]
theorem rep_none (k : Nat) (c : UInt8) (i : Nat) (h : i = 0 ∨ k - i < 4) : (matchOf (List.replicate k c) i).1 = 0 := by
  by_cases h0 : (matchOf (List.replicate k c) i).1 = 0
  · exact h0
  · obtain ⟨g1, g2, g3, g4, g5, g6, g7⟩ := match_some h0
    rw [List.length_replicate] at g6
    omega
/-- Where no match is left. -/
theorem pack_rest {b : List UInt8} {fr : Nat} : ∀ (n i : Nat), b.length - i = n → (∀ j, i ≤ j → j < b.length → (matchOf b j).1 = 0) → packFrom b i fr = lits (b.drop fr)
  | 0, i, hn, _ => pack_end (by omega)
  | n + 1, i, hn, h => by
    rw [pack_none (by omega) (h i (Nat.le_refl _) (by omega))]
    exact pack_rest n (i + 1) (by omega) fun j h1 h2 => h j (by omega) h2
theorem rep_cnt (k : Nat) (c : UInt8) : ∀ (n i t : Nat), k - i = n → 1 ≤ i → i ≤ k → cnt (packFrom (List.replicate k c) i i) t = some (t + (k - i + 130) / 131) := by
  intro n
  induction n using Nat.strongRecOn with
  | ind n ih =>
    intro i t hn h1 hk
    by_cases h4 : 4 ≤ k - i
    · have hm := rep_match k c i h1 h4
      rw [pack_some (by rw [List.length_replicate]; omega) (by rw [hm]; simp only []; omega), hm, Nat.sub_self, List.take_zero, lits_nil, List.nil_append, cnt_mtok _ _ _ (by simp only []; omega) (by simp only []; omega)]
      simp only []
      rw [ih (k - (i + min 131 (k - i))) (by omega) _ _ rfl (by omega) (by omega)]
      congr 1
      omega
    · rw [pack_rest _ i rfl (fun j hj _ => rep_none k c j (.inr (by omega)))]
      have := cnt_lits (k - i) ((List.replicate k c).drop i) [] t (by simp)
      rw [List.append_nil, cnt_nil] at this
      rw [this]
      congr 1
      omega
/-- One byte k times: how many tokens. -/
theorem rep_count (k : Nat) (c : UInt8) : countOf (packOf (List.replicate k c)) = some (if 4 < k then 1 + (k - 1 + 130) / 131 else min k 1) := by
  unfold countOf packOf
  by_cases h : 4 < k
  · have hm := rep_match k c 1 (by omega) (by omega)
    rw [if_pos h, pack_none (by rw [List.length_replicate]; omega) (rep_none k c 0 (.inl rfl)), Nat.zero_add, pack_some (by rw [List.length_replicate]; omega) (by rw [hm]; simp only []; omega), hm]
    rw [cnt_lits 1 _ _ _ (by simp; omega), cnt_mtok _ _ _ (by simp only []; omega) (by simp only []; omega)]
    simp only []
    rw [rep_cnt k c _ _ _ rfl (by omega) (by omega)]
    congr 1
    omega
  · rw [if_neg h, pack_rest _ 0 rfl (fun j hj _ => rep_none k c j (by omega))]
    have := cnt_lits k ((List.replicate k c).drop 0) [] 0 (by simp)
    rw [List.append_nil, cnt_nil] at this
    rw [this]
    congr 1
    omega
end Go.Proofs.Ythnjbmaiebiehaa
