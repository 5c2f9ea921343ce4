/-
  The places of four bytes that lz keeps in a map: contracts of at, keep and forget.
-/
import Derived.Test.YthnjbmaiebiehaaOff
import Derived.Test.YthnjbmaiebiehaaOrd
namespace Go.Proofs.Ythnjbmaiebiehaa
open Go.RowKit
set_option linter.unusedVariables false

theorem hT_ : Try.prog.underlying 62 = some (.map 72 23) := by kernel_rfl
theorem hK_ : Try.prog.underlying 72 = some (.array 4 5) := by kernel_rfl
theorem hU_ : Try.prog.underlying 5 = some (.int .u8) := by kernel_rfl
theorem hcU_ : Try.prog.cellsOf 5 = 1 := by kernel_rfl
theorem hKi_ : (Try.prog.info? 72).map (·.size) = some 4 := by kernel_rfl
theorem hEz_ : (Try.prog.info? 23).map (·.zero) = some (some (.slice none 0 0)) := by kernel_rfl
theorem hE_ (w : World) : (zeroValue 23).run Try.prog w = .ok (.slice none 0 0) w := by
  obtain ⟨i, hi, hz⟩ := Option.map_eq_some_iff.1 hEz_
  simp [zeroValue, typeInfo, hi, hz]

/-- The places from lo on, m of them, at which these four bytes stand. -/
def win (bs : List UInt8) (lo m : Nat) (k : List UInt8) : List Nat := (List.range' lo m).filter (fun j => decide ((bs.drop j).take 4 = k ∧ k.length = 4))
theorem win_len (bs : List UInt8) (lo m : Nat) (k : List UInt8) : (win bs lo m k).length ≤ m := by
  have := List.length_filter_le (fun j => decide ((bs.drop j).take 4 = k ∧ k.length = 4)) (List.range' lo m)
  simpa [win] using this
theorem win_short {bs : List UInt8} {lo m : Nat} {k : List UInt8} (h : k.length ≠ 4) : win bs lo m k = [] := by
  unfold win
  rw [List.filter_eq_nil_iff]
  intro j _
  simp [h]
theorem win_more (bs : List UInt8) (lo m : Nat) (k : List UInt8) : win bs lo (m + 1) k = if (bs.drop (lo + m)).take 4 = k ∧ k.length = 4 then win bs lo m k ++ [lo + m] else win bs lo m k := by
  unfold win
  rw [List.range'_concat, Nat.one_mul, List.filter_append]
  by_cases h : (bs.drop (lo + m)).take 4 = k ∧ k.length = 4
  · rw [if_pos h, List.filter_cons_of_pos (by simp [h.1, h.2])]; rfl
  · rw [if_neg h, List.filter_cons_of_neg (by simpa using h)]; simp
theorem win_less (bs : List UInt8) (lo m : Nat) (k : List UInt8) : win bs lo (m + 1) k = if (bs.drop lo).take 4 = k ∧ k.length = 4 then lo :: win bs (lo + 1) m k else win bs (lo + 1) m k := by
  unfold win
  rw [List.range'_succ]
  by_cases h : (bs.drop lo).take 4 = k ∧ k.length = 4
  · rw [if_pos h, List.filter_cons_of_pos (by simp [h.1, h.2])]
  · rw [if_neg h, List.filter_cons_of_neg (by simpa using h)]

/-- Block b is the map of the places that L tells; their rows lie behind b, and none in the block pb. -/
def Places (w : World) (b : Nat) (pb : Option Nat) (L : List UInt8 → List Nat) : Prop := ∃ f, MapAt w b f ∧
  (∀ k, (f k = none ∧ L k = []) ∨ ∃ v, f k = some v ∧ L k ≠ [] ∧ OffRow w v (L k) ∧ (∀ g, v.ownBlock = some g → b < g) ∧ v.ownBlock ≠ pb) ∧ ∀ k1 k2 v1 v2, k1 ≠ k2 → f k1 = some v1 → f k2 = some v2 → v1.ownBlock ≠ v2.ownBlock
theorem Places.kept {w w' : World} {b : Nat} {pb : Option Nat} {L : List UInt8 → List Nat} (h : Places w b pb L) (hg : w.grownBy w' pb) (hb : some b ≠ pb) : Places w' b pb L := by
  obtain ⟨f, hM, hf, hd⟩ := h
  refine ⟨f, hM.kept hg hb, fun k => ?_, hd⟩
  rcases hf k with h1 | ⟨v, h1, h2, h3, h4, h5⟩
  · exact .inl h1
  · exact .inr ⟨v, h1, h2, h3.kept hg h5, h4, h5⟩
theorem Places.reno {w : World} {b : Nat} {pb pb' : Option Nat} {L : List UInt8 → List Nat} (h : Places w b pb L) (hp : pb' = pb ∨ ∃ g, pb' = some g ∧ w.heap.size ≤ g) : Places w b pb' L := by
  rcases hp with rfl | ⟨g, rfl, hg⟩
  · exact h
  · obtain ⟨f, hM, hf, hd⟩ := h
    refine ⟨f, hM, fun k => ?_, hd⟩
    rcases hf k with h1 | ⟨v, h1, h2, h3, h4, h5⟩
    · exact .inl h1
    · refine .inr ⟨v, h1, h2, h3, h4, fun e => ?_⟩
      obtain ⟨g', e', hlt⟩ := h3.lt
      rw [e'] at e; injection e with e; omega
theorem Places.grows {w w' : World} {b : Nat} {pb : Option Nat} {L : List UInt8 → List Nat} (h : Places w b pb L) (hg : Grows w w') : Places w' b pb L := by
  obtain ⟨f, hM, hf, hd⟩ := h
  have hgn : w.grownBy w' none := grows_by hg none
  refine ⟨f, hM.kept hgn (by simp), fun k => ?_, hd⟩
  rcases hf k with h1 | ⟨v, h1, h2, h3, h4, h5⟩
  · exact .inl h1
  · refine .inr ⟨v, h1, h2, h3.kept hgn ?_, h4, h5⟩
    obtain ⟨g', e', hlt⟩ := h3.lt
    rw [e']; simp

set_option maxRecDepth 20000 in
set_option maxHeartbeats 1000000 in
theorem at_any (b : Nat) (pb : Option Nat) (L : List UInt8 → List Nat) (A : Option Addr) (n c i : Nat) (bs : List UInt8) (w : World) (hP : Places w b pb L) (hs : ∀ k, k.length ≠ 4 → L k = []) (hl : bs.length = n) (hr : Lies w w.heap.size A (bs.map bv)) (hc : n ≤ c)
    (hi : i < n) (hn : n ≤ 1000000000000) :
    Calls Try.prog 37 #[.map (some b), .slice A n c, iv i] w fun e w' => ∃ A2 c2, e = .returned (.slice A2 (L ((bs.drop i).take 4)).length c2) ∧ Lies w w.heap.size A2 ((L ((bs.drop i).take 4)).map iv) ∧ w' = w := by
  by_cases h4 : i + 4 ≤ n
  · have hkl : ((bs.drop i).take 4).length = 4 := by rw [List.length_take, List.length_drop]; omega
    have hLK : Lies w w.heap.size (A.map (·.add i)) (((bs.drop i).take 4).map bv) := by
      rw [List.map_take, List.map_drop]; exact (hr.from_ i).take 4
    generalize (bs.drop i).take 4 = key at *
    obtain ⟨f, hM, hf, hd⟩ := hP
    have hget := hM.get hT_ hK_ hU_ hcU_ hE_ hkl
    have hld := load_lies (P := Try.prog) hK_ hKi_ hkl hLK
    obtain ⟨A2, c2, hv, hL2⟩ : ∃ A2 c2, (f key).getD (.slice none 0 0) = .slice A2 (L key).length c2 ∧ Lies w w.heap.size A2 ((L key).map iv) := by
      rcases hf key with ⟨h1, h2⟩ | ⟨v, h1, h2, h3, _⟩
      · exact ⟨none, 0, by rw [h1, h2]; rfl, by rw [h2]; exact Lies.empty⟩
      · obtain ⟨A2, c2, e, hL2⟩ := h3.lies
        exact ⟨A2, c2, by rw [h1]; exact e, hL2⟩
    rw [hv] at hget
    have HG := Lib.hid hget
    have HLD := Lib.hid hld
    have HL2 := Lib.hid hL2
    clear hget hld hL2 hv hf hd hM hLK
    have hci : ¬ c = i := by omega
    go_enter Try.func37, Try.ntmps37
    go_wp2_with (first
      | (with_reducible refine wpList_arrayAt rfl 72 (.tmp 17) rfl _ _ _ rfl (run_arrayAt (P := Try.prog) hK_ _ _ _ (by omega) _) ?_)
      | (with_reducible refine wpList_loads rfl 72 (.tmp 18) rfl _ rfl _ HLD.out ?_)
      | (with_reducible refine wpList_look rfl 62 (.tmp 12) (.tmp 19) rfl (.map (some b)) (dv key) _ rfl rfl HG.out ?_))
    go_ret
    exact ⟨A2, c2, rfl, HL2.out, rfl⟩
  · have hkl : ((bs.drop i).take 4).length ≠ 4 := by rw [List.length_take, List.length_drop]; omega
    rw [hs _ hkl]
    go_enter Try.func37, Try.ntmps37
    go_wp2
    go_ret
    exact ⟨none, 0, rfl, Lies.empty, rfl⟩

/-- One place more at a key. -/
def more (L : List UInt8 → List Nat) (key : List UInt8) (js : List Nat) : List UInt8 → List Nat := fun k => if k = key then js else L k
/-- Another value at a key. -/
theorem Places.upd_ {w w' : World} {b : Nat} {pb : Option Nat} {L : List UInt8 → List Nat} {f : List UInt8 → Option Value} {key : List UInt8} {v' : Value} {js : List Nat}
    (hf : ∀ k, (f k = none ∧ L k = []) ∨ ∃ v, f k = some v ∧ L k ≠ [] ∧ OffRow w v (L k) ∧ (∀ g, v.ownBlock = some g → b < g) ∧ v.ownBlock ≠ pb) (hd : ∀ k1 k2 v1 v2, k1 ≠ k2 → f k1 = some v1 → f k2 = some v2 → v1.ownBlock ≠ v2.ownBlock)
    (hM : MapAt w' b (upd f key (some v'))) (hj : js ≠ []) (hO : OffRow w' v' js) (hb : ∀ g, v'.ownBlock = some g → b < g) (hp : v'.ownBlock ≠ pb)
    (hfar : ∀ k v, k ≠ key → f k = some v → v.ownBlock ≠ v'.ownBlock) (hkeep : ∀ k v, k ≠ key → f k = some v → OffRow w v (L k) → OffRow w' v (L k)) : Places w' b pb (more L key js) := by
  refine ⟨_, hM, fun k => ?_, fun k1 k2 v1 v2 hne h1 h2 => ?_⟩
  · unfold upd more
    by_cases hk : k = key
    · rw [if_pos hk, if_pos hk]
      exact .inr ⟨v', rfl, hj, hO, hb, hp⟩
    · rw [if_neg hk, if_neg hk]
      rcases hf k with h1 | ⟨v, h1, h2, h3, h4, h5⟩
      · exact .inl h1
      · exact .inr ⟨v, h1, h2, hkeep k v hk h1 h3, h4, h5⟩
  · unfold upd at h1 h2
    by_cases e1 : k1 = key
    · rw [if_pos e1] at h1
      have e2 : k2 ≠ key := fun e => hne (e1.trans e.symm)
      rw [if_neg e2] at h2
      injection h1 with h1
      subst h1
      exact fun e => hfar k2 v2 e2 h2 e.symm
    · rw [if_neg e1] at h1
      by_cases e2 : k2 = key
      · rw [if_pos e2] at h2
        injection h2 with h2
        subst h2
        exact hfar k1 v1 e1 h1
      · rw [if_neg e2] at h2
        exact hd k1 k2 v1 v2 hne h1 h2

theorem keep_core (w : World) (b : Nat) (pb : Option Nat) (L : List UInt8 → List Nat) (key : List UInt8) (i : Nat) (hP : Places w b pb L) (hk : key.length = 4) (hb : some b ≠ pb) (hpl : ∀ g, pb = some g → g < w.heap.size) (hl : (L key).length ≤ 1000000000000) :
    ∃ v born w3 v' w4 w5, (Instr.mapEntry 62 (.map (some b)) (dv key)).run Try.prog (w.alloc (.cells #[iv i] 3)) = .ok (.tuple #[v, born]) w3 ∧
      (Builtin.append_ #[23, 23] 23 #[v, .slice (some ⟨w.heap.size, 0, none⟩) 1 1]).run Try.prog w3 = .ok v' w4 ∧ (Instr.entryStore 62 (.map (some b)) born v').run Try.prog w4 = .ok () w5 ∧
      Places w5 b pb (more L key (L key ++ [i])) ∧ Below b w w5 ∧ ∀ g, pb = some g → w5.heap[g]? = w.heap[g]? := by
  obtain ⟨i0, hi0, hz0, hz1, hz2⟩ := info_parts int_info
  obtain ⟨f, hM, hf, hd⟩ := hP
  have hbw := hM.lt
  have hM1 := hM.kept (World.grownBy_alloc w (.cells #[iv i] 3) none) (by simp)
  obtain ⟨w3, born, r1, g3, s3, back⟩ := hM1.entry hT_ hK_ hU_ hcU_ hE_ hk
  rw [World.size_alloc] at s3
  have hx : w3.cell? ((⟨w.heap.size, 0, none⟩ : Addr).add 0) = some (iv i) := by
    rw [add_plain]
    refine (World.cell?_of_block (g3.block w.heap.size (by rw [World.size_alloc]; omega) (by simp; omega))).trans ?_
    rw [cell_of_row _ _ _ _ 3 (0, 0) (heap_alloc_new w _)]; rfl
  -- what is kept up to w3
  have keep3 : ∀ v js, OffRow w v js → (∀ g, v.ownBlock = some g → b < g) → OffRow w3 v js := fun v js hO hg => by
    obtain ⟨g, e, hlt⟩ := hO.lt
    refine (hO.kept (World.grownBy_alloc w _ none) (by rw [e]; simp)).kept g3 ?_
    rw [e]
    have := hg g e
    simp; omega
  have hv : ((f key).getD (.slice none 0 0) = .slice none 0 0 ∧ L key = []) ∨ OffRow w3 ((f key).getD (.slice none 0 0)) (L key) := by
    rcases hf key with ⟨h1, h2⟩ | ⟨v, h1, h2, h3, h4, h5⟩
    · exact .inl ⟨by rw [h1]; rfl, h2⟩
    · exact .inr (by rw [h1]; exact keep3 v _ h3 h4)
  obtain ⟨v', w4, r2, hO4, hW4⟩ := off_append (P := Try.prog) 23 23 3 i0 Try.underlying23 hi0 hz0 hz1 hz2 hv ⟨w.heap.size, 0, none⟩ i hx hl
  have hob : ∀ g, ((f key).getD (.slice none 0 0)).ownBlock = some g → b < g ∧ pb ≠ some g ∧ g < w.heap.size := fun g hg => by
    rcases hf key with ⟨h1, h2⟩ | ⟨v, h1, h2, h3, h4, h5⟩
    · rw [h1] at hg; simp [Value.ownBlock] at hg
    · rw [h1] at hg
      obtain ⟨g', e', hlt⟩ := h3.lt
      have hg' : v.ownBlock = some g := hg
      rw [e'] at hg'; injection hg' with hg'; subst hg'
      exact ⟨h4 _ e', fun e => h5 (e'.trans e.symm), hlt⟩
  have hne4 : some b ≠ ((f key).getD (.slice none 0 0)).ownBlock := fun e => by have := (hob b e.symm).1; omega
  obtain ⟨w5, r3, hM5, g5, s5⟩ := back w4 _ v' hW4.grown hne4
  have hov : ∀ g, v'.ownBlock = some g → b < g ∧ pb ≠ some g := fun g hg => by
    rcases hW4.at_ with e | ⟨g', e, hge⟩
    · rw [e] at hg; exact ⟨(hob g hg).1, (hob g hg).2.1⟩
    · rw [e] at hg; injection hg with hg; subst hg
      exact ⟨by omega, fun e => by have := hpl _ e; omega⟩
  have keep5 : ∀ v js, OffRow w4 v js → (∀ g, v.ownBlock = some g → b < g) → OffRow w5 v js := fun v js hO hg => by
    obtain ⟨g, e, hlt⟩ := hO.lt
    refine hO.kept g5 ?_
    rw [e]
    have := hg g e
    simp; omega
  refine ⟨_, born, w3, v', w4, w5, r1, r2, r3, ?_, ?_, fun g hg => ?_⟩
  · refine Places.upd_ hf hd hM5 (by simp) (keep5 v' _ hO4 fun g hg => (hov g hg).1) (fun g hg => (hov g hg).1) ?_ ?_ ?_
    · obtain ⟨g, e, _⟩ := hO4.lt
      rw [e]
      exact fun e' => (hov g e).2 e'.symm
    · intro k v hne h1
      rcases hf k with ⟨h2, _⟩ | ⟨v2, h2, h3, h4, h5, h6⟩
      · rw [h1] at h2; cases h2
      · rw [h1] at h2; injection h2 with h2; subst h2
        obtain ⟨g, e, hlt⟩ := h4.lt
        rcases hW4.at_ with e1 | ⟨g', e1, hge⟩
        · rw [e1]
          rcases hf key with ⟨h7, _⟩ | ⟨v3, h7, h8, h9, _⟩
          · rw [h7, e]; simp [Value.ownBlock]
          · rw [h7]; exact hd k key v v3 hne h1 h7
        · rw [e1, e]; simp; omega
    · intro k v hne h1 hO
      rcases hf k with ⟨h2, _⟩ | ⟨v2, h2, h3, h4, h5, h6⟩
      · rw [h1] at h2; cases h2
      · rw [h1] at h2; injection h2 with h2; subst h2
        refine keep5 v _ ((keep3 v _ hO h5).kept hW4.grown ?_) h5
        rcases hf key with ⟨h7, _⟩ | ⟨v3, h7, h8, h9, _⟩
        · obtain ⟨g, e, hlt⟩ := hO.lt
          rw [h7, e]; simp [Value.ownBlock]
        · rw [h7]; exact hd k key v v3 hne h1 h7
  · refine (((Below.refl b w).alloc (by omega) _).grown g3 (by rw [World.size_alloc]; omega) (by simp)).trans ?_
    refine ((Below.refl b w3).grown hW4.grown (by omega) (fun g hg => by have := (hob g hg).1; omega)).trans ?_
    exact (Below.refl b w4).grown g5 (by have := hW4.grown.size; omega) (by simp)
  · have hgl := hpl g hg
    have hgb : some g ≠ some b := fun e => hb (by rw [← e, hg])
    refine (g5.block g (by have := hW4.grown.size; omega) hgb).trans ((hW4.grown.block g (by omega) fun e => ?_).trans ((g3.block g (by rw [World.size_alloc]; omega) hgb).trans (Below.heap_alloc w _ g hgl)))
    exact (hob g e.symm).2.1 hg

theorem forget_core (w : World) (b : Nat) (pb : Option Nat) (L : List UInt8 → List Nat) (key : List UInt8) (j : Nat) (js : List Nat) (hP : Places w b pb L) (hk : key.length = 4) (hb : some b ≠ pb) (hL : L key = j :: js) :
    ∃ v, (Instr.lookup 62 (.map (some b)) (dv key) false).run Try.prog w = .ok v w ∧ (∃ A c, v = .slice A (js.length + 1) c) ∧
      (js ≠ [] → ∃ v1, (∀ u, (Instr.sliceAt 23 v (some (.int .i64 1)) none none).run Try.prog u = .ok v1 u) ∧ ∀ u, Grows w u → ∃ w5, (Instr.mapUpdate 62 (.map (some b)) (dv key) v1).run Try.prog u = .ok () w5 ∧
        Places w5 b pb (more L key js) ∧ u.grownBy w5 (some b)) ∧
      (js = [] → ∀ u, Grows w u → ∃ w5, (Builtin.delete_ #[62, 72] 0 #[.map (some b), dv key]).run Try.prog u = .ok (.tuple #[]) w5 ∧ Places w5 b pb (more L key js) ∧ u.grownBy w5 (some b)) := by
  obtain ⟨f, hM, hf, hd⟩ := hP
  have hget := hM.get hT_ hK_ hU_ hcU_ hE_ hk
  rcases hf key with ⟨h1, h2⟩ | ⟨v, h1, h2, h3, h4, h5⟩
  · rw [hL] at h2; cases h2
  rw [h1] at hget
  rw [hL] at h3
  have hin : f key ≠ none := by rw [h1]; simp
  refine ⟨v, hget, ?_, fun hj => ?_, fun hj u hu => ?_⟩
  · obtain ⟨A, c, e, _⟩ := h3.lies
    exact ⟨A, c, e⟩
  · obtain ⟨v1, hr, hO, hob⟩ := off_cut (P := Try.prog) 23 3 Try.underlying23 int_one h3 hj .i64
    refine ⟨v1, hr, fun u hu => ?_⟩
    have hgn := grows_by hu none
    obtain ⟨w5, r5, hM5, g5, s5⟩ := (hM.kept hgn (by simp)).put hT_ hK_ hU_ hcU_ hE_ hk hin v1
    have keep5 : ∀ v js, OffRow w v js → (∀ g, v.ownBlock = some g → b < g) → OffRow w5 v js := fun v js hO hg => by
      obtain ⟨g, e, hlt⟩ := hO.lt
      refine (hO.kept hgn (by rw [e]; simp)).kept g5 ?_
      rw [e]
      have := hg g e
      simp; omega
    refine ⟨w5, r5, ?_, g5⟩
    refine Places.upd_ hf hd hM5 hj (keep5 v1 _ hO fun g hg => h4 g (hob ▸ hg)) (fun g hg => h4 g (hob ▸ hg)) (hob ▸ h5) ?_ ?_
    · intro k v2 hne h6
      rw [hob]
      exact hd k key v2 v hne h6 h1
    · intro k v2 hne h6 hO2
      rcases hf k with ⟨h7, _⟩ | ⟨v3, h7, h8, h9, h10, h11⟩
      · rw [h6] at h7; cases h7
      · rw [h6] at h7; injection h7 with h7; subst h7
        exact keep5 v2 _ hO2 h10
  · have hgn := grows_by hu none
    obtain ⟨w5, r5, hM5, g5, s5⟩ := (hM.kept hgn (by simp)).del hT_ hK_ hU_ hcU_ hE_ hk hin 0 72
    refine ⟨w5, r5, ⟨_, hM5, fun k => ?_, fun k1 k2 v1 v2 hne e1 e2 => ?_⟩, g5⟩
    · unfold upd more
      by_cases hk' : k = key
      · rw [if_pos hk', if_pos hk']; exact .inl ⟨rfl, hj⟩
      · rw [if_neg hk', if_neg hk']
        rcases hf k with h7 | ⟨v3, h7, h8, h9, h10, h11⟩
        · exact .inl h7
        · obtain ⟨g, e, hlt⟩ := h9.lt
          refine .inr ⟨v3, h7, h8, (h9.kept hgn (by rw [e]; simp)).kept g5 ?_, h10, h11⟩
          rw [e]
          have := h10 g e
          simp; omega
    · unfold upd at e1 e2
      by_cases hk1 : k1 = key
      · rw [if_pos hk1] at e1; cases e1
      · by_cases hk2 : k2 = key
        · rw [if_pos hk2] at e2; cases e2
        · rw [if_neg hk1] at e1; rw [if_neg hk2] at e2
          exact hd k1 k2 v1 v2 hne e1 e2

/-- Another block than the map's and the rows' is as it was. -/
def Kept (b : Nat) (pb : Option Nat) (w w' : World) : Prop := Below b w w' ∧ ∀ g, pb = some g → w'.heap[g]? = w.heap[g]?

set_option maxRecDepth 20000 in
set_option maxHeartbeats 1000000 in
theorem keep_any (b : Nat) (pb : Option Nat) (A : Option Addr) (n c i lo m : Nat) (bs : List UInt8) (w : World) (hP : Places w b pb (win bs lo m)) (hlm : lo + m = i) (hb : some b ≠ pb) (hpl : ∀ g, pb = some g → g < w.heap.size) (hbw : b < w.heap.size) (hl : bs.length = n)
    (hr : Lies w w.heap.size A (bs.map bv)) (hc : n ≤ c) (hi : i < n) (hn : n ≤ 1000000000000) :
    Calls Try.prog 40 #[.map (some b), .slice A n c, iv i] w fun e w' => (∃ v, e = .returned v) ∧ Places w' b pb (win bs lo (m + 1)) ∧ Kept b pb w w' := by
  by_cases h4 : i + 4 ≤ n
  · have hkl : ((bs.drop i).take 4).length = 4 := by rw [List.length_take, List.length_drop]; omega
    have hLK : Lies w w.heap.size (A.map (·.add i)) (((bs.drop i).take 4).map bv) := by
      rw [List.map_take, List.map_drop]; exact (hr.from_ i).take 4
    have HW : Hid (win bs lo (m + 1) = more (win bs lo m) ((bs.drop i).take 4) (win bs lo m ((bs.drop i).take 4) ++ [i])) := by
      show _ = _
      funext k
      rw [win_more, hlm]
      unfold more
      by_cases hk : k = (bs.drop i).take 4
      · rw [if_pos hk, if_pos ⟨hk.symm, by rw [hk]; exact hkl⟩, hk]
      · rw [if_neg hk, if_neg (fun h => hk h.1.symm)]
    have hwl := win_len bs lo m ((bs.drop i).take 4)
    generalize (bs.drop i).take 4 = key at *
    have hld := load_lies (P := Try.prog) hK_ hKi_ hkl hLK
    have HLD := Lib.hid hld
    have HK := Lib.hid hkl
    have hm0 : m ≤ 1000000000000 := by omega
    clear hld hLK hkl
    have hbox := Has.new w 72 [bv 0, bv 0, bv 0, bv 0]
    have hci : ¬ c = i := by omega
    have HP := Lib.hid hP
    clear hP
    generalize win bs lo m = L at *
    go_enter Try.func40, Try.ntmps40
    go_wp2_with (first
      | (with_reducible refine wpList_arrayAt rfl 72 (.tmp 16) rfl _ _ _ rfl (run_arrayAt (P := Try.prog) hK_ _ _ _ (by omega) _) ?_)
      | (with_reducible refine wpList_loads rfl 72 (.tmp 17) rfl _ rfl _ HLD.out ?_)
      | (refine wpList_storev rfl 72 (.tmp 6) (.tmp 18) rfl w.heap.size [bv 0, bv 0, bv 0, bv 0] (key.map bv) 4 rfl rfl hbox rfl (by rw [List.length_map]; exact HK.out) hKi_ (bv_one _) ?_; intro w1 hbox1 hbel1; have hG1 : Grows w w1 := hbel1 w.heap.size w (Nat.le_refl _) (grows_alloc _ _); have hld1 := hbox1.load hK_ rfl (by rw [List.length_map, HK.out]; exact hKi_); obtain ⟨v, born, w3, v', w4, w5, r1, r2, r3, hP5, hB5, hpb5⟩ := keep_core w1 b pb L key i (HP.out.grows hG1) HK.out hb (fun g hg => Nat.lt_of_lt_of_le (hpl g hg) hG1.size) (by omega))
      | (with_reducible refine wpList_loads rfl 72 (.tmp 6) rfl _ rfl _ hld1 ?_)
      | (with_reducible refine wpList_mapEntry rfl 62 (.tmp 19) (.tmp 20) rfl (.map (some b)) (dv key) _ w3 rfl rfl r1 ?_)
      | (at_builtin; with_reducible refine wpList_appendv rfl (.tmp 21) (.tmp 23) 23 rfl v (.slice (some ⟨w1.heap.size, 0, none⟩) 1 1) v' w4 rfl rfl r2 ?_)
      | (with_reducible refine wpList_entryStore rfl 62 (.tmp 19) (.tmp 26) (.tmp 25) rfl (.map (some b)) born v' w5 rfl rfl rfl r3 ?_))
    go_end0
    refine ⟨⟨_, rfl⟩, ?_, ?_, fun g hg => ?_⟩
    · rw [HW.out]; exact hP5
    · exact Below.trans (hG1.mono (by omega)) hB5
    · exact (hpb5 g hg).trans (hG1.block g (hpl g hg))
  · have HW : Hid (win bs lo (m + 1) = win bs lo m) := by
      show _ = _
      funext k
      rw [win_more, hlm, if_neg]
      rintro ⟨h1, h2⟩
      rw [← h1, List.length_take, List.length_drop] at h2
      omega
    go_enter Try.func40, Try.ntmps40
    go_wp2
    go_end0
    refine ⟨⟨_, rfl⟩, ?_, Below.refl _ _, fun g hg => rfl⟩
    rw [HW.out]; exact hP

set_option maxRecDepth 20000 in
set_option maxHeartbeats 1000000 in
theorem forget_none (b : Nat) (A : Option Addr) (n c : Nat) (z : Int) (w : World) (hz : z < 0) :
    Calls Try.prog 41 #[.map (some b), .slice A n c, .int .i64 z] w fun e w' => (∃ v, e = .returned v) ∧ w' = w := by
  go_enter Try.func41, Try.ntmps41
  go_wp2
  refine bodyPost_ret (results_none rfl _ _ _) rfl ?_
  exact ⟨⟨_, rfl⟩, rfl⟩

set_option maxRecDepth 20000 in
set_option maxHeartbeats 1000000 in
theorem forget_any (b : Nat) (pb : Option Nat) (A : Option Addr) (n c lo m : Nat) (bs : List UInt8) (w : World) (hP : Places w b pb (win bs lo (m + 1))) (hb : some b ≠ pb) (hpl : ∀ g, pb = some g → g < w.heap.size) (hbw : b < w.heap.size) (hl : bs.length = n)
    (hr : Lies w w.heap.size A (bs.map bv)) (hc : n ≤ c) (h4 : lo + 4 ≤ n) (hn : n ≤ 1000000000000) (hm : m ≤ 1000000000000) :
    Calls Try.prog 41 #[.map (some b), .slice A n c, iv lo] w fun e w' => (∃ v, e = .returned v) ∧ Places w' b pb (win bs (lo + 1) m) ∧ Kept b pb w w' := by
  have hkl : ((bs.drop lo).take 4).length = 4 := by rw [List.length_take, List.length_drop]; omega
  have hLK : Lies w w.heap.size (A.map (·.add lo)) (((bs.drop lo).take 4).map bv) := by
    rw [List.map_take, List.map_drop]; exact (hr.from_ lo).take 4
  have HW : Hid (win bs (lo + 1) m = more (win bs lo (m + 1)) ((bs.drop lo).take 4) (win bs (lo + 1) m ((bs.drop lo).take 4))) := by
    show _ = _
    funext k
    unfold more
    by_cases hk : k = (bs.drop lo).take 4
    · rw [if_pos hk, hk]
    · rw [if_neg hk, win_less, if_neg (fun h => hk h.1.symm)]
  have hwl := win_len bs (lo + 1) m ((bs.drop lo).take 4)
  have HLk := Lib.hid (show win bs lo (m + 1) ((bs.drop lo).take 4) = lo :: win bs (lo + 1) m ((bs.drop lo).take 4) by rw [win_less, if_pos ⟨rfl, hkl⟩])
  generalize (bs.drop lo).take 4 = key at *
  have hld := load_lies (P := Try.prog) hK_ hKi_ hkl hLK
  have HLD := Lib.hid hld
  have HK := Lib.hid hkl
  clear hld hLK hkl
  have hbox := Has.new w 72 [bv 0, bv 0, bv 0, bv 0]
  have hci : ¬ c = lo := by omega
  have HP := Lib.hid hP
  clear hP
  generalize win bs lo (m + 1) = L at *
  generalize win bs (lo + 1) m key = js at *
  by_cases hj : js = []
  · go_enter Try.func41, Try.ntmps41
    go_wp2_with (first
      | (with_reducible refine wpList_arrayAt rfl 72 (.tmp 14) rfl _ _ _ rfl (run_arrayAt (P := Try.prog) hK_ _ _ _ (by omega) _) ?_)
      | (with_reducible refine wpList_loads rfl 72 (.tmp 15) rfl _ rfl _ HLD.out ?_)
      | (refine wpList_storev rfl 72 (.tmp 6) (.tmp 16) rfl w.heap.size [bv 0, bv 0, bv 0, bv 0] (key.map bv) 4 rfl rfl hbox rfl (by rw [List.length_map]; exact HK.out) hKi_ (bv_one _) ?_; intro w1 hbox1 hbel1; have hG1 : Grows w w1 := hbel1 w.heap.size w (Nat.le_refl _) (grows_alloc _ _); have hld1 := hbox1.load hK_ rfl (by rw [List.length_map, HK.out]; exact hKi_); obtain ⟨v, r1, ⟨A1, c1, rfl⟩, _, hdel⟩ := forget_core w1 b pb L key lo js (HP.out.grows hG1) HK.out hb HLk.out; obtain ⟨w5, r5, hP5, g5⟩ := hdel hj w1 (Grows.refl _); subst hj)
      | (with_reducible refine wpList_loads rfl 72 (.tmp 6) rfl _ rfl _ hld1 ?_)
      | (with_reducible refine wpList_look rfl 62 (.tmp 17) (.tmp 18) rfl (.map (some b)) (dv key) _ rfl rfl r1 ?_)
      | (with_reducible refine wpList_deletev rfl (.tmp 27) (.tmp 28) 62 72 rfl (.map (some b)) (dv key) (.tuple #[]) w5 rfl rfl r5 ?_))
    go_end0
    refine ⟨⟨_, rfl⟩, ?_, ?_, fun g hg => ?_⟩
    · rw [HW.out]; exact hP5
    · exact Below.trans (hG1.mono (by omega)) ((Below.refl b w1).grown g5 (by have := hG1.size; omega) (by simp))
    · exact (g5.block g (by have := hG1.size; have := hpl g hg; omega) (fun e => hb (by rw [← e, hg]))).trans (hG1.block g (hpl g hg))
  · have hjl : 0 < js.length := List.length_pos_iff.2 hj
    go_enter Try.func41, Try.ntmps41
    go_wp2_with (first
      | (with_reducible refine wpList_arrayAt rfl 72 (.tmp 14) rfl _ _ _ rfl (run_arrayAt (P := Try.prog) hK_ _ _ _ (by omega) _) ?_)
      | (with_reducible refine wpList_loads rfl 72 (.tmp 15) rfl _ rfl _ HLD.out ?_)
      | (refine wpList_storev rfl 72 (.tmp 6) (.tmp 16) rfl w.heap.size [bv 0, bv 0, bv 0, bv 0] (key.map bv) 4 rfl rfl hbox rfl (by rw [List.length_map]; exact HK.out) hKi_ (bv_one _) ?_; intro w1 hbox1 hbel1; have hG1 : Grows w w1 := hbel1 w.heap.size w (Nat.le_refl _) (grows_alloc _ _); have hld1 := hbox1.load hK_ rfl (by rw [List.length_map, HK.out]; exact hKi_); obtain ⟨v, r1, ⟨A1, c1, rfl⟩, hput, _⟩ := forget_core w1 b pb L key lo js (HP.out.grows hG1) HK.out hb HLk.out; obtain ⟨v1, rcut, hput⟩ := hput hj)
      | (with_reducible refine wpList_loads rfl 72 (.tmp 6) rfl _ rfl _ hld1 ?_)
      | (with_reducible refine wpList_look rfl 62 (.tmp 17) (.tmp 18) rfl (.map (some b)) (dv key) _ rfl rfl r1 ?_))
    have ldk : ∀ u, Grows w1.drew u → (Instr.loadAt 72 (.pointer (some ⟨w.heap.size, 0, none⟩))).run Try.prog u = .ok (dv key) u := fun u hu =>
      (hbox1.later (Grows.trans (Grows.refl w1).drew hu)).load hK_ rfl (by rw [List.length_map, HK.out]; exact hKi_)
    clear hld1
    have hO := Grows.refl w1.drew
    refine wp_region_ord 4 [(0, true), (1, true), (2, true), (3, true)] (by kernel_rfl) (by kernel_rfl) ?_
    repeat (first | (refine ord_load hO _ _ (by simp only [List.getElem?_cons_succ, List.getElem?_cons_zero]; rfl) (by rfl) 72 (.tmp 6) (by rfl) _ (by rfl) ldk ?_; try simp only [Act.put, List.setIfInBounds_toArray, List.set_cons_zero, List.set_cons_succ]) | (refine ord_cut hO _ _ (by simp only [List.getElem?_cons_succ, List.getElem?_cons_zero]; rfl) (by rfl) 23 (.tmp 25) (some (.const (.int .i64 1))) none none (by rfl) rcut ?_; try simp only [Act.put, List.setIfInBounds_toArray, List.set_cons_zero, List.set_cons_succ]) | (refine ord_take hO _ ?_ (by simp only [List.getElem?_cons_succ, List.getElem?_cons_zero]; rfl) (by rfl) ?_ ?_; rotate_left; (· (intro u hu0 hu; (try go_simp); (try with_reducible rfl))); try simp only [Act.put, List.setIfInBounds_toArray, List.set_cons_zero, List.set_cons_succ]) | (refine ord_skip _ (by simp only [List.getElem?_cons_succ, List.getElem?_cons_zero]; rfl) (by rfl) ?_; try simp only [Act.put, List.setIfInBounds_toArray, List.set_cons_zero, List.set_cons_succ]))
    clear hO ldk
    (refine ord_done (fun u hu => ?_); simp only [List.drop_succ_cons, List.drop_zero])
    have hgu := Grows.trans (Grows.refl w1).drew hu
    obtain ⟨w5, r5, hP5, g5⟩ := hput u hgu
    clear hput
    go_wp2_with (with_reducible refine wpList_mapPut rfl 62 (.tmp 23) (.tmp 24) (.tmp 26) rfl (.map (some b)) (dv key) v1 w5 rfl rfl rfl r5 ?_)
    refine NoPanic.normal ?_
    go_wp2_with fail
    go_end0
    have hG2 := Grows.trans hG1 hgu
    refine ⟨⟨_, rfl⟩, ?_, ?_, fun g hg => ?_⟩
    · rw [HW.out]; exact hP5
    · exact Below.trans (hG2.mono (by omega)) ((Below.refl b u).grown g5 (by have := hG2.size; omega) (by simp))
    · exact (g5.block g (by have := hG2.size; have := hpl g hg; omega) (fun e => hb (by rw [← e, hg]))).trans (hG2.block g (hpl g hg))
end Go.Proofs.Ythnjbmaiebiehaa
