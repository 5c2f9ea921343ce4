/-
  Contracts, joined (LzD LzE LzF LzG L5A).
-/
import Derived.Test.YtbcldknecdbemaaGreatDoorQ4
import Derived.Test.YtbcldknecdbemaaGreatDoorQ1
import Derived.ScopeJumps
import Derived.WalkMore
import Derived.Lib.SlBytesConst
import Derived.Lib.SmallJoins

/-
  The places of four bytes that lz keeps in a map: contracts of at, keep and forget.
-/
namespace Go.Proofs.YtbcldknecdbemaaGreatDoor
open Go.RowKit
set_option linter.unusedVariables false
set_option maxRecDepth 20000

theorem hT_ : Tryz.prog.underlying 178 = some (.map 212 181) := by kernel_rfl
theorem hK_ : Tryz.prog.underlying 212 = some (.array 4 5) := by kernel_rfl
theorem hU_ : Tryz.prog.underlying 5 = some (.int .u8) := by kernel_rfl
theorem hcU_ : Tryz.prog.cellsOf 5 = 1 := by kernel_rfl
theorem hKi_ : (Tryz.prog.info? 212).map (·.size) = some 4 := by kernel_rfl
theorem hEz_ : (Tryz.prog.info? 181).map (·.zero) = some (some (.slice none 0 0)) := by kernel_rfl
theorem hE_ (w : World) : (zeroValue 181).run Tryz.prog w = .ok (.slice none 0 0) w := by
  obtain ⟨i, hi, hz⟩ := Option.map_eq_some_iff.1 hEz_
  simp [zeroValue, typeInfo, hi, hz]

/-- The places from lo on, m of them, at which these four bytes stand. -/
def win (bs : List UInt8) (lo m : Nat) (k : List UInt8) : List Nat := (List.range' lo m).filter (fun j => decide ((bs.drop j).take 4 = k ∧ k.length = 4))
theorem win_len (bs : List UInt8) (lo m : Nat) (k : List UInt8) : (win bs lo m k).length ≤ m := by
  have := List.length_filter_le (fun j => decide ((bs.drop j).take 4 = k ∧ k.length = 4)) (List.range' lo m)
  simpa [win] using this
theorem win_short {bs : List UInt8} {lo m : Nat} {k : List UInt8} (h : k.length ≠ 4) : win bs lo m k = [] := by
  unfold win
  rw [List.filter_eq_nil_iff]
  intro j _
  simp [h]
theorem win_more (bs : List UInt8) (lo m : Nat) (k : List UInt8) : win bs lo (m + 1) k = if (bs.drop (lo + m)).take 4 = k ∧ k.length = 4 then win bs lo m k ++ [lo + m] else win bs lo m k := by
  unfold win
  rw [List.range'_concat, Nat.one_mul, List.filter_append]
  by_cases h : (bs.drop (lo + m)).take 4 = k ∧ k.length = 4
  · rw [if_pos h, List.filter_cons_of_pos (by simp [h.1, h.2])]; rfl
  · rw [if_neg h, List.filter_cons_of_neg (by simpa using h)]; simp
theorem win_less (bs : List UInt8) (lo m : Nat) (k : List UInt8) : win bs lo (m + 1) k = if (bs.drop lo).take 4 = k ∧ k.length = 4 then lo :: win bs (lo + 1) m k else win bs (lo + 1) m k := by
  unfold win
  rw [List.range'_succ]
  by_cases h : (bs.drop lo).take 4 = k ∧ k.length = 4
  · rw [if_pos h, List.filter_cons_of_pos (by simp [h.1, h.2])]
  · rw [if_neg h, List.filter_cons_of_neg (by simpa using h)]

/-- Block b is the map of the places that L tells; their rows lie behind b, and none in the block pb. -/
def Places (w : World) (b : Nat) (pb : Option Nat) (L : List UInt8 → List Nat) : Prop := ∃ f, MapAt w b f ∧
  (∀ k, (f k = none ∧ L k = []) ∨ ∃ v, f k = some v ∧ L k ≠ [] ∧ OffRow w v (L k) ∧ (∀ g, v.ownBlock = some g → b < g) ∧ v.ownBlock ≠ pb) ∧ ∀ k1 k2 v1 v2, k1 ≠ k2 → f k1 = some v1 → f k2 = some v2 → v1.ownBlock ≠ v2.ownBlock
theorem Places.kept {w w' : World} {b : Nat} {pb : Option Nat} {L : List UInt8 → List Nat} (h : Places w b pb L) (hg : w.grownBy w' pb) (hb : some b ≠ pb) : Places w' b pb L := by
  obtain ⟨f, hM, hf, hd⟩ := h
  refine ⟨f, hM.kept hg hb, fun k => ?_, hd⟩
  rcases hf k with h1 | ⟨v, h1, h2, h3, h4, h5⟩
  · exact .inl h1
  · exact .inr ⟨v, h1, h2, h3.kept hg h5, h4, h5⟩
theorem Places.reno {w : World} {b : Nat} {pb pb' : Option Nat} {L : List UInt8 → List Nat} (h : Places w b pb L) (hp : pb' = pb ∨ ∃ g, pb' = some g ∧ w.heap.size ≤ g) : Places w b pb' L := by
  rcases hp with rfl | ⟨g, rfl, hg⟩
  · exact h
  · obtain ⟨f, hM, hf, hd⟩ := h
    refine ⟨f, hM, fun k => ?_, hd⟩
    rcases hf k with h1 | ⟨v, h1, h2, h3, h4, h5⟩
    · exact .inl h1
    · refine .inr ⟨v, h1, h2, h3, h4, fun e => ?_⟩
      obtain ⟨g', e', hlt⟩ := h3.lt
      rw [e'] at e; injection e with e; omega
theorem Places.grows {w w' : World} {b : Nat} {pb : Option Nat} {L : List UInt8 → List Nat} (h : Places w b pb L) (hg : Grows w w') : Places w' b pb L := by
  obtain ⟨f, hM, hf, hd⟩ := h
  have hgn : w.grownBy w' none := grows_by hg none
  refine ⟨f, hM.kept hgn (by simp), fun k => ?_, hd⟩
  rcases hf k with h1 | ⟨v, h1, h2, h3, h4, h5⟩
  · exact .inl h1
  · refine .inr ⟨v, h1, h2, h3.kept hgn ?_, h4, h5⟩
    obtain ⟨g', e', hlt⟩ := h3.lt
    rw [e']; simp

set_option maxRecDepth 20000 in
set_option maxHeartbeats 1000000 in
theorem at_any (b : Nat) (pb : Option Nat) (L : List UInt8 → List Nat) (A : Option Addr) (n c i : Nat) (bs : List UInt8) (w : World) (hP : Places w b pb L) (hs : ∀ k, k.length ≠ 4 → L k = []) (hl : bs.length = n) (hr : Lies w w.heap.size A (bs.map bv)) (hc : n ≤ c)
    (hi : i < n) (hn : n ≤ 1000000000000) :
    Calls Tryz.prog 137 #[.map (some b), .slice A n c, iv i] w fun e w' => ∃ A2 c2, e = .returned (.slice A2 (L ((bs.drop i).take 4)).length c2) ∧ Lies w w.heap.size A2 ((L ((bs.drop i).take 4)).map iv) ∧ w' = w := by
  by_cases h4 : i + 4 ≤ n
  · have hkl : ((bs.drop i).take 4).length = 4 := by rw [List.length_take, List.length_drop]; omega
    have hLK : Lies w w.heap.size (A.map (·.add i)) (((bs.drop i).take 4).map bv) := by
      rw [List.map_take, List.map_drop]; exact (hr.from_ i).take 4
    generalize (bs.drop i).take 4 = key at *
    obtain ⟨f, hM, hf, hd⟩ := hP
    have hget := hM.get hT_ hK_ hU_ hcU_ hE_ hkl
    have hld := load_lies (P := Tryz.prog) hK_ hKi_ hkl hLK
    obtain ⟨A2, c2, hv, hL2⟩ : ∃ A2 c2, (f key).getD (.slice none 0 0) = .slice A2 (L key).length c2 ∧ Lies w w.heap.size A2 ((L key).map iv) := by
      rcases hf key with ⟨h1, h2⟩ | ⟨v, h1, h2, h3, _⟩
      · exact ⟨none, 0, by rw [h1, h2]; rfl, by rw [h2]; exact Lies.empty⟩
      · obtain ⟨A2, c2, e, hL2⟩ := h3.lies
        exact ⟨A2, c2, by rw [h1]; exact e, hL2⟩
    rw [hv] at hget
    have HG := Lib.hid hget
    have HLD := Lib.hid hld
    have HL2 := Lib.hid hL2
    clear hget hld hL2 hv hf hd hM hLK
    have hci : ¬ c = i := by omega
    go_enter Tryz.func137, Tryz.ntmps137
    go_wp2_with (first
      | (with_reducible refine wpList_arrayAt rfl 212 (.tmp 17) rfl _ _ _ rfl (run_arrayAt4 (P := Tryz.prog) hK_ _ _ _ (by omega) _) ?_)
      | (with_reducible refine wpList_loads rfl 212 (.tmp 18) rfl _ rfl _ HLD.out ?_)
      | (with_reducible refine wpList_look rfl 178 (.tmp 12) (.tmp 19) rfl (.map (some b)) (dv key) _ rfl rfl HG.out ?_))
    go_ret
    exact ⟨A2, c2, rfl, HL2.out, rfl⟩
  · have hkl : ((bs.drop i).take 4).length ≠ 4 := by rw [List.length_take, List.length_drop]; omega
    rw [hs _ hkl]
    go_enter Tryz.func137, Tryz.ntmps137
    go_wp2
    go_ret
    exact ⟨none, 0, rfl, Lies.empty, rfl⟩

/-- One place more at a key. -/
def more (L : List UInt8 → List Nat) (key : List UInt8) (js : List Nat) : List UInt8 → List Nat := fun k => if k = key then js else L k
/-- Another value at a key. -/
theorem Places.upd_ {w w' : World} {b : Nat} {pb : Option Nat} {L : List UInt8 → List Nat} {f : List UInt8 → Option Value} {key : List UInt8} {v' : Value} {js : List Nat}
    (hf : ∀ k, (f k = none ∧ L k = []) ∨ ∃ v, f k = some v ∧ L k ≠ [] ∧ OffRow w v (L k) ∧ (∀ g, v.ownBlock = some g → b < g) ∧ v.ownBlock ≠ pb) (hd : ∀ k1 k2 v1 v2, k1 ≠ k2 → f k1 = some v1 → f k2 = some v2 → v1.ownBlock ≠ v2.ownBlock)
    (hM : MapAt w' b (upd f key (some v'))) (hj : js ≠ []) (hO : OffRow w' v' js) (hb : ∀ g, v'.ownBlock = some g → b < g) (hp : v'.ownBlock ≠ pb)
    (hfar : ∀ k v, k ≠ key → f k = some v → v.ownBlock ≠ v'.ownBlock) (hkeep : ∀ k v, k ≠ key → f k = some v → OffRow w v (L k) → OffRow w' v (L k)) : Places w' b pb (more L key js) := by
  refine ⟨_, hM, fun k => ?_, fun k1 k2 v1 v2 hne h1 h2 => ?_⟩
  · unfold upd more
    by_cases hk : k = key
    · rw [if_pos hk, if_pos hk]
      exact .inr ⟨v', rfl, hj, hO, hb, hp⟩
    · rw [if_neg hk, if_neg hk]
      rcases hf k with h1 | ⟨v, h1, h2, h3, h4, h5⟩
      · exact .inl h1
      · exact .inr ⟨v, h1, h2, hkeep k v hk h1 h3, h4, h5⟩
  · unfold upd at h1 h2
    by_cases e1 : k1 = key
    · rw [if_pos e1] at h1
      have e2 : k2 ≠ key := fun e => hne (e1.trans e.symm)
      rw [if_neg e2] at h2
      injection h1 with h1
      subst h1
      exact fun e => hfar k2 v2 e2 h2 e.symm
    · rw [if_neg e1] at h1
      by_cases e2 : k2 = key
      · rw [if_pos e2] at h2
        injection h2 with h2
        subst h2
        exact hfar k1 v1 e1 h1
      · rw [if_neg e2] at h2
        exact hd k1 k2 v1 v2 hne h1 h2

theorem keep_core (w : World) (b : Nat) (pb : Option Nat) (L : List UInt8 → List Nat) (key : List UInt8) (i : Nat) (hP : Places w b pb L) (hk : key.length = 4) (hb : some b ≠ pb) (hpl : ∀ g, pb = some g → g < w.heap.size) (hl : (L key).length ≤ 1000000000000) :
    ∃ v born w3 v' w4 w5, (Instr.mapEntry 178 (.map (some b)) (dv key)).run Tryz.prog (w.alloc (.cells #[iv i] 3)) = .ok (.tuple #[v, born]) w3 ∧
      (Builtin.append_ #[181, 181] 181 #[v, .slice (some ⟨w.heap.size, 0, none⟩) 1 1]).run Tryz.prog w3 = .ok v' w4 ∧ (Instr.entryStore 178 (.map (some b)) born v').run Tryz.prog w4 = .ok () w5 ∧
      Places w5 b pb (more L key (L key ++ [i])) ∧ Below b w w5 ∧ ∀ g, pb = some g → w5.heap[g]? = w.heap[g]? := by
  obtain ⟨i0, hi0, hz0, hz1, hz2⟩ := info_parts int_info
  obtain ⟨f, hM, hf, hd⟩ := hP
  have hbw := hM.lt
  have hM1 := hM.kept (World.grownBy_alloc w (.cells #[iv i] 3) none) (by simp)
  obtain ⟨w3, born, r1, g3, s3, back⟩ := hM1.entry hT_ hK_ hU_ hcU_ hE_ hk
  rw [World.size_alloc] at s3
  have hx : w3.cell? ((⟨w.heap.size, 0, none⟩ : Addr).add 0) = some (iv i) := by
    rw [add_plain]
    refine (World.cell?_of_block (g3.block w.heap.size (by rw [World.size_alloc]; omega) (by simp; omega))).trans ?_
    rw [cell_of_row _ _ _ _ 3 (0, 0) (heap_alloc_new w _)]; rfl
  -- what is kept up to w3
  have keep3 : ∀ v js, OffRow w v js → (∀ g, v.ownBlock = some g → b < g) → OffRow w3 v js := fun v js hO hg => by
    obtain ⟨g, e, hlt⟩ := hO.lt
    refine (hO.kept (World.grownBy_alloc w _ none) (by rw [e]; simp)).kept g3 ?_
    rw [e]
    have := hg g e
    simp; omega
  have hv : ((f key).getD (.slice none 0 0) = .slice none 0 0 ∧ L key = []) ∨ OffRow w3 ((f key).getD (.slice none 0 0)) (L key) := by
    rcases hf key with ⟨h1, h2⟩ | ⟨v, h1, h2, h3, h4, h5⟩
    · exact .inl ⟨by rw [h1]; rfl, h2⟩
    · exact .inr (by rw [h1]; exact keep3 v _ h3 h4)
  obtain ⟨v', w4, r2, hO4, hW4⟩ := off_append (P := Tryz.prog) 181 181 3 i0 Tryz.underlying181 hi0 hz0 hz1 hz2 hv ⟨w.heap.size, 0, none⟩ i hx hl
  have hob : ∀ g, ((f key).getD (.slice none 0 0)).ownBlock = some g → b < g ∧ pb ≠ some g ∧ g < w.heap.size := fun g hg => by
    rcases hf key with ⟨h1, h2⟩ | ⟨v, h1, h2, h3, h4, h5⟩
    · rw [h1] at hg; simp [Value.ownBlock] at hg
    · rw [h1] at hg
      obtain ⟨g', e', hlt⟩ := h3.lt
      have hg' : v.ownBlock = some g := hg
      rw [e'] at hg'; injection hg' with hg'; subst hg'
      exact ⟨h4 _ e', fun e => h5 (e'.trans e.symm), hlt⟩
  have hne4 : some b ≠ ((f key).getD (.slice none 0 0)).ownBlock := fun e => by have := (hob b e.symm).1; omega
  obtain ⟨w5, r3, hM5, g5, s5⟩ := back w4 _ v' hW4.grown hne4
  have hov : ∀ g, v'.ownBlock = some g → b < g ∧ pb ≠ some g := fun g hg => by
    rcases hW4.at_ with e | ⟨g', e, hge⟩
    · rw [e] at hg; exact ⟨(hob g hg).1, (hob g hg).2.1⟩
    · rw [e] at hg; injection hg with hg; subst hg
      exact ⟨by omega, fun e => by have := hpl _ e; omega⟩
  have keep5 : ∀ v js, OffRow w4 v js → (∀ g, v.ownBlock = some g → b < g) → OffRow w5 v js := fun v js hO hg => by
    obtain ⟨g, e, hlt⟩ := hO.lt
    refine hO.kept g5 ?_
    rw [e]
    have := hg g e
    simp; omega
  refine ⟨_, born, w3, v', w4, w5, r1, r2, r3, ?_, ?_, fun g hg => ?_⟩
  · refine Places.upd_ hf hd hM5 (by simp) (keep5 v' _ hO4 fun g hg => (hov g hg).1) (fun g hg => (hov g hg).1) ?_ ?_ ?_
    · obtain ⟨g, e, _⟩ := hO4.lt
      rw [e]
      exact fun e' => (hov g e).2 e'.symm
    · intro k v hne h1
      rcases hf k with ⟨h2, _⟩ | ⟨v2, h2, h3, h4, h5, h6⟩
      · rw [h1] at h2; cases h2
      · rw [h1] at h2; injection h2 with h2; subst h2
        obtain ⟨g, e, hlt⟩ := h4.lt
        rcases hW4.at_ with e1 | ⟨g', e1, hge⟩
        · rw [e1]
          rcases hf key with ⟨h7, _⟩ | ⟨v3, h7, h8, h9, _⟩
          · rw [h7, e]; simp [Value.ownBlock]
          · rw [h7]; exact hd k key v v3 hne h1 h7
        · rw [e1, e]; simp; omega
    · intro k v hne h1 hO
      rcases hf k with ⟨h2, _⟩ | ⟨v2, h2, h3, h4, h5, h6⟩
      · rw [h1] at h2; cases h2
      · rw [h1] at h2; injection h2 with h2; subst h2
        refine keep5 v _ ((keep3 v _ hO h5).kept hW4.grown ?_) h5
        rcases hf key with ⟨h7, _⟩ | ⟨v3, h7, h8, h9, _⟩
        · obtain ⟨g, e, hlt⟩ := hO.lt
          rw [h7, e]; simp [Value.ownBlock]
        · rw [h7]; exact hd k key v v3 hne h1 h7
  · refine (((Below.refl b w).alloc (by omega) _).grown g3 (by rw [World.size_alloc]; omega) (by simp)).trans ?_
    refine ((Below.refl b w3).grown hW4.grown (by omega) (fun g hg => by have := (hob g hg).1; omega)).trans ?_
    exact (Below.refl b w4).grown g5 (by have := hW4.grown.size; omega) (by simp)
  · have hgl := hpl g hg
    have hgb : some g ≠ some b := fun e => hb (by rw [← e, hg])
    refine (g5.block g (by have := hW4.grown.size; omega) hgb).trans ((hW4.grown.block g (by omega) fun e => ?_).trans ((g3.block g (by rw [World.size_alloc]; omega) hgb).trans (Below.heap_alloc w _ g hgl)))
    exact (hob g e.symm).2.1 hg

theorem forget_core (w : World) (b : Nat) (pb : Option Nat) (L : List UInt8 → List Nat) (key : List UInt8) (j : Nat) (js : List Nat) (hP : Places w b pb L) (hk : key.length = 4) (hb : some b ≠ pb) (hL : L key = j :: js) :
    ∃ v, (Instr.lookup 178 (.map (some b)) (dv key) false).run Tryz.prog w = .ok v w ∧ (∃ A c, v = .slice A (js.length + 1) c) ∧
      (js ≠ [] → ∃ v1, (∀ u, (Instr.sliceAt 181 v (some (.int .i64 1)) none none).run Tryz.prog u = .ok v1 u) ∧ ∀ u, Grows w u → ∃ w5, (Instr.mapUpdate 178 (.map (some b)) (dv key) v1).run Tryz.prog u = .ok () w5 ∧
        Places w5 b pb (more L key js) ∧ u.grownBy w5 (some b)) ∧
      (js = [] → ∀ u, Grows w u → ∃ w5, (Builtin.delete_ #[178, 212] 0 #[.map (some b), dv key]).run Tryz.prog u = .ok (.tuple #[]) w5 ∧ Places w5 b pb (more L key js) ∧ u.grownBy w5 (some b)) := by
  obtain ⟨f, hM, hf, hd⟩ := hP
  have hget := hM.get hT_ hK_ hU_ hcU_ hE_ hk
  rcases hf key with ⟨h1, h2⟩ | ⟨v, h1, h2, h3, h4, h5⟩
  · rw [hL] at h2; cases h2
  rw [h1] at hget
  rw [hL] at h3
  have hin : f key ≠ none := by rw [h1]; simp
  refine ⟨v, hget, ?_, fun hj => ?_, fun hj u hu => ?_⟩
  · obtain ⟨A, c, e, _⟩ := h3.lies
    exact ⟨A, c, e⟩
  · obtain ⟨v1, hr, hO, hob⟩ := off_cut (P := Tryz.prog) 181 3 Tryz.underlying181 int_one h3 hj .i64
    refine ⟨v1, hr, fun u hu => ?_⟩
    have hgn := grows_by hu none
    obtain ⟨w5, r5, hM5, g5, s5⟩ := (hM.kept hgn (by simp)).put hT_ hK_ hU_ hcU_ hE_ hk hin v1
    have keep5 : ∀ v js, OffRow w v js → (∀ g, v.ownBlock = some g → b < g) → OffRow w5 v js := fun v js hO hg => by
      obtain ⟨g, e, hlt⟩ := hO.lt
      refine (hO.kept hgn (by rw [e]; simp)).kept g5 ?_
      rw [e]
      have := hg g e
      simp; omega
    refine ⟨w5, r5, ?_, g5⟩
    refine Places.upd_ hf hd hM5 hj (keep5 v1 _ hO fun g hg => h4 g (hob ▸ hg)) (fun g hg => h4 g (hob ▸ hg)) (hob ▸ h5) ?_ ?_
    · intro k v2 hne h6
      rw [hob]
      exact hd k key v2 v hne h6 h1
    · intro k v2 hne h6 hO2
      rcases hf k with ⟨h7, _⟩ | ⟨v3, h7, h8, h9, h10, h11⟩
      · rw [h6] at h7; cases h7
      · rw [h6] at h7; injection h7 with h7; subst h7
        exact keep5 v2 _ hO2 h10
  · have hgn := grows_by hu none
    obtain ⟨w5, r5, hM5, g5, s5⟩ := (hM.kept hgn (by simp)).del hT_ hK_ hU_ hcU_ hE_ hk hin 0 212
    refine ⟨w5, r5, ⟨_, hM5, fun k => ?_, fun k1 k2 v1 v2 hne e1 e2 => ?_⟩, g5⟩
    · unfold upd more
      by_cases hk' : k = key
      · rw [if_pos hk', if_pos hk']; exact .inl ⟨rfl, hj⟩
      · rw [if_neg hk', if_neg hk']
        rcases hf k with h7 | ⟨v3, h7, h8, h9, h10, h11⟩
        · exact .inl h7
        · obtain ⟨g, e, hlt⟩ := h9.lt
          refine .inr ⟨v3, h7, h8, (h9.kept hgn (by rw [e]; simp)).kept g5 ?_, h10, h11⟩
          rw [e]
          have := h10 g e
          simp; omega
    · unfold upd at e1 e2
      by_cases hk1 : k1 = key
      · rw [if_pos hk1] at e1; cases e1
      · by_cases hk2 : k2 = key
        · rw [if_pos hk2] at e2; cases e2
        · rw [if_neg hk1] at e1; rw [if_neg hk2] at e2
          exact hd k1 k2 v1 v2 hne e1 e2

/-- Another block than the map's and the rows' is as it was. -/
def Kept (b : Nat) (pb : Option Nat) (w w' : World) : Prop := Below b w w' ∧ ∀ g, pb = some g → w'.heap[g]? = w.heap[g]?

set_option maxRecDepth 20000 in
set_option maxHeartbeats 1000000 in
theorem keep_any (b : Nat) (pb : Option Nat) (A : Option Addr) (n c i lo m : Nat) (bs : List UInt8) (w : World) (hP : Places w b pb (win bs lo m)) (hlm : lo + m = i) (hb : some b ≠ pb) (hpl : ∀ g, pb = some g → g < w.heap.size) (hbw : b < w.heap.size) (hl : bs.length = n)
    (hr : Lies w w.heap.size A (bs.map bv)) (hc : n ≤ c) (hi : i < n) (hn : n ≤ 1000000000000) :
    Calls Tryz.prog 140 #[.map (some b), .slice A n c, iv i] w fun e w' => (∃ v, e = .returned v) ∧ Places w' b pb (win bs lo (m + 1)) ∧ Kept b pb w w' := by
  by_cases h4 : i + 4 ≤ n
  · have hkl : ((bs.drop i).take 4).length = 4 := by rw [List.length_take, List.length_drop]; omega
    have hLK : Lies w w.heap.size (A.map (·.add i)) (((bs.drop i).take 4).map bv) := by
      rw [List.map_take, List.map_drop]; exact (hr.from_ i).take 4
    have HW : Hid (win bs lo (m + 1) = more (win bs lo m) ((bs.drop i).take 4) (win bs lo m ((bs.drop i).take 4) ++ [i])) := by
      show _ = _
      funext k
      rw [win_more, hlm]
      unfold more
      by_cases hk : k = (bs.drop i).take 4
      · rw [if_pos hk, if_pos ⟨hk.symm, by rw [hk]; exact hkl⟩, hk]
      · rw [if_neg hk, if_neg (fun h => hk h.1.symm)]
    have hwl := win_len bs lo m ((bs.drop i).take 4)
    generalize (bs.drop i).take 4 = key at *
    have hld := load_lies (P := Tryz.prog) hK_ hKi_ hkl hLK
    have HLD := Lib.hid hld
    have HK := Lib.hid hkl
    have hm0 : m ≤ 1000000000000 := by omega
    clear hld hLK hkl
    have hbox := Has.new w 212 [bv 0, bv 0, bv 0, bv 0]
    have hci : ¬ c = i := by omega
    have HP := Lib.hid hP
    clear hP
    generalize win bs lo m = L at *
    go_enter Tryz.func140, Tryz.ntmps140
    go_wp2_with (first
      | (with_reducible refine wpList_arrayAt rfl 212 (.tmp 16) rfl _ _ _ rfl (run_arrayAt4 (P := Tryz.prog) hK_ _ _ _ (by omega) _) ?_)
      | (with_reducible refine wpList_loads rfl 212 (.tmp 17) rfl _ rfl _ HLD.out ?_)
      | (refine wpList_storev rfl 212 (.tmp 6) (.tmp 18) rfl w.heap.size [bv 0, bv 0, bv 0, bv 0] (key.map bv) 4 rfl rfl hbox rfl (by rw [List.length_map]; exact HK.out) hKi_ (bv_one _) ?_; intro w1 hbox1 hbel1; have hG1 : Grows w w1 := hbel1 w.heap.size w (Nat.le_refl _) (grows_alloc _ _); have hld1 := hbox1.load hK_ rfl (by rw [List.length_map, HK.out]; exact hKi_); obtain ⟨v, born, w3, v', w4, w5, r1, r2, r3, hP5, hB5, hpb5⟩ := keep_core w1 b pb L key i (HP.out.grows hG1) HK.out hb (fun g hg => Nat.lt_of_lt_of_le (hpl g hg) hG1.size) (by omega))
      | (with_reducible refine wpList_loads rfl 212 (.tmp 6) rfl _ rfl _ hld1 ?_)
      | (with_reducible refine wpList_mapEntry rfl 178 (.tmp 19) (.tmp 20) rfl (.map (some b)) (dv key) _ w3 rfl rfl r1 ?_)
      | (at_builtin; with_reducible refine wpList_appendv rfl (.tmp 21) (.tmp 23) 181 rfl v (.slice (some ⟨w1.heap.size, 0, none⟩) 1 1) v' w4 rfl rfl r2 ?_)
      | (with_reducible refine wpList_entryStore rfl 178 (.tmp 19) (.tmp 26) (.tmp 25) rfl (.map (some b)) born v' w5 rfl rfl rfl r3 ?_))
    go_end0
    refine ⟨⟨_, rfl⟩, ?_, ?_, fun g hg => ?_⟩
    · rw [HW.out]; exact hP5
    · exact Below.trans (hG1.mono (by omega)) hB5
    · exact (hpb5 g hg).trans (hG1.block g (hpl g hg))
  · have HW : Hid (win bs lo (m + 1) = win bs lo m) := by
      show _ = _
      funext k
      rw [win_more, hlm, if_neg]
      rintro ⟨h1, h2⟩
      rw [← h1, List.length_take, List.length_drop] at h2
      omega
    go_enter Tryz.func140, Tryz.ntmps140
    go_wp2
    go_end0
    refine ⟨⟨_, rfl⟩, ?_, Below.refl _ _, fun g hg => rfl⟩
    rw [HW.out]; exact hP

set_option maxRecDepth 20000 in
set_option maxHeartbeats 1000000 in
theorem forget_none (b : Nat) (A : Option Addr) (n c : Nat) (z : Int) (w : World) (hz : z < 0) :
    Calls Tryz.prog 141 #[.map (some b), .slice A n c, .int .i64 z] w fun e w' => (∃ v, e = .returned v) ∧ w' = w := by
  go_enter Tryz.func141, Tryz.ntmps141
  go_wp2
  refine bodyPost_ret (results_none rfl _ _ _) rfl ?_
  exact ⟨⟨_, rfl⟩, rfl⟩

set_option maxRecDepth 20000 in
set_option maxHeartbeats 1000000 in
theorem forget_any (b : Nat) (pb : Option Nat) (A : Option Addr) (n c lo m : Nat) (bs : List UInt8) (w : World) (hP : Places w b pb (win bs lo (m + 1))) (hb : some b ≠ pb) (hpl : ∀ g, pb = some g → g < w.heap.size) (hbw : b < w.heap.size) (hl : bs.length = n)
    (hr : Lies w w.heap.size A (bs.map bv)) (hc : n ≤ c) (h4 : lo + 4 ≤ n) (hn : n ≤ 1000000000000) (hm : m ≤ 1000000000000) :
    Calls Tryz.prog 141 #[.map (some b), .slice A n c, iv lo] w fun e w' => (∃ v, e = .returned v) ∧ Places w' b pb (win bs (lo + 1) m) ∧ Kept b pb w w' := by
  have hkl : ((bs.drop lo).take 4).length = 4 := by rw [List.length_take, List.length_drop]; omega
  have hLK : Lies w w.heap.size (A.map (·.add lo)) (((bs.drop lo).take 4).map bv) := by
    rw [List.map_take, List.map_drop]; exact (hr.from_ lo).take 4
  have HW : Hid (win bs (lo + 1) m = more (win bs lo (m + 1)) ((bs.drop lo).take 4) (win bs (lo + 1) m ((bs.drop lo).take 4))) := by
    show _ = _
    funext k
    unfold more
    by_cases hk : k = (bs.drop lo).take 4
    · rw [if_pos hk, hk]
    · rw [if_neg hk, win_less, if_neg (fun h => hk h.1.symm)]
  have hwl := win_len bs (lo + 1) m ((bs.drop lo).take 4)
  have HLk := Lib.hid (show win bs lo (m + 1) ((bs.drop lo).take 4) = lo :: win bs (lo + 1) m ((bs.drop lo).take 4) by rw [win_less, if_pos ⟨rfl, hkl⟩])
  generalize (bs.drop lo).take 4 = key at *
  have hld := load_lies (P := Tryz.prog) hK_ hKi_ hkl hLK
  have HLD := Lib.hid hld
  have HK := Lib.hid hkl
  clear hld hLK hkl
  have hbox := Has.new w 212 [bv 0, bv 0, bv 0, bv 0]
  have hci : ¬ c = lo := by omega
  have HP := Lib.hid hP
  clear hP
  generalize win bs lo (m + 1) = L at *
  generalize win bs (lo + 1) m key = js at *
  by_cases hj : js = []
  · go_enter Tryz.func141, Tryz.ntmps141
    go_wp2_with (first
      | (with_reducible refine wpList_arrayAt rfl 212 (.tmp 14) rfl _ _ _ rfl (run_arrayAt4 (P := Tryz.prog) hK_ _ _ _ (by omega) _) ?_)
      | (with_reducible refine wpList_loads rfl 212 (.tmp 15) rfl _ rfl _ HLD.out ?_)
      | (refine wpList_storev rfl 212 (.tmp 6) (.tmp 16) rfl w.heap.size [bv 0, bv 0, bv 0, bv 0] (key.map bv) 4 rfl rfl hbox rfl (by rw [List.length_map]; exact HK.out) hKi_ (bv_one _) ?_; intro w1 hbox1 hbel1; have hG1 : Grows w w1 := hbel1 w.heap.size w (Nat.le_refl _) (grows_alloc _ _); have hld1 := hbox1.load hK_ rfl (by rw [List.length_map, HK.out]; exact hKi_); obtain ⟨v, r1, ⟨A1, c1, rfl⟩, _, hdel⟩ := forget_core w1 b pb L key lo js (HP.out.grows hG1) HK.out hb HLk.out; obtain ⟨w5, r5, hP5, g5⟩ := hdel hj w1 (Grows.refl _); subst hj)
      | (with_reducible refine wpList_loads rfl 212 (.tmp 6) rfl _ rfl _ hld1 ?_)
      | (with_reducible refine wpList_look rfl 178 (.tmp 17) (.tmp 18) rfl (.map (some b)) (dv key) _ rfl rfl r1 ?_)
      | (with_reducible refine wpList_deletev rfl (.tmp 27) (.tmp 28) 178 212 rfl (.map (some b)) (dv key) (.tuple #[]) w5 rfl rfl r5 ?_))
    go_end0
    refine ⟨⟨_, rfl⟩, ?_, ?_, fun g hg => ?_⟩
    · rw [HW.out]; exact hP5
    · exact Below.trans (hG1.mono (by omega)) ((Below.refl b w1).grown g5 (by have := hG1.size; omega) (by simp))
    · exact (g5.block g (by have := hG1.size; have := hpl g hg; omega) (fun e => hb (by rw [← e, hg]))).trans (hG1.block g (hpl g hg))
  · have hjl : 0 < js.length := List.length_pos_iff.2 hj
    go_enter Tryz.func141, Tryz.ntmps141
    go_wp2_with (first
      | (with_reducible refine wpList_arrayAt rfl 212 (.tmp 14) rfl _ _ _ rfl (run_arrayAt4 (P := Tryz.prog) hK_ _ _ _ (by omega) _) ?_)
      | (with_reducible refine wpList_loads rfl 212 (.tmp 15) rfl _ rfl _ HLD.out ?_)
      | (refine wpList_storev rfl 212 (.tmp 6) (.tmp 16) rfl w.heap.size [bv 0, bv 0, bv 0, bv 0] (key.map bv) 4 rfl rfl hbox rfl (by rw [List.length_map]; exact HK.out) hKi_ (bv_one _) ?_; intro w1 hbox1 hbel1; have hG1 : Grows w w1 := hbel1 w.heap.size w (Nat.le_refl _) (grows_alloc _ _); have hld1 := hbox1.load hK_ rfl (by rw [List.length_map, HK.out]; exact hKi_); obtain ⟨v, r1, ⟨A1, c1, rfl⟩, hput, _⟩ := forget_core w1 b pb L key lo js (HP.out.grows hG1) HK.out hb HLk.out; obtain ⟨v1, rcut, hput⟩ := hput hj)
      | (with_reducible refine wpList_loads rfl 212 (.tmp 6) rfl _ rfl _ hld1 ?_)
      | (with_reducible refine wpList_look rfl 178 (.tmp 17) (.tmp 18) rfl (.map (some b)) (dv key) _ rfl rfl r1 ?_))
    have ldk : ∀ u, Grows w1.drew u → (Instr.loadAt 212 (.pointer (some ⟨w.heap.size, 0, none⟩))).run Tryz.prog u = .ok (dv key) u := fun u hu =>
      (hbox1.later (Grows.trans (Grows.refl w1).drew hu)).load hK_ rfl (by rw [List.length_map, HK.out]; exact hKi_)
    clear hld1
    have hO := Grows.refl w1.drew
    refine wp_region_ord 4 [(0, true), (1, true), (2, true), (3, true)] (by kernel_rfl) (by kernel_rfl) ?_
    repeat (first | (refine ord_load hO _ _ (by simp only [List.getElem?_cons_succ, List.getElem?_cons_zero]; rfl) (by rfl) 212 (.tmp 6) (by rfl) _ (by rfl) ldk ?_; try simp only [Act.put, List.setIfInBounds_toArray, List.set_cons_zero, List.set_cons_succ]) | (refine ord_cut hO _ ?_ (by simp only [List.getElem?_cons_succ, List.getElem?_cons_zero]; rfl) (by rfl) 181 (.tmp 25) (some (.const (.int .i64 1))) none none (by rfl) ?_ ?_; rotate_left; (· (exact rcut)); try simp only [Act.put, List.setIfInBounds_toArray, List.set_cons_zero, List.set_cons_succ]) | (refine ord_take hO _ ?_ (by simp only [List.getElem?_cons_succ, List.getElem?_cons_zero]; rfl) (by rfl) ?_ ?_; rotate_left; (· (intro u hu0 hu; (try go_simp); (try with_reducible rfl))); try simp only [Act.put, List.setIfInBounds_toArray, List.set_cons_zero, List.set_cons_succ]) | (refine ord_skip _ (by simp only [List.getElem?_cons_succ, List.getElem?_cons_zero]; rfl) (by rfl) ?_; try simp only [Act.put, List.setIfInBounds_toArray, List.set_cons_zero, List.set_cons_succ]))
    clear hO ldk
    (refine ord_done (fun u hu => ?_); simp only [List.drop_succ_cons, List.drop_zero])
    have hgu := Grows.trans (Grows.refl w1).drew hu
    obtain ⟨w5, r5, hP5, g5⟩ := hput u hgu
    clear hput
    go_wp2_with (with_reducible refine wpList_mapPut rfl 178 (.tmp 23) (.tmp 24) (.tmp 26) rfl (.map (some b)) (dv key) v1 w5 rfl rfl rfl r5 ?_)
    refine NoPanic.normal ?_
    go_wp2_with fail
    go_end0
    have hG2 := Grows.trans hG1 hgu
    refine ⟨⟨_, rfl⟩, ?_, ?_, fun g hg => ?_⟩
    · rw [HW.out]; exact hP5
    · exact Below.trans (hG2.mono (by omega)) ((Below.refl b u).grown g5 (by have := hG2.size; omega) (by simp))
    · exact (g5.block g (by have := hG2.size; have := hpl g hg; omega) (fun e => hb (by rw [← e, hg]))).trans (hG2.block g (hpl g hg))
end Go.Proofs.YtbcldknecdbemaaGreatDoor

/-
  Contract of lz's Pack.
-/
namespace Go.Proofs.YtbcldknecdbemaaGreatDoor
open Go.RowKit
set_option linter.unusedVariables false
set_option maxRecDepth 20000

/-- The places that a match at i may begin at. -/
def wnd (bs : List UInt8) (i : Nat) : List UInt8 → List Nat := win bs (i - min i 1024) (min i 1024)
theorem wnd_short (bs : List UInt8) (i : Nat) (k : List UInt8) (h : k.length ≠ 4) : wnd bs i k = [] := win_short h
theorem wnd_low {bs : List UInt8} {i : Nat} (h : i < 1024) : wnd bs i = win bs 0 i ∧ wnd bs (i + 1) = win bs 0 (i + 1) := by
  unfold wnd
  rw [Nat.min_eq_left (by omega), Nat.min_eq_left (by omega), Nat.sub_self, Nat.sub_self]
  exact ⟨rfl, rfl⟩
theorem wnd_high {bs : List UInt8} {i : Nat} (h : ¬ i < 1024) : wnd bs i = win bs (i - 1024) 1024 ∧ wnd bs (i + 1) = win bs (i - 1024 + 1) 1024 := by
  unfold wnd
  rw [Nat.min_eq_right (by omega), Nat.min_eq_right (by omega), show i + 1 - 1024 = i - 1024 + 1 by omega]
  exact ⟨rfl, rfl⟩
theorem wnd_lt {bs : List UInt8} {i : Nat} {k : List UInt8} {j : Nat} (h : j ∈ wnd bs i k) : j < i := by
  unfold wnd win at h
  have := (List.mem_filter.1 h).1
  rw [List.mem_range'_1] at this
  omega
theorem wnd_len (bs : List UInt8) (i : Nat) (k : List UInt8) : (wnd bs i k).length ≤ 1024 := Nat.le_trans (win_len _ _ _ _) (Nat.min_le_right _ _)
theorem take4 {bs : List UInt8} {i j : Nat} (h : ∀ t, t < 4 → i + t < bs.length ∧ bs[i + t]? = bs[j + t]?) : (bs.drop j).take 4 = (bs.drop i).take 4 ∧ ((bs.drop i).take 4).length = 4 := by
  refine ⟨List.ext_getElem? fun t => ?_, ?_⟩
  · rw [List.getElem?_take, List.getElem?_take]
    split
    · rw [List.getElem?_drop, List.getElem?_drop]; exact (h t ‹_›).2.symm
    · rfl
  · have := (h 3 (by omega)).1
    rw [List.length_take, List.length_drop]
    omega
theorem wnd_match {bs : List UInt8} {i : Nat} (h : i < bs.length) : lgo bs i (wnd bs i ((bs.drop i).take 4)) = matchOf bs i := by
  unfold wnd win
  rw [lgo_filter, lgo_match h]
  intro j hj hp
  rw [List.mem_range'_1] at hj
  rcases Nat.lt_or_ge (mlen bs i (i - j)) 4 with h4 | h4
  · exact h4
  · have := take4 (bs := bs) (i := i) (j := j) fun t ht => by
      have := mlen_at (b := bs) (i := i) (d := i - j) (t := t) (by omega)
      rwa [show i + t - (i - j) = j + t by omega] at this
    simp [this.1, this.2] at hp
theorem own_same {w w' : World} {base : Nat} {e : TypeId} {size : Nat} {v : Value} {n : Nat} {xs : List Value} (h : w.ownsRow base e size v n xs) (hs : ∀ g, v.ownBlock = some g → w'.heap[g]? = w.heap[g]?) : w'.ownsRow base e size v n xs := by
  obtain ⟨h1, h2⟩ := h
  refine ⟨h1, ?_⟩
  rcases h2 with h2 | ⟨g, cap, cur, rfl, h3, h4, h5⟩
  · exact .inl h2
  · exact .inr ⟨g, cap, cur, rfl, h3, (hs g rfl).trans h4, h5⟩
theorem own_baseL {w : World} {base base' : Nat} {e : TypeId} {size : Nat} {v : Value} {n : Nat} {xs : List Value} (h : w.ownsRow base e size v n xs) (hb : base' ≤ base) : w.ownsRow base' e size v n xs := by
  obtain ⟨h1, h2⟩ := h
  refine ⟨h1, ?_⟩
  rcases h2 with h2 | ⟨g, cap, cur, rfl, h3, h4⟩
  · exact .inl h2
  · exact .inr ⟨g, cap, cur, rfl, by omega, h4⟩
theorem wpList_makeMap {P : Program} {ops : Array Oper} {rest : List Oper} {o : Oper} {a : Act} {w : World} {Q : Exit → Act → World → Prop} (hgd : o.guard = none) (t : TypeId) (ho : o.op = .makeMap t none)
    (hk : wpList P ops Q rest (a.put o.dst (.map (some w.heap.size))) (w.alloc (.map #[] 0))) : wpList P ops Q (o :: rest) a w := by
  refine wpList_plain hgd fun K' hK' => ?_
  have h : (Instr.makeMap t none).run P w = .ok (.map (some w.heap.size)) (w.alloc (.map #[] 0)) := by simp [Instr.makeMap, newObj, Sem.run]
  unfold Oper.wp execOp
  simp only [ho, Option.map_none, Sem.run_bind, h, Result.andThen_ok, Sem.run_pure]
  exact hK' _ _ hk
theorem Places.wrote {w w' : World} {b : Nat} {p p' : Value} {L : List UInt8 → List Nat} (h : Places w b p.ownBlock L) (hW : Wrote p p' w w') (hb : some b ≠ p.ownBlock) : Places w' b p'.ownBlock L := by
  obtain ⟨f, hM, hf, hd⟩ := h
  refine ⟨f, hM.kept hW.grown hb, fun k => ?_, hd⟩
  rcases hf k with h1 | ⟨v, h1, h2, h3, h4, h5⟩
  · exact .inl h1
  · refine .inr ⟨v, h1, h2, h3.kept hW.grown h5, h4, fun e => ?_⟩
    obtain ⟨g, eg, hlt⟩ := h3.lt
    rcases hW.at_ with e1 | ⟨g', e1, hge⟩
    · exact h5 (e.trans e1)
    · rw [eg, e1] at e; injection e with e; omega
theorem Kept.refl (b : Nat) (pb : Option Nat) (w : World) : Kept b pb w w := ⟨Below.refl b w, fun _ _ => rfl⟩
theorem Kept.trans {b : Nat} {pb : Option Nat} {w w1 w2 : World} (h : Kept b pb w w1) (k : Kept b pb w1 w2) : Kept b pb w w2 := ⟨h.1.trans k.1, fun g hg => (k.2 g hg).trans (h.2 g hg)⟩
theorem lits_le (l : List UInt8) : (lits l).length ≤ 2 * l.length := by
  have := lits_len l.length l rfl
  omega

set_option maxRecDepth 20000 in
set_option maxHeartbeats 1000000 in
theorem pack_any (A : Option Addr) (n c : Nat) (bs : List UInt8) (w : World) (hl : bs.length = n) (hr : Lies w w.heap.size A (bs.map bv)) (hc : n ≤ c) (hn : n ≤ 1000000000) :
    Calls Tryz.prog 98 #[.slice A n c] w fun e w' => ∃ v, e = .returned v ∧ w'.ownsRow w.heap.size 5 1 v (packOf bs).length ((packOf bs).map bv) ∧ Grows w w' := by
  have HL := Lib.hid hl
  clear hl
  have HF : Hid (packOf bs = [] ++ packFrom bs 0 0) := rfl
  obtain ⟨W, hW⟩ : ∃ W, W = packOf bs := ⟨_, rfl⟩
  rw [← hW] at HF ⊢
  clear hW
  have hg0 : Grows w (w.alloc (.map #[] 0)) := grows_alloc w _
  have hP0 : Places (w.alloc (.map #[] 0)) w.heap.size none (wnd bs 0) := ⟨fun _ => none, MapAt.new w, fun k => .inl ⟨rfl, rfl⟩, fun _ _ _ _ _ h => by cases h⟩
  have hs0 : (w.alloc (.map #[] 0)).heap.size = w.heap.size + 1 := World.size_alloc _ _
  go_enter Tryz.func98, Tryz.ntmps98
  go_wp2_with (with_reducible refine wpList_makeMap rfl 178 rfl ?_)
  generalize w.alloc (.map #[] 0) = w0 at *
  go_loopw [3, 5, 6, 7, 8] (fun p f q _ _ wr => ∃ (i fr : Nat) (out : List UInt8), i ≤ n ∧ fr ≤ i ∧ f = iv fr ∧ q = iv i ∧ Hid (W = out ++ packFrom bs i fr) ∧ out.length ≤ 2 * fr ∧ wr.ownsRow (w.heap.size + 1) 5 1 p out.length (out.map bv) ∧
      Places wr w.heap.size p.ownBlock (wnd bs i) ∧ Grows w wr ∧ w0.heap.size ≤ wr.heap.size) (fun _ _ q _ _ _ => n - (intOf q).toNat)
  case atStart => exact ⟨0, 0, [], Nat.zero_le _, Nat.le_refl _, rfl, rfl, HF.out, Nat.le_refl _, World.ownsRow_nil _ _ _ _, hP0, hg0, Nat.le_refl _⟩
  case round =>
    clear hP0 hg0
    obtain ⟨i, fr, out, hin, hfi, rfl, rfl, HO, hol, hown, hPl, hgr, hsz⟩ := hrel
    have hbw : w.heap.size < wr.heap.size := by omega
    have hpw : ∀ g, (u3 : Value).ownBlock = some g → g < wr.heap.size := fun g hg => (hown.lt g hg).2
    have hpb : some w.heap.size ≠ (u3 : Value).ownBlock := fun e => by have := (hown.lt _ e.symm).1; omega
    by_cases hi : i < n
    · go_wp2_with fail
      refine (at_any w.heap.size _ (wnd bs i) A n c i bs wr hPl (wnd_short bs i) HL.out (hr.later hgr) hc hi (by omega)).mono ?_
      rintro e w1 ⟨A2, c2, rfl, hL2, rfl⟩
      have hlong := longest_any A n c i bs A2 _ c2 (wnd bs i ((bs.drop i).take 4)) w1 HL.out (hr.later hgr) rfl hL2 (fun j hj => wnd_lt hj) hi (by omega) (by have := wnd_len bs i ((bs.drop i).take 4); omega)
      rw [wnd_match (by rw [HL.out]; exact hi)] at hlong
      generalize wnd bs i ((bs.drop i).take 4) = js at *
      clear hL2
      go_wp2_with fail
      refine hlong.mono ?_
      rintro e w2 ⟨rfl, hg2⟩
      clear hlong
      have hgr2 := Grows.trans hgr hg2
      have hP2 := hPl.grows hg2
      have hown2 := own_later hown hg2
      have hsz2 := Nat.le_trans hsz hg2.size
      have hbw2 : w.heap.size < w2.heap.size := Nat.lt_of_lt_of_le hbw hg2.size
      have hpw2 : ∀ g, (u3 : Value).ownBlock = some g → g < w2.heap.size := fun g hg => (hown2.lt g hg).2
      clear hgr hPl hown hg2 hsz hbw hpw
      have HM1 := Lib.hid (@pack_none bs i fr (by rw [HL.out]; exact hi))
      have HM2 := Lib.hid (@pack_some bs i fr (by rw [HL.out]; exact hi))
      have HM3 := Lib.hid (@match_some bs i)
      obtain ⟨x, y, hxy⟩ : ∃ x y, matchOf bs i = (x, y) := ⟨_, _, rfl⟩
      rw [hxy] at HM1 HM2 HM3 ⊢
      simp only [] at HM1 HM2 HM3 ⊢
      have HXY := Lib.hid hxy
      clear hxy
      by_cases hx : x = 0
      · subst hx
        have HO2 : Hid (W = out ++ packFrom bs (i + 1) fr) := by show _ = _; rw [HO.out, HM1.out rfl]
        clear HM1 HM2 HM3 HO
        go_wp2_with fail
        go_loopw [6, 41] (fun q t wv => ∃ k i' : Nat, k ≤ 1 ∧ i' = i + k ∧ t = iv k ∧ q = iv i' ∧ Places wv w.heap.size (u3 : Value).ownBlock (wnd bs i') ∧ Kept w.heap.size (u3 : Value).ownBlock w2 wv) (fun _ t _ => 1 - (intOf t).toNat)
        case atStart => exact ⟨0, i, Nat.zero_le _, rfl, rfl, rfl, hP2, Kept.refl _ _ _⟩
        case round =>
          obtain ⟨k, i', hk, hi', rfl, rfl, hPk, hKk⟩ := hrel
          by_cases hkt : k < 1
          · have hin' : i' < n := by omega
            have HI := Lib.hid hi'
            clear hi'
            have hgk : Grows w wr := Below.trans hgr2 hKk.1
            have hbk : w.heap.size < wr.heap.size := Nat.lt_of_lt_of_le hbw2 hKk.1.size
            have hpk : ∀ g, (u3 : Value).ownBlock = some g → g < wr.heap.size := fun g hg => Nat.lt_of_lt_of_le (hpw2 g hg) hKk.1.size
            by_cases h1024 : i' < 1024
            · rw [(wnd_low h1024).1] at hPk
              have hn12 : n ≤ 1000000000000 := by omega
              have hz0 : 0 + i' = i' := Nat.zero_add _
              have hkeep := keep_any w.heap.size (u3 : Value).ownBlock A n c i' 0 i' bs wr hPk hz0 hpb hpk hbk HL.out (hr.later hgk) hc hin' hn12
              have HKEEP := Lib.hid hkeep
              clear hkeep
              go_wp2_with fail
              refine HKEEP.out.mono ?_
              rintro e w5 ⟨⟨ve, rfl⟩, hP5, hK5⟩
              rw [← (wnd_low h1024).2] at hP5
              go_wp2_with fail
              refine (forget_none w.heap.size A n c _ w5 (by omega)).mono ?_
              rintro e w6 ⟨⟨vf, rfl⟩, rfl⟩
              go_wp2_with fail
              go_roundw
              case rel => exact ⟨k + 1, i' + 1, by omega, by have := HI.out; omega, by go_num, by go_num, hP5, hKk.trans hK5⟩
              case measure => simp [intOf]; omega
            · rw [(wnd_high h1024).1] at hPk
              have e24 : (i' : Int) - 1024 = ((i' - 1024 : Nat) : Int) := by omega
              have hn12 : n ≤ 1000000000000 := by omega
              have hz0 : i' - 1024 + 1024 = i' := by omega
              have hkeep := keep_any w.heap.size (u3 : Value).ownBlock A n c i' (i' - 1024) 1024 bs wr hPk hz0 hpb hpk hbk HL.out (hr.later hgk) hc hin' hn12
              have HKEEP := Lib.hid hkeep
              clear hkeep
              go_wp2_with fail
              refine HKEEP.out.mono ?_
              rintro e w5 ⟨⟨ve, rfl⟩, hP5, hK5⟩
              have hg5 : Grows w w5 := Below.trans hgk hK5.1
              go_wp2_with fail
              refine (forget_any w.heap.size _ A n c (i' - 1024) 1024 bs w5 hP5 hpb (fun g hg => Nat.lt_of_lt_of_le (hpk g hg) hK5.1.size) (Nat.lt_of_lt_of_le hbk hK5.1.size) HL.out (hr.later hg5) hc (by omega) (by omega) (by omega)).mono ?_
              rintro e w6 ⟨⟨vf, rfl⟩, hP6, hK6⟩
              rw [← (wnd_high h1024).2] at hP6
              go_wp2_with fail
              go_roundw
              case rel => exact ⟨k + 1, i' + 1, by omega, by have := HI.out; omega, by go_num, by go_num, hP6, (hKk.trans hK5).trans hK6⟩
              case measure => simp [intOf]; omega
          · obtain rfl : i' = i + 1 := by omega
            go_wp2_with fail
            go_roundw
            case rel => exact ⟨i + 1, fr, out, by omega, by omega, rfl, by go_num, HO2.out, hol, own_same hown2 hKk.2, hPk, Below.trans hgr2 hKk.1, Nat.le_trans hsz2 hKk.1.size⟩
            case measure => simp [intOf]; omega
      · obtain ⟨x4, x131, y1, yi, y1024, xn, _⟩ := HM3.out hx
        rw [HL.out] at xn
        have hxp : (0 : Int) < (x : Int) := by omega
        have hmax : (if (1 : Int) < (x : Int) then (x : Int) else 1) = (x : Int) := by split <;> omega
        have HO2 : Hid (W = out ++ (lits ((bs.drop fr).take (i - fr)) ++ (mtok (x, y) ++ packFrom bs (i + x) (i + x)))) := by show _ = _; rw [HO.out, HM2.out hx]
        clear HM1 HM2 HM3 HO
        have HPL : Hid (((bs.drop fr).take (i - fr)).length = i - fr) := by show _ = _; rw [List.length_take, List.length_drop, HL.out]; omega
        have hLB : Lies w2 (w.heap.size + 1) A (bs.map bv) := (hr.below hgr2).mono (by omega)
        have hLt : Lies w2 (w.heap.size + 1) (if c = fr then A else A.map (·.add fr)) (((bs.drop fr).take (i - fr)).map bv) := by
          rw [List.map_take, List.map_drop]; exact (hLB.cut (by rw [List.length_map, HL.out]; exact hc)).take _
        have hLt2 : Lies w2 (w.heap.size + 1) (A.map (·.add fr)) (((bs.drop fr).take (i - fr)).map bv) := by
          rw [List.map_take, List.map_drop]; exact (hLB.from_ _).take _
        go_wp2_with fail
        refine (putlits_any u3 (w.heap.size + 1) out.length out _ (i - fr) (c - fr) ((bs.drop fr).take (i - fr)) w2 hown2 HPL.out hLt2 (by omega) (by omega) (by omega)).mono ?_
        rintro e w3 ⟨v1, rfl, hown3, hW3⟩
        have hll := lits_le ((bs.drop fr).take (i - fr))
        rw [HPL.out] at hll
        have hlo : (out ++ lits ((bs.drop fr).take (i - fr))).length ≤ 2 * i := by rw [List.length_append]; omega
        go_wp2_with fail
        refine (putmatch_any v1 (w.heap.size + 1) _ _ x y w3 hown3 (by have := hW3.grown.size; omega) (by omega) ⟨x4, x131⟩ ⟨y1, by omega⟩).mono ?_
        rintro e w4 ⟨v2, rfl, hown4, hW4⟩
        have hWW := hW3.trans hW4
        have hP4 := hP2.wrote hWW hpb
        have hgr4 : Grows w w4 := Below.trans hgr2 (hWW.below (by omega) (fun g hg => by have := (hown2.lt g hg).1; omega))
        have hbw4 : w.heap.size < w4.heap.size := Nat.lt_of_lt_of_le hbw2 hWW.grown.size
        have hpw4 : ∀ g, (v2 : Value).ownBlock = some g → g < w4.heap.size := fun g hg => (hown4.lt g hg).2
        have hpb4 : some w.heap.size ≠ (v2 : Value).ownBlock := fun e => by have := (hown4.lt _ e.symm).1; omega
        have hsz4 := Nat.le_trans hsz2 hWW.grown.size
        have hol4 : (out ++ lits ((bs.drop fr).take (i - fr)) ++ mtok (x, y)).length ≤ 2 * (i + x) := by rw [List.length_append, mtok_len]; omega
        have HO3 : Hid (W = (out ++ lits ((bs.drop fr).take (i - fr)) ++ mtok (x, y)) ++ packFrom bs (i + x) (i + x)) := by show _ = _; rw [HO2.out]; simp
        clear hown3 hW3 hW4 hlo hll HO2 hLt hLt2 hLB HPL hown2 hP2 hWW
        go_wp2_with fail
        go_loopw [6, 41] (fun q t wv => ∃ k i' : Nat, k ≤ x ∧ i' = i + k ∧ t = iv k ∧ q = iv i' ∧ Places wv w.heap.size (v2 : Value).ownBlock (wnd bs i') ∧ Kept w.heap.size (v2 : Value).ownBlock w4 wv) (fun _ t _ => x - (intOf t).toNat)
        case atStart => exact ⟨0, i, Nat.zero_le _, rfl, rfl, rfl, hP4, Kept.refl _ _ _⟩
        case round =>
          obtain ⟨k, i', hk, hi', rfl, rfl, hPk, hKk⟩ := hrel
          by_cases hkt : k < x
          · have hin' : i' < n := by omega
            have HI := Lib.hid hi'
            clear hi'
            have hgk : Grows w wr := Below.trans hgr4 hKk.1
            have hbk : w.heap.size < wr.heap.size := Nat.lt_of_lt_of_le hbw4 hKk.1.size
            have hpk : ∀ g, (v2 : Value).ownBlock = some g → g < wr.heap.size := fun g hg => Nat.lt_of_lt_of_le (hpw4 g hg) hKk.1.size
            by_cases h1024 : i' < 1024
            · rw [(wnd_low h1024).1] at hPk
              have hn12 : n ≤ 1000000000000 := by omega
              have hz0 : 0 + i' = i' := Nat.zero_add _
              have hkeep := keep_any w.heap.size (v2 : Value).ownBlock A n c i' 0 i' bs wr hPk hz0 hpb4 hpk hbk HL.out (hr.later hgk) hc hin' hn12
              have HKEEP := Lib.hid hkeep
              clear hkeep
              go_wp2_with fail
              refine HKEEP.out.mono ?_
              rintro e w5 ⟨⟨ve, rfl⟩, hP5, hK5⟩
              rw [← (wnd_low h1024).2] at hP5
              go_wp2_with fail
              refine (forget_none w.heap.size A n c _ w5 (by omega)).mono ?_
              rintro e w6 ⟨⟨vf, rfl⟩, rfl⟩
              go_wp2_with fail
              go_roundw
              case rel => exact ⟨k + 1, i' + 1, by omega, by have := HI.out; omega, by go_num, by go_num, hP5, hKk.trans hK5⟩
              case measure => simp [intOf]; omega
            · rw [(wnd_high h1024).1] at hPk
              have e24 : (i' : Int) - 1024 = ((i' - 1024 : Nat) : Int) := by omega
              have hn12 : n ≤ 1000000000000 := by omega
              have hz0 : i' - 1024 + 1024 = i' := by omega
              have hkeep := keep_any w.heap.size (v2 : Value).ownBlock A n c i' (i' - 1024) 1024 bs wr hPk hz0 hpb4 hpk hbk HL.out (hr.later hgk) hc hin' hn12
              have HKEEP := Lib.hid hkeep
              clear hkeep
              go_wp2_with fail
              refine HKEEP.out.mono ?_
              rintro e w5 ⟨⟨ve, rfl⟩, hP5, hK5⟩
              have hg5 : Grows w w5 := Below.trans hgk hK5.1
              go_wp2_with fail
              refine (forget_any w.heap.size _ A n c (i' - 1024) 1024 bs w5 hP5 hpb4 (fun g hg => Nat.lt_of_lt_of_le (hpk g hg) hK5.1.size) (Nat.lt_of_lt_of_le hbk hK5.1.size) HL.out (hr.later hg5) hc (by omega) (by omega) (by omega)).mono ?_
              rintro e w6 ⟨⟨vf, rfl⟩, hP6, hK6⟩
              rw [← (wnd_high h1024).2] at hP6
              go_wp2_with fail
              go_roundw
              case rel => exact ⟨k + 1, i' + 1, by omega, by have := HI.out; omega, by go_num, by go_num, hP6, (hKk.trans hK5).trans hK6⟩
              case measure => simp [intOf]; omega
          · obtain rfl : i' = i + x := by omega
            go_wp2_with fail
            go_roundw
            case rel => exact ⟨i + x, i + x, out ++ lits ((bs.drop fr).take (i - fr)) ++ mtok (x, y), by omega, Nat.le_refl _, by go_num, by go_num, HO3.out, hol4, own_same hown4 hKk.2, hPk, Below.trans hgr4 hKk.1, Nat.le_trans hsz4 hKk.1.size⟩
            case measure => simp [intOf]; omega
    · have HO2 : Hid (W = out ++ lits (bs.drop fr)) := by show _ = _; rw [HO.out, pack_end (by rw [HL.out]; exact hi)]
      have HPL : Hid ((bs.drop fr).length = n - fr) := by show _ = _; rw [List.length_drop, HL.out]
      have hLB : Lies wr (w.heap.size + 1) A (bs.map bv) := (hr.below hgr).mono (by omega)
      by_cases hcf : c = fr
      · obtain rfl : fr = n := by omega
        subst hcf
        have HE : Hid (bs.drop c = []) := List.drop_eq_nil_of_le (by rw [HL.out]; omega)
        have hLt : Lies wr (w.heap.size + 1) A ((bs.drop c).map bv) := by rw [HE.out]; exact Lies.empty
        have HPL0 : Hid ((bs.drop c).length = 0) := by show _ = _; rw [HE.out]; rfl
        go_wp2_with fail
        refine (putlits_any u3 (w.heap.size + 1) out.length out A 0 0 (bs.drop c) wr hown HPL0.out hLt (by omega) (by omega) (by omega)).mono ?_
        rintro e w3 ⟨v1, rfl, hown3, hW3⟩
        rw [← HO2.out] at hown3
        have hgr3 : Grows w w3 := Below.trans hgr (hW3.below (by omega) (fun g hg => by have := (hown.lt g hg).1; omega))
        go_wp2_with fail
        go_ret
        exact ⟨v1, rfl, own_baseL hown3 (by omega), hgr3⟩
      · have hLt : Lies wr (w.heap.size + 1) (A.map (·.add fr)) ((bs.drop fr).map bv) := by
          rw [List.map_drop]; exact hLB.from_ _
        go_wp2_with fail
        refine (putlits_any u3 (w.heap.size + 1) out.length out _ (n - fr) (c - fr) (bs.drop fr) wr hown HPL.out hLt (by omega) (by omega) (by omega)).mono ?_
        rintro e w3 ⟨v1, rfl, hown3, hW3⟩
        rw [← HO2.out] at hown3
        have hgr3 : Grows w w3 := Below.trans hgr (hW3.below (by omega) (fun g hg => by have := (hown.lt g hg).1; omega))
        go_wp2_with fail
        go_ret
        exact ⟨v1, rfl, own_baseL hown3 (by omega), hgr3⟩
end Go.Proofs.YtbcldknecdbemaaGreatDoor

/-
  Contracts of lz's first and repeat.
-/
namespace Go.Proofs.YtbcldknecdbemaaGreatDoor
open Go.RowKit
set_option linter.unusedVariables false
set_option maxRecDepth 20000

/-- What the first token tells: how many bytes it has, how many it makes, its distance, whether it is whole. -/
def tokOf : List UInt8 → Nat × Nat × Nat × Bool
  | [] => (0, 0, 0, false)
  | c :: r => if c.toNat < 128 then (c.toNat + 2, c.toNat + 1, 0, decide (c.toNat + 1 ≤ r.length)) else if r.length < 2 then (0, 0, 0, false) else (3, c.toNat - 124, 1 + (r.getD 0 0).toNat + 256 * (r.getD 1 0).toNat, true)
/-- A token as a value. -/
abbrev tvL (t : Nat × Nat × Nat × Bool) : Value := .agg #[iv t.1, iv t.2.1, iv t.2.2.1]

theorem wrap_eq {a : Int} {n : Nat} (h : a = (n : Int)) (hn : n ≤ 1000000000000000) : IntKind.i64.wrap a = (n : Int) := by
  subst h
  simp [IntKind.wrap, IntKind.bits, IntKind.signed]
  omega
theorem tok_desc : (Tryz.prog.underlying 227).map (·.isRow) = some true := by kernel_rfl
theorem tok_size : (Tryz.prog.info? 227).map (·.size) = some 3 := by kernel_rfl
theorem res_has_tmp {P : Program} {w : World} {b : Nat} {vs : List Value} {fn : Func} {p q : Tmp} {t : TypeId} {d : TypeDesc} (h : fn.results = #[.cell p t, .tmp q]) (tmps : Array Value) (hp : tmps.getD p undef = .pointer (some ⟨b, 0, none⟩))
    (ht : P.underlying t = some d) (hd : d.isRow = true) (hi : (P.info? t).map (·.size) = some vs.length) (hb : Has w b vs) : (results fn tmps).run P w = .ok (.tuple #[.agg vs.toArray, tmps.getD q undef]) w := by
  rw [results_cell_tmp h, hp]
  simp only [asAddr, Sem.run_pure, Result.andThen_ok, run_loadVar_mid w b 0 t vs d hb.cells ht hd hi]

set_option maxRecDepth 20000 in
set_option maxHeartbeats 1000000 in
theorem first_any (A : Option Addr) (n c : Nat) (x : UInt8) (r : List UInt8) (w : World) (hl : r.length + 1 = n) (hr : Lies w w.heap.size A ((x :: r).map bv)) (hn : n ≤ 1000000000000) :
    Calls Tryz.prog 168 #[.slice A n c] w fun e w' => e = .returned (.tuple #[tvL (tokOf (x :: r)), .bool (tokOf (x :: r)).2.2.2]) ∧ Grows w w' := by
  have HL := Lib.hid hl
  clear hl
  obtain ⟨td, htd, htr⟩ := Option.map_eq_some_iff.1 tok_desc
  obtain ⟨ad, rfl, _, cx⟩ := hr.at_ (j := 0) (u := bv x) rfl
  have hbox := Has.new w 227 [.int .i64 0, .int .i64 0, .int .i64 0]
  have c0 : (w.alloc (.cells #[.int .i64 0, .int .i64 0, .int .i64 0] 227)).cell? ad = some (bv x) := by rw [add_zero_addr] at cx; exact hcell_later cx (grows_alloc _ _)
  have hn0 : (0 : Int) < (n : Int) := by have := HL.out; omega
  have hx8 := x.toNat_lt
  by_cases h1 : x.toNat < 128
  · have HT : Hid (tokOf (x :: r) = (x.toNat + 2, x.toNat + 1, 0, decide (x.toNat + 1 ≤ r.length))) := by show _ = _; rw [tokOf, if_pos h1]
    go_enter Tryz.func168, Tryz.ntmps168
    go_wp2_with fail
    refine bodyPost_ret (res_has_tmp (vs := [.int .i64 (1 + ((x.toNat : Int) + 1)), .int .i64 ((x.toNat : Int) + 1), .int .i64 0]) rfl _ rfl htd htr tok_size (Has.new w 227 _)) rfl ?_
    refine ⟨?_, grows_alloc _ _⟩
    rw [HT.out]
    have e1 : (1 : Int) + ((x.toNat : Int) + 1) = ((x.toNat + 2 : Nat) : Int) := by omega
    have e2 : (x.toNat : Int) + 1 = ((x.toNat + 1 : Nat) : Int) := by omega
    have e3 : decide ((x.toNat : Int) + 1 < (n : Int)) = decide (x.toNat + 1 ≤ r.length) := by have := HL.out; rw [decide_eq_decide]; omega
    show Ending.returned (.tuple #[.agg #[.int .i64 (1 + ((x.toNat : Int) + 1)), .int .i64 ((x.toNat : Int) + 1), .int .i64 0], .bool (decide ((x.toNat : Int) + 1 < (n : Int)))]) = _
    rw [e1, e3, e2]
    rfl
  · by_cases h2 : r.length < 2
    · have HT : Hid (tokOf (x :: r) = (0, 0, 0, false)) := by show _ = _; rw [tokOf, if_neg h1, if_pos h2]
      have hn3 : (n : Int) < 3 := by have := HL.out; omega
      go_enter Tryz.func168, Tryz.ntmps168
      go_wp2_with fail
      refine bodyPost_ret (res_has_tmp (vs := [.int .i64 0, .int .i64 0, .int .i64 0]) rfl _ rfl htd htr tok_size (Has.new w 227 _)) rfl ?_
      refine ⟨?_, grows_alloc _ _⟩
      rw [HT.out]
      rfl
    · obtain ⟨y, z, r', rfl⟩ : ∃ y z r', r = y :: z :: r' := by
        match r, h2 with
        | y :: z :: r', _ => exact ⟨y, z, r', rfl⟩
        | [], h => simp at h
        | [_], h => simp at h
      have HT : Hid (tokOf (x :: y :: z :: r') = (3, x.toNat - 124, 1 + y.toNat + 256 * z.toNat, true)) := by show _ = _; rw [tokOf, if_neg h1, if_neg h2]; rfl
      have hn3 : (3 : Int) ≤ (n : Int) := by have := HL.out; simp at this; omega
      obtain ⟨ad1, e1, _, c1⟩ := hr.at_ (j := 1) (u := bv y) rfl
      injection e1 with e1
      subst e1
      obtain ⟨ad2, e2, _, c2⟩ := hr.at_ (j := 2) (u := bv z) rfl
      injection e2 with e2
      subst e2
      have hy8 := y.toNat_lt
      have hz8 := z.toNat_lt
      go_enter Tryz.func168, Tryz.ntmps168
      go_wp2_with fail
      have hgA : Grows w (w.alloc (.cells #[.int .i64 0, .int .i64 0, .int .i64 0] 227)) := grows_alloc _ _
      generalize w.alloc (.cells #[.int .i64 0, .int .i64 0, .int .i64 0] 227) = wa at *
      have l1 : ∀ u, Grows wa.drew u → u.cell? ⟨ad.block, ad.off + 1, none⟩ = some (bv y) := fun u hu => hcell_later (by simpa [Addr.add] using c1) (Grows.trans hgA (Grows.trans (Grows.refl wa).drew hu))
      have l2 : ∀ u, Grows wa.drew u → u.cell? ⟨ad.block, ad.off + 2, none⟩ = some (bv z) := fun u hu => hcell_later (by simpa [Addr.add] using c2) (Grows.trans hgA (Grows.trans (Grows.refl wa).drew hu))
      have k1 : (1 : Int) < (n : Int) := by omega
      have k2 : (2 : Int) < (n : Int) := by omega
      have k1' : 1 < n := by omega
      have k2' : 2 < n := by omega
      have v1 : IntKind.i64.wrap ((x.toNat : Int) - 128) = ((x.toNat - 128 : Nat) : Int) := wrap_eq (by omega) (by omega)
      have v2 : IntKind.i64.wrap (((x.toNat - 128 : Nat) : Int) + 4) = ((x.toNat - 124 : Nat) : Int) := wrap_eq (by omega) (by omega)
      have v3 : IntKind.i64.wrap (1 + (y.toNat : Int)) = 1 + (y.toNat : Int) := by rw [wrap_eq (n := 1 + y.toNat) (by omega) (by omega)]; omega
      have vy : IntKind.i64.wrap (y.toNat : Int) = (y.toNat : Int) := wrap_eq rfl (by omega)
      have vz : IntKind.i64.wrap (z.toNat : Int) = (z.toNat : Int) := wrap_eq rfl (by omega)
      have v4 : IntKind.i64.wrap ((z.toNat : Int) * 256) = 256 * (z.toNat : Int) := by rw [wrap_eq (n := 256 * z.toNat) (by omega) (by omega)]; omega
      have v5 : IntKind.i64.wrap (1 + (y.toNat : Int) + 256 * (z.toNat : Int)) = 1 + (y.toNat : Int) + 256 * (z.toNat : Int) := by rw [wrap_eq (n := 1 + y.toNat + 256 * z.toNat) (by omega) (by omega)]; omega
      have hO := Grows.refl wa.drew
      refine wp_region_ord 15 [(0, true), (1, true), (2, true), (3, true), (4, true), (5, true), (6, true), (7, true), (8, true), (9, true), (10, true), (11, true), (12, true), (13, true), (14, true)] (by kernel_rfl) (by kernel_rfl) ?_
      repeat (first | (refine ord_take hO _ ?_ (by simp only [List.getElem?_cons_succ, List.getElem?_cons_zero]; rfl) (by rfl) ?_ ?_; rotate_left; (· (intro u hu0 hu; (try go_simp); (try with_reducible rfl))); try simp only [Act.put, List.setIfInBounds_toArray, List.set_cons_zero, List.set_cons_succ]) | (refine ord_skip _ (by simp only [List.getElem?_cons_succ, List.getElem?_cons_zero]; rfl) (by rfl) ?_; try simp only [Act.put, List.setIfInBounds_toArray, List.set_cons_zero, List.set_cons_succ]))
      clear hO l1 l2 v1 v2 v3 v4 v5 vy vz
      (refine ord_done (fun u hu => ?_); simp only [List.drop_succ_cons, List.drop_zero])
      have hgu := Grows.trans hgA (Grows.trans (Grows.refl wa).drew hu)
      have hbu := hbox.later (Grows.trans (Grows.refl wa).drew hu)
      go_wp2_with (refine wpList_storev rfl 227 (.tmp 2) (.tmp 40) rfl w.heap.size [.int .i64 0, .int .i64 0, .int .i64 0] [.int .i64 3, iv (x.toNat - 124), .int .i64 (1 + (y.toNat : Int) + 256 * (z.toNat : Int))] 3 rfl rfl hbu rfl rfl tok_size (by simp [Value.oneCell']) ?_; intro w1 hbox1 hbel1)
      refine NoPanic.normal ?_
      go_wp2_with fail
      refine bodyPost_ret (res_has_tmp (vs := [.int .i64 3, iv (x.toNat - 124), .int .i64 (1 + (y.toNat : Int) + 256 * (z.toNat : Int))]) rfl _ rfl htd htr tok_size hbox1) rfl ?_
      refine ⟨?_, hbel1 w.heap.size w (Nat.le_refl _) hgu⟩
      have e9 : 1 + (y.toNat : Int) + 256 * (z.toNat : Int) = ((1 + y.toNat + 256 * z.toNat : Nat) : Int) := by omega
      rw [HT.out, e9]
      rfl

set_option maxRecDepth 20000 in
set_option maxHeartbeats 1000000 in
theorem repeat_any (v : Value) (base m : Nat) (out : List UInt8) (ln d : Nat) (w : World) (hown : w.ownsRow base 5 1 v m (out.map bv)) (hb : base ≤ w.heap.size) (hd : 1 ≤ d ∧ d ≤ m) (hn : m + ln ≤ 1000000000000) :
    Calls Tryz.prog 169 #[v, iv ln, iv d] w fun e w' => ∃ v', e = .returned v' ∧ w'.ownsRow base 5 1 v' (copyN ln d out).length ((copyN ln d out).map bv) ∧ Wrote v v' w w' := by
  obtain ⟨i0, hi0, hz0, hz1, hz2⟩ := info_parts byte_info
  have hm : out.length = m := by simpa using hown.1
  subst hm
  go_enter Tryz.func169, Tryz.ntmps169
  go_wp2
  go_loopw [0, 8] (fun p t wr => ∃ (k : Nat) (o' : List UInt8), k ≤ ln ∧ t = iv k ∧ Hid (o' = copyN k d out) ∧ o'.length = out.length + k ∧ wr.ownsRow base 5 1 p o'.length (o'.map bv) ∧ Wrote v p w wr) (fun _ t _ => ln - (intOf t).toNat)
  case atStart => exact ⟨0, out, Nat.zero_le _, rfl, rfl, rfl, hown, Wrote.refl _ _⟩
  case round =>
    obtain ⟨k, o', hk, rfl, HO, hol, hown', hw⟩ := hrel
    by_cases hlt : k < ln
    · obtain ⟨j, hj⟩ : ∃ j, j + d = o'.length := ⟨o'.length - d, by omega⟩
      have hjl : j < o'.length := by omega
      obtain ⟨x, hx⟩ : ∃ x, o'[j]? = some x := ⟨_, List.getElem?_eq_getElem hjl⟩
      have HN : Hid (o' ++ [x] = copyN (k + 1) d out) := by
        show _ = _
        rw [copyN_succ, ← HO.out, show o'.length - d = j by omega, List.getD, hx]; rfl
      obtain ⟨A', c', rfl, hk'⟩ := own_form hown'
      have hLo := Lies.of_own hown'
      obtain ⟨ad, rfl, _, cx⟩ := hLo.at_ (j := j) (u := bv x) (by rw [List.getElem?_map, hx]; rfl)
      clear hx hLo
      have hnew := Lies.new wr 5 [bv x]
      have hwb : base ≤ wr.heap.size := Nat.le_trans hb hw.grown.size
      generalize hol' : o'.length = L at *
      have hjd : (L : Int) - (d : Int) = (j : Int) := by omega
      have hLn : L + 1 ≤ 1000000000000 := by omega
      have HOL := Lib.hid hol
      have HOL' := Lib.hid hol'
      have HJ := Lib.hid hj
      clear hol hol' hj
      go_wp2_with (at_builtin; refine wpList_append_src _ rfl (.tmp 10) (.tmp 18) _ rfl base 5 i0 _ 1 Tryz.underlying27 hi0 hz0 hz1 hz2 rfl _ L _ rfl (hown'.alloc _) _ _ 1 1 [bv x] rfl rfl hnew (by simp [Value.oneCell']) (by unfold maxLen; omega) (by omega) (by rw [World.size_alloc]; omega) ?_; intro v1 w1 hown1 hg1 hat1)
      have hW1 := hw.trans (Wrote.later (grows_alloc _ _) (Wrote.app hg1 hat1))
      rw [show [bv x] = [x].map bv from rfl, ← List.map_append] at hown1
      go_roundw
      case rel => exact ⟨k + 1, o' ++ [x], by omega, by go_num, HN.out, by rw [List.length_append, HOL'.out, HOL.out]; rfl, by rw [List.length_append, HOL'.out]; exact hown1, hW1⟩
      case measure => simp [intOf]; omega
    · obtain rfl : k = ln := by omega
      have hown2 : wr.ownsRow base 5 1 u0 (copyN k d out).length ((copyN k d out).map bv) := by rw [← HO.out]; exact hown'
      go_wp2
      go_ret
      exact ⟨_, rfl, hown2, hw⟩

/-- A scope whose code jumps back to one label, ahead of which c0 stands. -/
theorem wp_jumps {P : Program} {a : Act} {w : World} {Q : Exit → Act → World → Prop} {c0 rest : Code} (l : Nat) (J : Act → World → Prop) (μ : Act → World → Nat) (hf : findLabel (c0.seq ((Code.label l).seq rest)) l = some (Code.skip.seq rest))
    (start : c0.wp P (Exit.then J (fun _ _ _ => False)) a w)
    (pass : ∀ a w, J a w → rest.wp P (Exit.jump l (fun a' w' => J a' w' ∧ μ a' w' < μ a w) Q) a w) : (Code.scope (c0.seq ((Code.label l).seq rest))).wp P Q a w := by
  refine wp_scope_jumps l J μ hf (wp_seq (wp_mono start fun e a w h => ?_)) (fun a w h => wp_seq (wp_skip (pass a w h)))
  cases e with
  | normal =>
    refine wp_seq (wp_label ?_)
    show rest.wp P (Exit.jump l J Q) a w
    refine wp_mono (pass a w h) fun e a w h => ?_
    cases e with
    | goto l' => exact ⟨h.1, h.2.1⟩
    | _ => exact h
  | _ => exact h.elim
end Go.Proofs.YtbcldknecdbemaaGreatDoor

/-
  Contracts of lz's Count and Unpack.
-/
namespace Go.Proofs.YtbcldknecdbemaaGreatDoor
open Go.RowKit
set_option linter.unusedVariables false
set_option maxRecDepth 20000

/-- What a token's parts say of the whole. -/
theorem tok_none {x : UInt8} {r : List UInt8} (h : (tokOf (x :: r)).2.2.2 = false) : (∀ k, cnt (x :: r) k = none) ∧ ∀ most out, unp most (x :: r) out = ([], 2) := by
  rw [tokOf] at h
  by_cases h1 : x.toNat < 128
  · rw [if_pos h1] at h
    have h2 : r.length < x.toNat + 1 := by simpa using h
    exact ⟨fun k => cnt_lit_none h1 h2, fun most out => unp_lit_form h1 h2⟩
  · rw [if_neg h1] at h
    by_cases h2 : r.length < 2
    · exact ⟨fun k => cnt_mat_none h1 h2, fun most out => unp_mat_short h1 h2⟩
    · rw [if_neg h2] at h; cases h
theorem tok_some {x : UInt8} {r : List UInt8} {sz ln ds : Nat} (h : tokOf (x :: r) = (sz, ln, ds, true)) : 1 ≤ sz ∧ sz ≤ r.length + 1 ∧ 1 ≤ ln ∧ ln ≤ 131 ∧ ds ≤ 65536 ∧ (∀ k, cnt (x :: r) k = cnt ((x :: r).drop sz) (k + 1)) ∧
    (ds = 0 → sz = ln + 1) ∧ (∀ (most : Int) (out : List UInt8), (out.length < ds → unp most (x :: r) out = ([], 2)) ∧ (¬ out.length < ds → most < (out.length : Int) + ln → unp most (x :: r) out = ([], 3)) ∧
      (¬ most < (out.length : Int) + ln → ds = 0 → unp most (x :: r) out = unp most ((x :: r).drop sz) (out ++ ((x :: r).drop 1).take ln)) ∧
      (¬ out.length < ds → ¬ most < (out.length : Int) + ln → ds ≠ 0 → unp most (x :: r) out = unp most ((x :: r).drop sz) (copyN ln ds out))) := by
  rw [tokOf] at h
  have hx := x.toNat_lt
  by_cases h1 : x.toNat < 128
  · rw [if_pos h1] at h
    simp only [Prod.mk.injEq] at h
    obtain ⟨rfl, rfl, rfl, h2⟩ := h
    have h3 : ¬ r.length < x.toNat + 1 := by have := of_decide_eq_true h2; omega
    refine ⟨by omega, by omega, by omega, by omega, by omega, fun k => by rw [cnt_lit h1 h3]; rfl, fun _ => rfl, fun most out => ⟨fun h => by omega, fun _ h => unp_lit_range h1 h3 (by omega), fun h _ => ?_, fun _ _ h => absurd rfl h⟩⟩
    rw [unp_lit h1 h3 (by omega)]; rfl
  · rw [if_neg h1] at h
    by_cases h2 : r.length < 2
    · rw [if_pos h2] at h; simp at h
    · rw [if_neg h2] at h
      simp only [Prod.mk.injEq] at h
      obtain ⟨rfl, rfl, rfl, _⟩ := h
      have hy := (r.getD 0 0).toNat_lt
      have hz := (r.getD 1 0).toNat_lt
      refine ⟨by omega, by omega, by omega, by omega, by omega, fun k => by rw [cnt_mat h1 h2]; rfl, fun h => by omega, fun most out => ⟨fun h => unp_mat_far h1 h2 h, fun h h' => unp_mat_range h1 h2 h (by omega), fun _ h => by omega, fun h h' _ => ?_⟩⟩
      rw [unp_mat h1 h2 h (by omega)]; rfl

/-- How many tokens, and the error, as values. -/
def countVal : Option Nat → Value
  | some t => .tuple #[iv t, .int .i64 0]
  | none => .tuple #[.int .i64 0, .int .i64 2]

set_option maxRecDepth 20000 in
set_option maxHeartbeats 4000000 in
theorem unpack_any (A : Option Addr) (n c : Nat) (bs : List UInt8) (most : Int) (w : World) (hl : bs.length = n) (hr : Lies w w.heap.size A (bs.map bv)) (hc : n ≤ c) (hn : n ≤ 1000000000) (hmo : -9223372036854775808 ≤ most ∧ most ≤ 9223372036854775807) :
    Calls Tryz.prog 149 #[.slice A n c, .int .i64 most] w fun e w' => ∃ v, e = .returned (.tuple #[v, iv (unpackOf bs most).2]) ∧ w'.ownsRow w.heap.size 5 1 v (unpackOf bs most).1.length ((unpackOf bs most).1.map bv) ∧ Grows w w' := by
  obtain ⟨i0, hi0, hz0, hz1, hz2⟩ := info_parts byte_info
  obtain ⟨mo1, mo2⟩ := hmo
  go_enter Tryz.func149, Tryz.ntmps149
  go_wp2
  refine wp_jumps 0 (fun a' w' => ∃ (A' : Option Addr) (m c' : Nat) (r : List UInt8) (pv : Value) (out : List UInt8) (u7 u8 u9 u10 u11 u12 u13 u14 u15 u16 u17 u18 u19 u20 u21 u22 u23 u24 u25 u26 u27 u28 u29 u30 u31 u32 u33 u34 u35 u36 u37 u38 u39 u40 u41 u42 u43 u44 u45 u46 u47 u48 u49 u50 u51 u52 : Value), a' = { tmps := #[.slice A' m c', .int .i64 most, undef, undef, .slice none 0 0, .int .i64 0, pv, u7, u8, u9, u10, u11, u12, u13, u14, u15, u16, u17, u18, u19, u20, u21, u22, u23, u24, u25, u26, u27, u28, u29, u30, u31, u32, u33, u34, u35, u36, u37, u38, u39, u40, u41, u42, u43, u44, u45, u46, u47, u48, u49, u50, u51, u52], defers := [] } ∧ r.length = m ∧ m ≤ c' ∧ out.length + 131 * m ≤ 131 * n ∧
    (out.length = 0 ∨ (out.length : Int) ≤ most) ∧ Lies w' w.heap.size A' (r.map bv) ∧ w'.ownsRow w.heap.size 5 1 pv out.length (out.map bv) ∧ Hid (unp most r out = unpackOf bs most) ∧ Grows w w') (fun a' _ => slen (a'.tmps.getD 0 undef)) rfl ?_ ?_
  · go_wp2
    exact ⟨A, n, c, bs, _, [], _, _, _, _, _, _, _, _, _, _, _, _, _, _, _, _, _, _, _, _, _, _, _, _, _, _, _, _, _, _, _, _, _, _, _, _, _, _, _, _, _, _, _, _, _, _, rfl, hl, hc, by simp, .inl rfl, hr, World.ownsRow_nil _ _ _ _, rfl, Grows.refl _⟩
  · rintro a1 w1 ⟨A', m, c', r, pv, out, u7, u8, u9, u10, u11, u12, u13, u14, u15, u16, u17, u18, u19, u20, u21, u22, u23, u24, u25, u26, u27, u28, u29, u30, u31, u32, u33, u34, u35, u36, u37, u38, u39, u40, u41, u42, u43, u44, u45, u46, u47, u48, u49, u50, u51, u52, rfl, hrl, hmc, hlen, hom, hL, hown, HC, hg1⟩
    match r, hrl, hL, HC with
    | [], hrl, hL, HC =>
      obtain rfl : m = 0 := by simpa using hrl.symm
      have HV : Hid (unpackOf bs most = (out, 0)) := by show _ = _; rw [← HC.out, unp_nil]
      go_wp2
      simp only [Exit.jump]
      go_ret2
      rw [HV.out]
      exact ⟨_, rfl, hown, hg1⟩
    | x :: r', hrl, hL, HC =>
      have hrl' : r'.length + 1 = m := by simpa using hrl
      have hwb1 : w.heap.size ≤ w1.heap.size := hg1.size
      have hfirst := first_any A' m c' x r' w1 hrl' (hL.mono hwb1) (by omega)
      have HTN := Lib.hid (@tok_none x r')
      have hm0 : ¬ ((m : Int) = 0) := by omega
      have hmb : ((m : Int) == 0) = false := by simpa using hm0
      obtain ⟨sz, ln, ds, wh, htok⟩ : ∃ sz ln ds wh, tokOf (x :: r') = (sz, ln, ds, wh) := ⟨_, _, _, _, rfl⟩
      rw [htok] at hfirst HTN
      simp only [] at hfirst HTN
      have HTK := Lib.hid htok
      clear htok
      have HRL := Lib.hid hrl
      have HRL' := Lib.hid hrl'
      clear hrl hrl'
      obtain ⟨L, hLo⟩ : ∃ L, out.length = L := ⟨_, rfl⟩
      have HOL := Lib.hid hLo
      rw [hLo] at hown hlen hom
      clear hLo
      obtain ⟨Ab, cb, rfl, hcb⟩ := own_form hown
      go_wp2_with fail
      refine hfirst.mono ?_
      rintro e w2 ⟨rfl, hg2⟩
      clear hfirst
      have hg3 := Grows.trans (Grows.trans hg1 hg2) (grows_alloc w2 (.cells #[.int .i64 (sz : Int), .int .i64 (ln : Int), .int .i64 (ds : Int)] 227))
      have hg13 := Grows.trans hg2 (grows_alloc w2 (.cells #[.int .i64 (sz : Int), .int .i64 (ln : Int), .int .i64 (ds : Int)] 227))
      have hL3 := hL.below (hg13.mono hwb1)
      have hown3 := own_later hown hg13
      have hwb3 := Nat.le_trans hwb1 hg13.size
      have hneb : some w2.heap.size ≠ (Value.slice Ab L cb).ownBlock := fun e => by have := (hown.lt _ e.symm).2; have := hg2.size; omega
      clear hL hown
      have f0 : (w2.alloc (.cells #[.int .i64 (sz : Int), .int .i64 (ln : Int), .int .i64 (ds : Int)] 227)).cell? ⟨w2.heap.size, 0, none⟩ = some (iv sz) := by rw [cell_of_row _ _ _ _ 227 (0, 0) (heap_alloc_new w2 _)]; rfl
      have f1 : (w2.alloc (.cells #[.int .i64 (sz : Int), .int .i64 (ln : Int), .int .i64 (ds : Int)] 227)).cell? ⟨w2.heap.size, 1, none⟩ = some (iv ln) := by rw [cell_of_row _ _ _ _ 227 (0, 0) (heap_alloc_new w2 _)]; rfl
      have f2 : (w2.alloc (.cells #[.int .i64 (sz : Int), .int .i64 (ln : Int), .int .i64 (ds : Int)] 227)).cell? ⟨w2.heap.size, 2, none⟩ = some (iv ds) := by rw [cell_of_row _ _ _ _ 227 (0, 0) (heap_alloc_new w2 _)]; rfl
      cases wh with
      | false =>
        have HV : Hid (unpackOf bs most = ([], 2)) := by show _ = _; rw [← HC.out]; exact (HTN.out rfl).2 most out
        go_wp2_with fail
        simp only [Exit.jump]
        go_ret2
        rw [HV.out]
        exact ⟨_, rfl, World.ownsRow_nil _ _ _ _, hg3⟩
      | true =>
        obtain ⟨s1, s2, s3, s4, s5, s6, s7, s8⟩ := tok_some HTK.out
        rw [HRL'.out] at s2
        clear s6
        by_cases hdl : L < ds
        · have HV : Hid (unpackOf bs most = ([], 2)) := by show _ = _; rw [← HC.out]; exact (s8 most out).1 (by rw [HOL.out]; exact hdl)
          go_wp2_with fail
          simp only [Exit.jump]
          go_ret2
          rw [HV.out]
          exact ⟨_, rfl, World.ownsRow_nil _ _ _ _, hg3⟩
        · have hsub : -9223372036854775808 ≤ most - (L : Int) ∧ most - (L : Int) ≤ 9223372036854775807 := by omega
          by_cases hrg : most - (L : Int) < (ln : Int)
          · have HV : Hid (unpackOf bs most = ([], 3)) := by show _ = _; rw [← HC.out]; exact (s8 most out).2.1 (by rw [HOL.out]; exact hdl) (by rw [HOL.out]; omega)
            go_wp2_with fail
            simp only [Exit.jump]
            go_ret2
            rw [HV.out]
            exact ⟨_, rfl, World.ownsRow_nil _ _ _ _, hg3⟩
          · by_cases hds : ds = 0
            · skip
              have HSZ := Lib.hid (s7 hds)
              have hsz2 : 2 ≤ sz := by have := HSZ.out; omega
              have hszl : sz - 1 ≤ 131 := by have := HSZ.out; omega
              have HPL : Hid ((((x :: r').drop 1).take ln).length = sz - 1) := by show _ = _; rw [List.length_take, List.length_drop, HRL.out, HSZ.out]; have := HSZ.out; omega
              have hLp : Lies (w2.alloc (.cells #[.int .i64 (sz : Int), .int .i64 (ln : Int), .int .i64 (ds : Int)] 227)) w.heap.size (A'.map (·.add 1)) ((((x :: r').drop 1).take ln).map bv) := by rw [List.map_take, List.map_drop]; exact (hL3.from_ 1).take ln
              have HC2 : Hid (unp most ((x :: r').drop sz) (out ++ ((x :: r').drop 1).take ln) = unpackOf bs most) := by show _ = _; rw [← (s8 most out).2.2.1 (by rw [HOL.out]; omega) hds]; exact HC.out
              have hml : ¬ ((L : Int) + (sz - 1 : Nat) > most) := by have := HSZ.out; omega
              have hs7' := hds
              generalize ((x :: r').drop 1).take ln = piece at *
              clear HTN HC s7 s8
              subst hs7'
              by_cases hcs : c' = sz
              · obtain rfl : sz = m := by omega
                subst hcs
                have HE : Hid ((x :: r').drop c' = []) := List.drop_eq_nil_of_le (by rw [HRL.out]; exact Nat.le_refl _)
                rw [HE.out] at HC2
                go_wp2_with (at_builtin; refine wpList_append_src _ rfl (.tmp 37) (.tmp 41) _ rfl w.heap.size 5 i0 _ 1 Tryz.underlying27 hi0 hz0 hz1 hz2 rfl _ L _ rfl hown3 w.heap.size _ _ _ (piece.map bv) rfl (by rw [List.length_map]; exact HPL.out) hLp (bv_one piece) (by unfold maxLen; omega) (by omega) hwb3 ?_; intro v4 w4 hown4 hg4 hat4; have f4 := hg4.cell f0 hneb)
                have hW4 := Wrote.app hg4 hat4
                have hB4 := hW4.below hwb3 (own_ge hown3)
                rw [← List.map_append] at hown4
                go_step3
                refine ⟨rfl, ⟨_, _, _, [], _, out ++ piece, _, _, _, _, _, _, _, _, _, _, _, _, _, _, _, _, _, _, _, _, _, _, _, _, _, _, _, _, _, _, _, _, _, _, _, _, _, _, _, _, _, _, _, _, _, _, rfl, rfl, Nat.le_refl _, by rw [List.length_append, HOL.out, HPL.out]; omega, by rw [List.length_append, HOL.out, HPL.out]; exact .inr (by omega), Lies.empty, (by rw [List.length_append, HOL.out, HPL.out]; exact hown4), HC2.out, Below.trans hg3 hB4⟩, ?_⟩
                simp [slen]; omega
              · skip
                go_wp2_with (at_builtin; refine wpList_append_src _ rfl (.tmp 37) (.tmp 41) _ rfl w.heap.size 5 i0 _ 1 Tryz.underlying27 hi0 hz0 hz1 hz2 rfl _ L _ rfl hown3 w.heap.size _ _ _ (piece.map bv) rfl (by rw [List.length_map]; exact HPL.out) hLp (bv_one piece) (by unfold maxLen; omega) (by omega) hwb3 ?_; intro v4 w4 hown4 hg4 hat4; have f4 := hg4.cell f0 hneb)
                have hW4 := Wrote.app hg4 hat4
                have hB4 := hW4.below hwb3 (own_ge hown3)
                rw [← List.map_append] at hown4
                go_step3
                refine ⟨rfl, ⟨_, m - sz, c' - sz, (x :: r').drop sz, _, out ++ piece, _, _, _, _, _, _, _, _, _, _, _, _, _, _, _, _, _, _, _, _, _, _, _, _, _, _, _, _, _, _, _, _, _, _, _, _, _, _, _, _, _, _, _, _, _, _, rfl, by rw [List.length_drop, HRL.out], by omega, by rw [List.length_append, HOL.out, HPL.out]; omega, by rw [List.length_append, HOL.out, HPL.out]; exact .inr (by omega), ?_, (by rw [List.length_append, HOL.out, HPL.out]; exact hown4), HC2.out, Below.trans hg3 hB4⟩, ?_⟩
                · rw [List.map_drop]; exact (hL3.below hB4).from_ sz
                · simp [slen]; omega
            · skip
              have HC2 : Hid (unp most ((x :: r').drop sz) (copyN ln ds out) = unpackOf bs most) := by show _ = _; rw [← (s8 most out).2.2.2 (by rw [HOL.out]; exact hdl) (by rw [HOL.out]; omega) hds]; exact HC.out
              have hrep := repeat_any _ w.heap.size L out ln ds (w2.alloc (.cells #[.int .i64 (sz : Int), .int .i64 (ln : Int), .int .i64 (ds : Int)] 227)) hown3 hwb3 ⟨by omega, by omega⟩ (by omega)
              have HCL : Hid ((copyN ln ds out).length = L + ln) := by show _ = _; rw [copyN_len, HOL.out]
              have hdsb : ((ds : Int) == 0) = false := by simp; omega
              clear HTN HC s7 s8
              by_cases hcs : c' = sz
              · obtain rfl : sz = m := by omega
                subst hcs
                have HE : Hid ((x :: r').drop c' = []) := List.drop_eq_nil_of_le (by rw [HRL.out]; exact Nat.le_refl _)
                rw [HE.out] at HC2
                go_wp2_with fail
                refine hrep.mono ?_
                rintro e w4 ⟨v4, rfl, hown4, hW4⟩
                have f4 := hW4.grown.cell f0 hneb
                have hB4 := hW4.below hwb3 (own_ge hown3)
                go_wp2_with fail
                go_step3
                refine ⟨rfl, ⟨_, _, _, [], _, copyN ln ds out, _, _, _, _, _, _, _, _, _, _, _, _, _, _, _, _, _, _, _, _, _, _, _, _, _, _, _, _, _, _, _, _, _, _, _, _, _, _, _, _, _, _, _, _, _, _, rfl, rfl, Nat.le_refl _, by rw [HCL.out]; omega, by rw [HCL.out]; exact .inr (by omega), Lies.empty, hown4, HC2.out, Below.trans hg3 hB4⟩, ?_⟩
                simp [slen]; omega
              · skip
                go_wp2_with fail
                refine hrep.mono ?_
                rintro e w4 ⟨v4, rfl, hown4, hW4⟩
                have f4 := hW4.grown.cell f0 hneb
                have hB4 := hW4.below hwb3 (own_ge hown3)
                go_wp2_with fail
                go_step3
                refine ⟨rfl, ⟨_, m - sz, c' - sz, (x :: r').drop sz, _, copyN ln ds out, _, _, _, _, _, _, _, _, _, _, _, _, _, _, _, _, _, _, _, _, _, _, _, _, _, _, _, _, _, _, _, _, _, _, _, _, _, _, _, _, _, _, _, _, _, _, rfl, by rw [List.length_drop, HRL.out], by omega, by rw [HCL.out]; omega, by rw [HCL.out]; exact .inr (by omega), ?_, hown4, HC2.out, Below.trans hg3 hB4⟩, ?_⟩
                · rw [List.map_drop]; exact (hL3.below hB4).from_ sz
                · simp [slen]; omega
end Go.Proofs.YtbcldknecdbemaaGreatDoor

/-
  The laws of layer 5: the example (lives); one byte many times (the reference's Fill).
-/
namespace Go.Proofs.YtbcldknecdbemaaGreatDoor
open Go.RowKit
set_option linter.unusedVariables false
set_option maxRecDepth 20000

theorem ret_true {a : Bool} (h : a = true) : Ending.returned (.bool a) = .returned (.bool true) := by rw [h]
def eightL : List UInt8 := [97, 97, 97, 97, 97, 97, 97, 97]
theorem pack_eight : packOf eightL = [0, 97, 131, 0, 0] := by
  have hm := rep_match 8 97 1 (by omega) (by omega)
  show packOf (List.replicate 8 97) = _
  unfold packOf
  rw [pack_none (by simp) (rep_none 8 97 0 (.inl rfl)), Nat.zero_add, pack_some (by simp) (by rw [hm]; decide), hm, pack_end (by simp)]
  simp [lits_nil]
  rw [lits_more (by simp)]
  simp [lits_nil, mtok]

set_option maxHeartbeats 1000000 in
/-- Fill of one byte. -/
theorem fill_one (A : Option Addr) (c m : Nat) (x : UInt8) (w : World) (hr : Lies w w.heap.size A [bv x]) (hm : m ≤ 1000000) :
    Calls Tryz.prog 71 #[.slice A 1 c, .int .i64 (m : Int)] w fun e w' => ∃ (A' : Option Addr) (c' : Nat), e = .returned (.slice A' m c') ∧ m ≤ c' ∧ Lies w' w'.heap.size A' ((List.replicate m x).map bv) ∧ Below w.heap.size w w' := by
  obtain ⟨i0, hi0, hz0, hz1, hz2⟩ := info_parts byte_info
  go_enter Tryz.func71, Tryz.ntmps71
  go_wp2
  go_loopw [5, 6] (fun v i wr => ∃ (k : Nat) (l : List UInt8), k ≤ m ∧ Hid (l = List.replicate k x) ∧ i = .int .i64 k ∧ wr.ownsRow w.heap.size 5 1 v k (l.map bv) ∧ Grows w wr) (fun _ i _ => m - (intOf i).toNat)
  case atStart => exact ⟨0, [], Nat.zero_le _, rfl, rfl, World.ownsRow_nil _ _ _ _, Grows.refl _⟩
  case round =>
    obtain ⟨k, l, hk, HK, rfl, hown, hgr⟩ := hrel
    by_cases hlt : k < m
    · obtain ⟨ad, rfl, _, cx⟩ := (hr.later hgr).at_ (j := 0) (u := bv x) rfl
      rw [add_zero_addr] at cx
      have HN : Hid (l ++ [x] = List.replicate (k + 1) x) := by show _ = _; rw [HK.out, List.replicate_succ']
      have hnew := Lies.new wr 5 [bv x]
      have r2 : (k : Int) % 1 = 0 := by omega
      go_wp2_with (at_builtin; refine wpList_append_src _ rfl (.tmp 15) (.tmp 23) _ rfl w.heap.size 5 i0 _ 1 Tryz.underlying27 hi0 hz0 hz1 hz2 rfl u5 k _ rfl (hown.alloc _) _ _ 1 1 [bv x] rfl rfl hnew (by simp [Value.oneCell']) (by unfold maxLen; omega) (by omega) (by rw [World.size_alloc]; have := hgr.size; omega) ?_; intro v' w' hown' hg' hat')
      have hb2 : Below w.heap.size wr w' := ((Below.refl _ wr).alloc hgr.size _).grown hg' (by rw [World.size_alloc]; have := hgr.size; omega) (own_ge hown)
      rw [show [bv x] = [x].map bv from rfl, ← List.map_append] at hown'
      go_roundw
      case rel => exact ⟨k + 1, l ++ [x], by omega, HN.out, by go_num, hown', Below.trans hgr hb2⟩
      case measure => simp [intOf]; omega
    · obtain rfl : k = m := by omega
      obtain ⟨A', c', rfl, hc⟩ := own_form hown
      go_wp2
      go_ret
      exact ⟨A', c', rfl, hc, by rw [← HK.out]; exact Lies.of_own hown, hgr⟩

/-- The contracts, with what they answer under letters. -/
theorem pack_out (A : Option Addr) (n c : Nat) (bs : List UInt8) (w : World) (hl : bs.length = n) (hr : Lies w w.heap.size A (bs.map bv)) (hc : n ≤ c) (hn : n ≤ 1000000000) :
    Calls Tryz.prog 98 #[.slice A n c] w fun e w' => ∃ (p : List UInt8) (pn c' : Nat) (A' : Option Addr), Hid (packOf bs = p) ∧ Hid (p.length = pn) ∧ pn ≤ n + (n + 127) / 128 ∧ e = .returned (.slice A' pn c') ∧ pn ≤ c' ∧ Lies w' w'.heap.size A' (p.map bv) ∧ Grows w w' := by
  refine (pack_any A n c bs w hl hr hc hn).mono ?_
  rintro e w' ⟨v, rfl, hown, hg⟩
  obtain ⟨A', c', rfl, hc'⟩ := own_form hown
  have hpl := packOf_len bs
  rw [hl] at hpl
  exact ⟨_, _, c', A', rfl, rfl, hpl, rfl, hc', Lies.of_own hown, hg⟩
theorem unpack_out (A : Option Addr) (n c : Nat) (bs : List UInt8) (most : Int) (w : World) (hl : bs.length = n) (hr : Lies w w.heap.size A (bs.map bv)) (hc : n ≤ c) (hn : n ≤ 1000000000) (hmo : -9223372036854775808 ≤ most ∧ most ≤ 9223372036854775807) :
    Calls Tryz.prog 149 #[.slice A n c, .int .i64 most] w fun e w' => ∃ (l : List UInt8) (er ln c' : Nat) (A' : Option Addr), Hid (unpackOf bs most = (l, er)) ∧ Hid (l.length = ln) ∧ e = .returned (.tuple #[.slice A' ln c', iv er]) ∧ ln ≤ c' ∧ Lies w' w'.heap.size A' (l.map bv) ∧ Grows w w' := by
  refine (unpack_any A n c bs most w hl hr hc hn hmo).mono ?_
  rintro e w' ⟨v, rfl, hown, hg⟩
  obtain ⟨A', c', rfl, hc'⟩ := own_form hown
  exact ⟨_, _, _, c', A', rfl, rfl, rfl, hc', Lies.of_own hown, hg⟩
end Go.Proofs.YtbcldknecdbemaaGreatDoor
