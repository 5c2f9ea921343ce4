/-
  Nodes made of any numbers, and the forests made of them (the reference's Node, Row), of no program but its names.
-/
import Derived.Test.YtanofmejokgijaaTreP
import Derived.Test.YtanofmejokgijaaPaG
namespace Go.Proofs.Ytanofmejokgijaa
set_option linter.unusedVariables false

/-- What a node is made of. -/
structure Gen where
  kind : Int
  up : Int
  name : Int
  n : Int
  b : List UInt8
  s : List UInt8
def ownOfG (g : Gen) : Own :=
  let k := around g.kind 4
  { kind := 1 + (k : Int), name := nameOf g.name, mode := around g.n 4096, uid := around g.n 1000, gid := around g.kind 2147483648, mtime := around g.n 1099511627777,
    data := if k = 1 then g.b.take 60 else [], target := if k = 2 then 120 :: (g.s.take 20).filter (fun c => c != 0) else [],
    major := if k = 3 then around g.n 256 else 0, minor := if k = 3 then around g.up 256 else 0,
    attrs := if Int.tmod g.n 3 = 1 then [(nameOf g.up, g.s.take 24)] else [] }
theorem gen_own (g : Gen) : ownB (ownOfG g) = true ∧ nameB (ownOfG g).name = true := by
  refine ⟨?_, (nameOf_name g.name).1⟩
  have k4 : around g.kind 4 < 4 := around_lt _ (by omega)
  have m1 : around g.n 4096 < 4096 := around_lt _ (by omega)
  have m2 : around g.n 1000 < 1000 := around_lt _ (by omega)
  have m3 : around g.kind 2147483648 < 2147483648 := around_lt _ (by omega)
  have m4 : around g.n 1099511627777 < 1099511627777 := around_lt _ (by omega)
  have m5 : around g.n 256 < 256 := around_lt _ (by omega)
  have m6 : around g.up 256 < 256 := around_lt _ (by omega)
  unfold ownOfG
  generalize around g.kind 4 = k at *
  have hat : attrsB [] (if Int.tmod g.n 3 = 1 then [(nameOf g.up, g.s.take 24)] else []) = true := by
    split
    · have hn := (nameOf_name g.up).1
      have hc := cmpB_nil (name_ne hn)
      simp only [attrsB, hn, hc, Bool.and_true, Bool.true_and, decide_true, decide_eq_true_eq]
      simp; omega
    · rfl
  have hal : (if Int.tmod g.n 3 = 1 then [(nameOf g.up, g.s.take 24)] else []).length ≤ 4 := by split <;> simp
  unfold ownB
  simp only [hat, Bool.and_true]
  have hd : (g.b.take 60).length ≤ 60 := by simp; omega
  have ht : (120 :: (g.s.take 20).filter (fun c => c != 0)).length ≤ 21 := by
    have := List.length_filter_le (fun c : UInt8 => c != 0) (g.s.take 20)
    simp only [List.length_cons, List.length_take] at this ⊢
    omega
  have hz : (120 :: (g.s.take 20).filter (fun c => c != 0)).all (fun c : UInt8 => c != 0) = true := by
    rw [List.all_cons, List.all_filter]
    simp
  have hp0 : 0 < (120 :: (g.s.take 20).filter (fun c => c != 0)).length := by simp
  have hk : k = 0 ∨ k = 1 ∨ k = 2 ∨ k = 3 := by omega
  generalize (if Int.tmod g.n 3 = 1 then [(nameOf g.up, g.s.take 24)] else []) = at_ at *
  generalize 120 :: (g.s.take 20).filter (fun c => c != 0) = tg at *
  generalize g.b.take 60 = dt at *
  have main : decide (1 ≤ 1 + (k : Int) ∧ 1 + (k : Int) ≤ 4 ∧ (0 : Int) ≤ (around g.n 4096 : Int) ∧ (around g.n 4096 : Int) ≤ 4095 ∧ (0 : Int) ≤ (around g.n 1000 : Int) ∧ (around g.n 1000 : Int) ≤ 2147483647 ∧ (0 : Int) ≤ (around g.kind 2147483648 : Int) ∧ (around g.kind 2147483648 : Int) ≤ 2147483647 ∧ (0 : Int) ≤ (around g.n 1099511627777 : Int) ∧ (around g.n 1099511627777 : Int) ≤ 1099511627776 ∧ at_.length ≤ 4) = true := by
    rw [decide_eq_true_eq]
    omega
  rw [main]
  rcases hk with rfl | rfl | rfl | rfl
  · simp
  · simp; omega
  · have htp : 0 < tg.length ∧ tg.length < 65 := ⟨hp0, by omega⟩
    simp [hz, htp]
  · simp; omega

/-- One more node, in the directory that it asks. -/
def stepK (K : Fo) (g : Gen) : Fo :=
  match (allE K)[around g.up (allE K).length]? with
  | none => K
  | some u => if u.2.kind = 1 ∧ u.1.length ≤ 5 then insF (ownOfG g) K (u.1 ++ [(ownOfG g).name]) else K
def madeF (gs : List Gen) : Fo := (gs.take 12).foldl stepK .nil
theorem step_good {K : Fo} (h : Good K) (g : Gen) : Good (stepK K g) ∧ sizeF (stepK K g) ≤ sizeF K + 1 := by
  unfold stepK
  split
  · exact ⟨h, by omega⟩
  · rename_i u hu
    split
    · rename_i hk
      exact good_ins h u (List.mem_of_getElem? hu) hk.1 hk.2 (ownOfG g) (gen_own g).1 (gen_own g).2
    · exact ⟨h, by omega⟩
theorem fold_good : ∀ (l : List Gen) (K : Fo), Good K → Good (l.foldl stepK K) ∧ sizeF (l.foldl stepK K) ≤ sizeF K + l.length
  | [], K, h => ⟨h, by simp⟩
  | g :: l, K, h => by
    obtain ⟨h1, h2⟩ := step_good h g
    obtain ⟨h3, h4⟩ := fold_good l (stepK K g) h1
    exact ⟨h3, by simp only [List.foldl_cons, List.length_cons] at h4 ⊢; omega⟩
theorem made_good (gs : List Gen) : Good (madeF gs) ∧ sizeF (madeF gs) ≤ 12 := by
  obtain ⟨h1, h2⟩ := fold_good (gs.take 12) .nil Good.nil
  refine ⟨h1, ?_⟩
  have h3 : (gs.take 12).length ≤ 12 := by simp; omega
  have h4 : sizeF Fo.nil = 0 := rfl
  unfold madeF
  omega
theorem made_may (gs : List Gen) : mayOf rootOwn (madeF gs) = 0 := (made_good gs).1.may (by have := (made_good gs).2; omega)
end Go.Proofs.Ytanofmejokgijaa
