/-
  The reference's Good (parameters made such as may be).
-/
import Derived.Test.YtkgkkobdpgnicaaDoorCutI
import Derived.Test.YtkgkkobdpgnicaaDoorRAro
namespace Go.Proofs.YtkgkkobdpgnicaaDoor
open Go.RowKit
set_option linter.unusedVariables false

/-- Parameters made of any. -/
def goodP (a b c : Int) : Prm := ⟨1 + around a 12, 1 + around a 12 + around b 20, 1 + around a 12 + around b 20 + around c 40⟩
theorem goodP_ok (a b c : Int) : (goodP a b c).Ok := by
  have h1 := around_lt a (m := 12) (by decide)
  have h2 := around_lt b (m := 20) (by decide)
  have h3 := around_lt c (m := 40) (by decide)
  exact ⟨by simp [goodP], by simp [goodP], by simp [goodP], by simp only [goodP]; omega⟩
theorem goodP_mx (a b c : Int) : (goodP a b c).mx ≤ 70 := by
  have h1 := around_lt a (m := 12) (by decide)
  have h2 := around_lt b (m := 20) (by decide)
  have h3 := around_lt c (m := 40) (by decide)
  simp only [goodP]; omega
theorem prm_size : (Tryd.prog.info? 23).map (·.size) = some 3 := by kernel_rfl
theorem prm_one (a b c : Int) : ∀ v ∈ ([.int .i64 a, .int .i64 b, .int .i64 c] : List Value), v.oneCell' = true := by intro v hv; simp at hv; rcases hv with rfl | rfl | rfl <;> rfl
/-- An int of 64 bits. -/
def I64 (n : Int) : Prop := -9223372036854775808 ≤ n ∧ n ≤ 9223372036854775807
set_option maxRecDepth 20000 in
theorem good_any (a b c : Int) (w : World) (ha : I64 a) (hb : I64 b) (hc : I64 c) :
    Calls Tryd.prog 9 #[pz a b c] w fun e w' => e = .returned (pv (goodP a b c)) ∧ Grows w w' := by
  have h1 := around_lt a (m := 12) (by decide)
  have h2 := around_lt b (m := 20) (by decide)
  have h3 := around_lt c (m := 40) (by decide)
  have A1 := Lib.hid (fun u => around_any a 12 u ha (by decide))
  have A2 := Lib.hid (fun u => around_any b 20 u hb (by decide))
  have A3 := Lib.hid (fun u => around_any c 40 u hc (by decide))
  have hN := Has.new w 23 [.int .i64 a, .int .i64 b, .int .i64 c]
  have g1 := grows_alloc w (.cells [.int .i64 a, .int .i64 b, .int .i64 c].toArray 23)
  have hR := Has.new (w.alloc (.cells [.int .i64 a, .int .i64 b, .int .i64 c].toArray 23)) 23 [.int .i64 0, .int .i64 0, .int .i64 0]
  have g2 := grows_alloc (w.alloc (.cells [.int .i64 a, .int .i64 b, .int .i64 c].toArray 23)) (.cells [.int .i64 0, .int .i64 0, .int .i64 0].toArray 23)
  have hN2 := hN.later g2
  have P0 := hN2.cell (k := 0) rfl
  have P1 := hN2.cell (k := 1) rfl
  have P2 := hN2.cell (k := 2) rfl
  have hg := Grows.trans g1 g2
  rw [World.size_alloc] at hR
  have hpe : pv (goodP a b c) = .agg ([.int .i64 (1 + (around a 12 : Int)), .int .i64 (1 + (around a 12 : Int) + (around b 20 : Int)), .int .i64 (1 + (around a 12 : Int) + (around b 20 : Int) + (around c 40 : Int))] : List Value).toArray := by
    simp [pv, pz, goodP]
  rw [hpe]
  unfold pz
  generalize around a 12 = x at *
  generalize around b 20 = y at *
  generalize around c 40 = z at *
  have w1 : IntKind.i64.wrap (1 + (x : Int)) = 1 + (x : Int) := IntWalk.i64_in _ (by omega)
  have w2 : IntKind.i64.wrap (1 + (x : Int) + (y : Int)) = 1 + (x : Int) + (y : Int) := IntWalk.i64_in _ (by omega)
  have w3 : IntKind.i64.wrap (1 + (x : Int) + (y : Int) + (z : Int)) = 1 + (x : Int) + (y : Int) + (z : Int) := IntWalk.i64_in _ (by omega)
  go_enter Tryd.func9, Tryd.ntmps9
  go_wp2_with fail
  refine (A1.out _).mono ?_
  rintro e w' ⟨rfl, rfl⟩
  go_wp2_with fail
  refine (A2.out _).mono ?_
  rintro e w' ⟨rfl, rfl⟩
  go_wp2_with fail
  refine (A3.out _).mono ?_
  rintro e w' ⟨rfl, rfl⟩
  go_wp2_with (refine wpList_storev rfl 23 (.tmp 2) (.tmp 21) rfl (w.heap.size + 1) _ [.int .i64 (1 + (x : Int)), .int .i64 (1 + (x : Int) + (y : Int)), .int .i64 (1 + (x : Int) + (y : Int) + (z : Int))] 3 rfl rfl hR rfl rfl prm_size (prm_one _ _ _) ?_; intro w6 hbox6 hbel6)
  have hfin := hbel6 _ _ (by omega) hg
  refine bodyPost_ret (res_has (vs := [.int .i64 (1 + (x : Int)), .int .i64 (1 + (x : Int) + (y : Int)), .int .i64 (1 + (x : Int) + (y : Int) + (z : Int))]) Tryd.results9 _ rfl Tryd.underlying23 rfl prm_size hbox6) rfl ⟨rfl, hfin⟩
end Go.Proofs.YtkgkkobdpgnicaaDoor
