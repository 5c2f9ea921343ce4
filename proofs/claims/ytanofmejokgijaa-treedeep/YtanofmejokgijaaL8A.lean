/-
  The document's example of layer 8: lives.
-/
import Derived.Test.YtanofmejokgijaaTrN
namespace Go.Proofs.Ytanofmejokgijaa
open Go.RowKit
set_option linter.unusedVariables false

def exF : Own := ⟨2, [97], 0, 0, 0, 0, [], [], 0, 0, []⟩
def exR : Own := ⟨1, [], 0, 0, 0, 0, [], [], 0, 0, []⟩
def exK : Fo := .cons exF .nil .nil
def exH (b : Nat) : Hang := ⟨none, 0, 0, none, 0, 0, some ⟨b, 0, none⟩, 1, 1⟩
def noH : Hang := ⟨none, 0, 0, none, 0, 0, none, 0, 0⟩
theorem ex_may : mayOf exR exK = 0 := by decide +kernel
theorem own_none {w : World} {ok : Nat → Prop} {o : Own} {h : Hang} (h1 : o.data = []) (h2 : o.attrs = []) (h3 : h.nd = 0) (h4 : h.na = 0) (h5 : h.cd = 0) (h6 : h.ca = 0) : OwnOn w ok o h := by
  refine ⟨by rw [h1, h3]; rfl, by rw [h3, h5]; unfold maxLen; omega, by rw [h1]; exact LiesOn.empty, by rw [h2, h4]; rfl, by rw [h4, h6]; unfold maxLen; omega, by rw [h2]; exact LiesOn.empty⟩
theorem ex_on {w : World} {b : Nat} (hb : Has w b (nodeCells exF noH)) : NodeOn w (fun _ => True) exR exK (exH b) := by
  refine ⟨own_none rfl rfl rfl rfl rfl rfl, rfl, ⟨Nat.le_refl _, by unfold maxLen; simp [exH]⟩, ?_⟩
  refine KidsOn.mk (h := noH) ⟨_, rfl, trivial, fun j u hu => ?_⟩ ⟨own_none rfl rfl rfl rfl rfl rfl, rfl, ⟨Nat.le_refl _, by unfold maxLen; simp [noH]⟩, trivial⟩ trivial
  rw [add_plain, Nat.zero_mul, Nat.zero_add, Nat.zero_add]
  exact hb.cell hu

theorem two_of {α β γ : Type} {x0 x1 : α × β} {es : List (α × β × γ)} (h : (es.map fun e => (e.1, e.2.1)) = [x0, x1]) : ∃ h0 h1, es = [(x0.1, x0.2, h0), (x1.1, x1.2, h1)] := by
  cases es with
  | nil => cases h
  | cons a es =>
    cases es with
    | nil => cases h
    | cons b es =>
      cases es with
      | nil =>
        rw [List.map_cons, List.map_cons, List.map_nil] at h
        injection h with e1 h
        injection h with e2 _
        subst e1 e2
        exact ⟨a.2.2, b.2.2, rfl⟩
      | cons c es => cases h
theorem ex_es {es : List (List (List UInt8) × Own × Hang)} (h : (es.map fun e => (e.1, e.2.1)) = ([], exR) :: comps [] exK) : ∃ h0 h1, es = [([], exR, h0), ([[97]], exF, h1)] := by
  obtain ⟨h0, h1, e⟩ := two_of (x0 := ([], exR)) (x1 := ([[97]], exF)) h
  exact ⟨h0, h1, e⟩
theorem ex_size : sizeF exK = 1 := rfl
set_option maxRecDepth 20000 in
set_option maxHeartbeats 4000000 in
theorem lives8_any (w : World) : Calls Try.prog 14 #[] w fun e w' => e = .returned (.bool true) ∧ Grows w w' := by
  have ha := Has.new w 28 [.int .i64 2, .string ⟨#[97]⟩, .int .i64 0, .int .i64 0, .int .i64 0, .int .i64 0, .slice none 0 0, .string ⟨#[]⟩, .int .i64 0, .int .i64 0, .slice none 0 0, .slice none 0 0]
  have hz := Has.new (w.alloc (.cells #[.int .i64 2, .string ⟨#[97]⟩, .int .i64 0, .int .i64 0, .int .i64 0, .int .i64 0, .slice none 0 0, .string ⟨#[]⟩, .int .i64 0, .int .i64 0, .slice none 0 0, .slice none 0 0] 28)) 28 zeroN
  rw [World.size_alloc] at hz
  have hg0 := Grows.trans (grows_alloc w (.cells #[.int .i64 2, .string ⟨#[97]⟩, .int .i64 0, .int .i64 0, .int .i64 0, .int .i64 0, .slice none 0 0, .string ⟨#[]⟩, .int .i64 0, .int .i64 0, .slice none 0 0, .slice none 0 0] 28)) (grows_alloc (w.alloc (.cells #[.int .i64 2, .string ⟨#[97]⟩, .int .i64 0, .int .i64 0, .int .i64 0, .int .i64 0, .slice none 0 0, .string ⟨#[]⟩, .int .i64 0, .int .i64 0, .slice none 0 0, .slice none 0 0] 28)) (.cells zeroN.toArray 28))
  have hvn : ∀ v ∈ ([.int .i64 1, .string ⟨#[]⟩, .int .i64 0, .int .i64 0, .int .i64 0, .int .i64 0, .slice none 0 0, .string ⟨#[]⟩, .int .i64 0, .int .i64 0, .slice none 0 0, .slice (some ⟨w.heap.size, 0, none⟩) 1 1] : List Value), v.oneCell' = true := by simp [Value.oneCell']
  go_enter Try.func14, Try.ntmps14
  go_wp2_with (refine wpList_storeT rfl 28 (.tmp 1) (.tmp 5) rfl (w.heap.size + 1) zeroN [.int .i64 1, .string ⟨#[]⟩, .int .i64 0, .int .i64 0, .int .i64 0, .int .i64 0, .slice none 0 0, .string ⟨#[]⟩, .int .i64 0, .int .i64 0, .slice none 0 0, .slice (some ⟨w.heap.size, 0, none⟩) 1 1] 12 rfl rfl hz rfl rfl node_size hvn ?_; intro W hbW hTW; have p0 := hbW.cell (k := 0) rfl; have p1 := hbW.cell (k := 1) rfl; have p2 := hbW.cell (k := 2) rfl; have p3 := hbW.cell (k := 3) rfl; have p4 := hbW.cell (k := 4) rfl; have p5 := hbW.cell (k := 5) rfl; have p6 := hbW.cell (k := 6) rfl; have p7 := hbW.cell (k := 7) rfl; have p8 := hbW.cell (k := 8) rfl; have p9 := hbW.cell (k := 9) rfl; have p10 := hbW.cell (k := 10) rfl; have p11 := hbW.cell (k := 11) rfl)
  have hgW : Grows w W := turns_grow hg0 hTW (by omega)
  have haW : Has W w.heap.size (nodeCells exF noH) := (ha.later (grows_alloc _ _)).turned hTW (by omega)
  have hon := ex_on haW
  have hB : ∀ u, Grows W u → Has u (w.heap.size + 1) [.int .i64 1, .string ⟨#[]⟩, .int .i64 0, .int .i64 0, .int .i64 0, .int .i64 0, .slice none 0 0, .string ⟨#[]⟩, .int .i64 0, .int .i64 0, .slice none 0 0, .slice (some ⟨w.heap.size, 0, none⟩) 1 1] := fun u hu => hbW.later hu
  have hval : nv exR (exH w.heap.size) = .agg #[.int .i64 1, .string ⟨#[]⟩, .int .i64 0, .int .i64 0, .int .i64 0, .int .i64 0, .slice none 0 0, .string ⟨#[]⟩, .int .i64 0, .int .i64 0, .slice none 0 0, .slice (some ⟨w.heap.size, 0, none⟩) 1 1] := rfl
  have C1 := walk_any exR exK (exH w.heap.size) _ W hon (by rw [ex_size]; omega) (by simp [smallO, exR]) (by simp [smallF, exK, smallO, exF])
  have C2 : ∀ u, Grows W u → _ := fun u hu => tmay_any exR exK (exH w.heap.size) _ u (hon.later hu) (by rw [ex_size]; omega)
  have C3 : ∀ u, Grows W u → _ := fun u hu => count_any exR exK (exH w.heap.size) _ u (hon.later hu) (by rw [ex_size]; omega)
  have C4 : ∀ u, Grows W u → _ := fun u hu => depth_any exR exK (exH w.heap.size) _ u (hon.later hu) (by rw [ex_size]; omega)
  rw [ex_may] at C2
  rw [hval] at C1
  simp only [hval] at C2 C3 C4
  have HC2 := Lib.hid C2
  have HC3 := Lib.hid C3
  have HC4 := Lib.hid C4
  have HB := Lib.hid hB
  clear hon C2 C3 C4 hB hg0 hz ha hvn
  with_reducible refine C1.mono ?_
  rintro e w1 ⟨A, c, es, rfl, hes, hown, _, hg1⟩
  have e2 := ex_es hes
  obtain ⟨h0, h1, rfl⟩ := e2
  have hown2 : w1.ownsRow W.heap.size 43 13 (.slice A 2 c) 2 (ec ([], exR, h0) ++ (ec ([[97]], exF, h1) ++ [])) := hown
  clear hown
  have hlies := own_liesOn hown2
  obtain ⟨ad, rfl, _, d0⟩ := hlies 0 (tv []) rfl
  obtain ⟨ad', e', _, d1⟩ := hlies 13 (tv [97]) rfl
  injection e' with e'
  subst e'
  have d0' : ∀ u, Grows w1 u → u.cell? ad = some (.string ⟨#[]⟩) := fun u hu => by rw [add_zero_addr] at d0; exact hcell_later d0 hu
  have d1' : ∀ u, Grows w1 u → u.cell? ⟨ad.block, ad.off + 13, none⟩ = some (.string ⟨#[97]⟩) := fun u hu => by have := hcell_later d1 hu; simpa [Addr.add] using this
  have D0 := Lib.hid d0'
  have D1 := Lib.hid d1'
  have hsz1 : 1 + sizeF exK = 2 := rfl
  rw [hsz1]
  clear hlies hown2 d0 d1 d0' d1' hes hsz1 C1 hval hbW hTW haW p0 p1 p2 p3 p4 p5 p6 p7 p8 p9 p10 p11
  have r0 := (HB.out w1 hg1).cell (k := 0) rfl
  have r1 := (HB.out w1 hg1).cell (k := 1) rfl
  have r2 := (HB.out w1 hg1).cell (k := 2) rfl
  have r3 := (HB.out w1 hg1).cell (k := 3) rfl
  have r4 := (HB.out w1 hg1).cell (k := 4) rfl
  have r5 := (HB.out w1 hg1).cell (k := 5) rfl
  have r6 := (HB.out w1 hg1).cell (k := 6) rfl
  have r7 := (HB.out w1 hg1).cell (k := 7) rfl
  have r8 := (HB.out w1 hg1).cell (k := 8) rfl
  have r9 := (HB.out w1 hg1).cell (k := 9) rfl
  have r10 := (HB.out w1 hg1).cell (k := 10) rfl
  have r11 := (HB.out w1 hg1).cell (k := 11) rfl
  go_wp2_with fail
  with_reducible refine (HC2.out w1 hg1).mono ?_
  rintro e w2 ⟨rfl, hg2⟩
  have hg12 := Grows.trans hg1 hg2
  clear r0 r1 r2 r3 r4 r5 r6 r7 r8 r9 r10 r11
  have r0 := (HB.out w2 hg12).cell (k := 0) rfl
  have r1 := (HB.out w2 hg12).cell (k := 1) rfl
  have r2 := (HB.out w2 hg12).cell (k := 2) rfl
  have r3 := (HB.out w2 hg12).cell (k := 3) rfl
  have r4 := (HB.out w2 hg12).cell (k := 4) rfl
  have r5 := (HB.out w2 hg12).cell (k := 5) rfl
  have r6 := (HB.out w2 hg12).cell (k := 6) rfl
  have r7 := (HB.out w2 hg12).cell (k := 7) rfl
  have r8 := (HB.out w2 hg12).cell (k := 8) rfl
  have r9 := (HB.out w2 hg12).cell (k := 9) rfl
  have r10 := (HB.out w2 hg12).cell (k := 10) rfl
  have r11 := (HB.out w2 hg12).cell (k := 11) rfl
  go_wp2_with fail
  with_reducible refine (HC3.out w2 hg12).mono ?_
  rintro e w3 ⟨rfl, hg3⟩
  have hg13 := Grows.trans hg12 hg3
  have hsz2 : (1 : Int) + (sizeF exK : Int) = 2 := rfl
  rw [hsz2]
  clear r0 r1 r2 r3 r4 r5 r6 r7 r8 r9 r10 r11
  have r0 := (HB.out w3 hg13).cell (k := 0) rfl
  have r1 := (HB.out w3 hg13).cell (k := 1) rfl
  have r2 := (HB.out w3 hg13).cell (k := 2) rfl
  have r3 := (HB.out w3 hg13).cell (k := 3) rfl
  have r4 := (HB.out w3 hg13).cell (k := 4) rfl
  have r5 := (HB.out w3 hg13).cell (k := 5) rfl
  have r6 := (HB.out w3 hg13).cell (k := 6) rfl
  have r7 := (HB.out w3 hg13).cell (k := 7) rfl
  have r8 := (HB.out w3 hg13).cell (k := 8) rfl
  have r9 := (HB.out w3 hg13).cell (k := 9) rfl
  have r10 := (HB.out w3 hg13).cell (k := 10) rfl
  have r11 := (HB.out w3 hg13).cell (k := 11) rfl
  go_wp2_with fail
  with_reducible refine (HC4.out w3 hg13).mono ?_
  rintro e w4 ⟨rfl, hg4⟩
  have hd4 : ((deepF exK : Nat) : Int) = 1 := rfl
  rw [hd4]
  have hg14 := Grows.trans (Grows.trans hg2 hg3) hg4
  have x0 := D0.out w4 hg14
  have x1 := D1.out w4 hg14
  clear r0 r1 r2 r3 r4 r5 r6 r7 r8 r9 r10 r11
  go_wp2
  go_ret
  exact ⟨rfl, Grows.trans hgW (Grows.trans hg13 hg4)⟩
end Go.Proofs.Ytanofmejokgijaa
