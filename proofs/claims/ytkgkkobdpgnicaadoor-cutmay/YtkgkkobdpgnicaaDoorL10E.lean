/-
  The walk of CutMay: parameters may be as the document says; at others each answer is the error.
-/
import Derived.Test.YtkgkkobdpgnicaaDoorCutV
import Derived.Test.YtkgkkobdpgnicaaDoorCutR
import Derived.Test.YtkgkkobdpgnicaaDoorCutJ
import Derived.Test.YtkgkkobdpgnicaaDoorCutP
import Derived.Test.YtkgkkobdpgnicaaDoorCutI
namespace Go.Proofs.YtkgkkobdpgnicaaDoor
open Go.RowKit
set_option linter.unusedVariables false

theorem abc_marked0 (w : World) : Lies (w.alloc (.cells (([97, 98, 99] : List UInt8).map bv).toArray 5 (3, 4))) (w.heap.size + 1) (some ⟨w.heap.size, 0, none⟩) (([97, 98, 99] : List UInt8).map bv) ∧
    Grows w (w.alloc (.cells (([97, 98, 99] : List UInt8).map bv).toArray 5 (3, 4))) := ⟨fun j u hu => ⟨_, rfl, by show w.heap.size < w.heap.size + 1; omega, by
    rw [add_plain, Nat.zero_add]
    have : (w.alloc (.cells (([97, 98, 99] : List UInt8).map bv).toArray 5 (3, 4))).heap[w.heap.size]? = some (.cells (([97, 98, 99] : List UInt8).map bv).toArray 5 (3, 4)) := World.alloc_heap_new w _
    unfold World.cell?
    rw [this]
    simpa using hu⟩, (Grows.refl w).alloc (Nat.le_refl _) _⟩
theorem abc_marked (w : World) : Lies (w.alloc (.cells #[.int .u8 97, .int .u8 98, .int .u8 99] 5 (3, 4))) (w.heap.size + 1) (some ⟨w.heap.size, 0, none⟩) (([97, 98, 99] : List UInt8).map bv) ∧
    Grows w (w.alloc (.cells #[.int .u8 97, .int .u8 98, .int .u8 99] 5 (3, 4))) := abc_marked0 w

/-- What the calls answer at parameters that may be. -/
structure MayY (x y z : Int) : Prop where
  r : ∀ u, Calls Tryd.prog 11 #[.agg #[.int .i64 x, .int .i64 y, .int .i64 z]] u fun e w' => e = .returned (.bool true) ∧ Grows u w'
  m : ∀ u, Calls Tryd.prog 16 #[.agg #[.int .i64 x, .int .i64 y, .int .i64 z]] u fun e w' => e = .returned (.bool true) ∧ Grows u w'
  n : ∀ u, Starts u → Calls Tryd.prog 12 #[.agg #[.int .i64 x, .int .i64 y, .int .i64 z]] u fun e w' => ∃ cb, e = .returned (.tuple #[.pointer (some ⟨cb, 0, none⟩), .int .i64 0]) ∧ Grows u w'
  s : ∀ u A, Starts u → Lies u u.heap.size A (([97, 98, 99] : List UInt8).map bv) → Calls Tryd.prog 13 #[.slice A 3 3, .agg #[.int .i64 x, .int .i64 y, .int .i64 z]] u fun e w' => ∃ v, e = .returned (.tuple #[v, .int .i64 0]) ∧ Grows u w'
  i : ∀ u, Starts u → Calls Tryd.prog 14 #[.slice none 0 0, .agg #[.int .i64 x, .int .i64 y, .int .i64 z]] u fun e w' => e = .returned (.tuple #[.slice none 0 0, .int .i64 0]) ∧ Grows u w'
  p : ∃ k : Nat, k ≤ 4096 ∧ 1 ≤ k ∧ (∀ u, Calls Tryd.prog 15 #[.int .i64 y] u fun e w' => e = .returned (.int .i64 (k : Int)) ∧ u = w') ∧
    ∀ u, Calls Tryd.prog 17 #[.agg #[.int .i64 x, .int .i64 y, .int .i64 z]] u fun e w' => e = .returned (.int .u32 ((k : Int) - 1)) ∧ Grows u w'
structure MayN (x y z : Int) : Prop where
  r : ∀ u, Calls Tryd.prog 11 #[.agg #[.int .i64 x, .int .i64 y, .int .i64 z]] u fun e w' => e = .returned (.bool false) ∧ Grows u w'
  m : ∀ u, Calls Tryd.prog 16 #[.agg #[.int .i64 x, .int .i64 y, .int .i64 z]] u fun e w' => e = .returned (.bool false) ∧ Grows u w'
  n : ∀ u, Calls Tryd.prog 12 #[.agg #[.int .i64 x, .int .i64 y, .int .i64 z]] u fun e w' => e = .returned (.tuple #[.pointer none, .int .i64 1]) ∧ Grows u w'
  s : ∀ u A, Calls Tryd.prog 13 #[.slice A 3 3, .agg #[.int .i64 x, .int .i64 y, .int .i64 z]] u fun e w' => e = .returned (.tuple #[.slice none 0 0, .int .i64 1]) ∧ Grows u w'
  i : ∀ u, Calls Tryd.prog 14 #[.slice none 0 0, .agg #[.int .i64 x, .int .i64 y, .int .i64 z]] u fun e w' => e = .returned (.tuple #[.slice none 0 0, .int .i64 1]) ∧ Grows u w'
  k : ∀ u, Calls Tryd.prog 17 #[.agg #[.int .i64 x, .int .i64 y, .int .i64 z]] u fun e w' => e = .returned (.int .u32 0) ∧ Grows u w'
  c : ∀ u A, Lies u u.heap.size A (([97, 98, 99] : List UInt8).map bv) → Calls Tryd.prog 18 #[.slice A 3 3, .agg #[.int .i64 x, .int .i64 y, .int .i64 z]] u fun e w' => e = .returned (.slice none 0 0) ∧ Grows u w'
theorem may_y {x y z : Int} (h : mayZ x y z = true) : MayY x y z := by
  obtain ⟨p, hp, rfl, rfl, rfl⟩ := prm_of h
  have hav := hp.av
  have hmn := hp.mn
  have hmx := hp.mx
  have htp := hp.top
  refine ⟨fun u => ?_, fun u => ?_, fun u hs => (newcut_any p u hp hs).mono ?_, fun u A hs hr => (sizes_any p hp A 3 3 [97, 98, 99] u rfl (Nat.le_refl _) hr hs (by decide)).mono ?_, fun u hs => items_nil p hp u hs, powOf p.av, Nat.le_trans (powOf_le (by omega)) (by omega), powOf_pos _, fun u => rpower_any p.av u (by omega) (by omega), fun u => ?_⟩
  · have := rmay_any p.mn p.av p.mx u
    rw [h] at this
    exact this
  · have := may_any p.mn p.av p.mx u
    rw [h] at this
    exact this
  · rintro e w' ⟨cb, kb, rb, rfl, _, _, _, _, hg⟩
    exact ⟨cb, rfl, hg⟩
  · rintro e w' ⟨v, rfl, _, hg⟩
    exact ⟨v, rfl, hg⟩
  · have := mask_any p.mn p.av p.mx u
    rw [mask_of hp] at this
    have e : uv (powOf p.av - 1) = .int .u32 ((powOf p.av : Int) - 1) := by
      have := powOf_pos p.av
      unfold uv
      congr 1
      omega
    rw [e] at this
    exact this
theorem may_n {x y z : Int} (h : mayZ x y z = false) : MayN x y z := by
  refine ⟨fun u => ?_, fun u => ?_, fun u => newcut_no x y z u h, fun u A => sizes_no x y z A 3 3 u h, fun u => items_no x y z none 0 0 u h, fun u => ?_, fun u A hr => collect_no x y z h A 3 3 [97, 98, 99] u rfl (Nat.le_refl _) hr (by decide)⟩
  · have := rmay_any x y z u
    rw [h] at this
    exact this
  · have := may_any x y z u
    rw [h] at this
    exact this
  · have := mask_any x y z u
    have e : maskOf x y z = 0 := by unfold maskOf; rw [h]; rfl
    rw [e] at this
    exact this

set_option maxRecDepth 20000 in
set_option maxHeartbeats 4000000 in
theorem may_walk10 (a b d : Int) (wh m : Int) (w : World) (hs : Starts w) (ha : I64 a) (hb : I64 b) (hd : I64 d) (hwh : I64 wh) (hm : I64 m) :
    Calls Tryd.prog 3 #[pz a b d, .int .i64 wh, .int .i64 m] w fun e w' => e = .returned (.bool true) ∧ Grows w w' := by
  have hp := goodP_ok a b d
  have GD := Lib.hid (fun u => good_any a b d u ha hb hd)
  have AR := Lib.hid (fun u => around_any wh 3 u hwh (by decide))
  have hq3 := around_lt wh (m := 3) (by decide)
  have hN := Has.new w 23 [.int .i64 a, .int .i64 b, .int .i64 d]
  have g1 := grows_alloc w (.cells [.int .i64 a, .int .i64 b, .int .i64 d].toArray 23)
  have hpz : pz a b d = .agg #[.int .i64 a, .int .i64 b, .int .i64 d] := rfl
  generalize goodP a b d = p at *
  generalize around wh 3 = q at *
  rw [hpz] at *
  have hpp : pv p = .agg #[.int .i64 p.mn, .int .i64 p.av, .int .i64 p.mx] := rfl
  rw [hpp] at *
  have P0 := hN.cell (k := 0) rfl
  have P1 := hN.cell (k := 1) rfl
  have P2 := hN.cell (k := 2) rfl
  go_enter Tryd.func3, Tryd.ntmps3
  go_wp2_with fail
  refine (GD.out _).mono ?_
  rintro e w2 ⟨rfl, hg2⟩
  have gw2 := Grows.trans g1 hg2
  have hN2 := hN.later hg2
  have hR := Has.new w2 23 [.int .i64 0, .int .i64 0, .int .i64 0]
  have hga := grows_alloc w2 (.cells [.int .i64 0, .int .i64 0, .int .i64 0].toArray 23)
  clear GD hg2 P0 P1 P2 g1
  go_wp2_with (refine wpList_storev rfl 23 (.tmp 7) (.tmp 21) rfl w2.heap.size _ [.int .i64 p.mn, .int .i64 p.av, .int .i64 p.mx] 3 rfl rfl hR rfl rfl prm_size (prm_one _ _ _) ?_; intro w3 hbox3 hbel3; have hg3 : Grows w2 w3 := hbel3 _ _ (Nat.le_refl _) hga; have Q0 := hbox3.cell (k := 0) rfl; have Q1 := hbox3.cell (k := 1) rfl; have Q2 := hbox3.cell (k := 2) rfl; have hR4 := Has.new w3 23 [.int .i64 (p.mn : Int), .int .i64 (p.av : Int), .int .i64 (p.mx : Int)]; have hga4 := grows_alloc w3 (.cells [.int .i64 (p.mn : Int), .int .i64 (p.av : Int), .int .i64 (p.mx : Int)].toArray 23))
  refine (AR.out _).mono ?_
  rintro e _ ⟨rfl, rfl⟩
  have hN4 := hN2.later (Grows.trans hg3 hga4)
  have hG4 := hbox3.later hga4
  have gw4 := Grows.trans gw2 (Grows.trans hg3 hga4)
  have hl2 := hN2.lt
  have hl3 := hbox3.lt
  have hw0 := gw2.size
  clear AR hN2 hN hbox3 hR hbel3 hga Q0 Q1 Q2 hg3 hga4
  generalize hw4 : w3.alloc (.cells [.int .i64 (p.mn : Int), .int .i64 (p.av : Int), .int .i64 (p.mx : Int)].toArray 23) = w4 at *
  try rw [List.toArray] at hw4
  obtain rfl | rfl | rfl : q = 0 ∨ q = 1 ∨ q = 2 := by omega
  · have hck := hR4.cell (k := 0) rfl
    have hf := hR4.free 0
    have hO5 := hR4.set_ (k := 0) (by simp) (.int .i64 m)
    have T5 := Turns.of_set (S := fun q => q = w3.heap.size) (b := w3.heap.size) (o := 0) w4 (.int .i64 m) rfl
    have hN5 := hN4.turned T5 (fun h => by omega)
    have hR5 := hG4.turned T5 (fun h => by omega)
    have hs5 := (hs.later gw4).turned T5 (fun h => by have := hs.pos; omega)
    have gw5 : Grows w (w4.setCell ⟨w3.heap.size, 0, none⟩ (.int .i64 m)) := turns_then_grows gw4 T5 (fun k h => by omega)
    have N0 := hN5.cell (k := 0) rfl
    have N1 := hN5.cell (k := 1) rfl
    have N2 := hN5.cell (k := 2) rfl
    have R0 := hR5.cell (k := 0) rfl
    have R1 := hR5.cell (k := 1) rfl
    have R2 := hR5.cell (k := 2) rfl
    have O0 := hO5.cell (k := 0) rfl
    have O1 := hO5.cell (k := 1) rfl
    have O2 := hO5.cell (k := 2) rfl
    have hE5 := Has.new (w4.setCell ⟨w3.heap.size, 0, none⟩ (.int .i64 m)) 23 [.int .i64 a, .int .i64 b, .int .i64 d, .int .i64 (p.mn : Int), .int .i64 (p.av : Int), .int .i64 (p.mx : Int), .int .i64 m, .int .i64 (p.av : Int), .int .i64 (p.mx : Int)]
    have gE5 := grows_alloc (w4.setCell ⟨w3.heap.size, 0, none⟩ (.int .i64 m)) (.cells [.int .i64 a, .int .i64 b, .int .i64 d, .int .i64 (p.mn : Int), .int .i64 (p.av : Int), .int .i64 (p.mx : Int), .int .i64 m, .int .i64 (p.av : Int), .int .i64 (p.mx : Int)].toArray 23)
    go_wp2_with fail
    have hs6 := hs5.later gE5
    have gw6 := Grows.trans gw5 gE5
    rw [World.size_setCell] at hE5
    generalize w4.heap.size = ba at *
    clear hN5 hR5 hO5 N0 N1 N2 R0 R1 R2 O0 O1 O2 hs5 gw5 gE5 hf hck
    generalize hL : (w4.setCell ⟨w3.heap.size, 0, none⟩ (.int .i64 m)).alloc _ = wL at *
    clear hL T5 hR4 hN4 hG4 gw4 hw4
    go_loopw [10] (fun iv wr => (iv = .int .i64 0 ∨ iv = .int .i64 1 ∨ iv = .int .i64 2 ∨ iv = .int .i64 3) ∧ Grows wL wr) (fun iv _ => 3 - (intOf iv).toNat)
    case atStart => exact ⟨.inl rfl, Grows.refl _⟩
    case round =>
      obtain ⟨hi, gwr⟩ := hrel
      have hEwr := hE5.later gwr
      have hswr := hs6.later gwr
      obtain rfl | rfl | rfl | rfl := hi
      · have C0 := hEwr.cell (k := 0) rfl
        have C1 := hEwr.cell (k := 1) rfl
        have C2 := hEwr.cell (k := 2) rfl
        cases hmz : mayZ a b d with
        | true =>
          have M := may_y hmz
          go_wp2_with fail
          refine (M.r _).mono ?_
          rintro e wa ⟨rfl, hgg⟩
          have gwa := Grows.trans gwr hgg
          have hEwa := hEwr.later hgg
          have hswa := hswr.later hgg
          clear hgg C0 C1 C2
          have C0 := hEwa.cell (k := 0) rfl
          have C1 := hEwa.cell (k := 1) rfl
          have C2 := hEwa.cell (k := 2) rfl
          go_wp2_with fail
          refine (M.n _ hswa).mono ?_
          rintro e wb ⟨cb, rfl, hgg⟩
          have gwb := Grows.trans gwa hgg
          have hEwb := hEwa.later hgg
          have hswb := hswa.later hgg
          clear hgg C0 C1 C2
          have C0 := hEwb.cell (k := 0) rfl
          have C1 := hEwb.cell (k := 1) rfl
          have C2 := hEwb.cell (k := 2) rfl
          have hcb : ∀ u, (binOp .neq 28 (.pointer (some ⟨cb, 0, none⟩)) (.pointer none)).run Tryd.prog u = .ok (.bool true) u := fun u => by kernel_rfl
          obtain ⟨hab, gab⟩ := abc_marked wb
          have hcv := Lib.run_convert_bytes_const (P := Tryd.prog) wb 35 5 #[.int .u8 97, .int .u8 98, .int .u8 99] 3 3 Tryd.underlying35 Tryd.underlying5
          have hszb : (wb.alloc (.cells #[.int .u8 97, .int .u8 98, .int .u8 99] 5 (3, 4))).heap.size = wb.heap.size + 1 := by simp
          have hab' : Lies (wb.alloc (.cells #[.int .u8 97, .int .u8 98, .int .u8 99] 5 (3, 4))) (wb.alloc (.cells #[.int .u8 97, .int .u8 98, .int .u8 99] 5 (3, 4))).heap.size (some ⟨wb.heap.size, 0, none⟩) (([97, 98, 99] : List UInt8).map bv) := hab.mono (by rw [hszb]; exact Nat.le_refl _)
          have hEb := hEwb.later gab
          have B0 := hEb.cell (k := 0) rfl
          have B1 := hEb.cell (k := 1) rfl
          have B2 := hEb.cell (k := 2) rfl
          have hsb0 := hswb.later gab
          go_wp2_with fail
          clear hcv
          refine (M.s _ _ hsb0 hab').mono ?_
          rintro e wc ⟨v, rfl, hgg⟩
          have gwc := Grows.trans gwb (Grows.trans gab hgg)
          have hEwc := hEb.later hgg
          have hswc := hsb0.later hgg
          clear hgg C0 C1 C2 B0 B1 B2 hab hab' gab hEb hszb
          have C0 := hEwc.cell (k := 0) rfl
          have C1 := hEwc.cell (k := 1) rfl
          have C2 := hEwc.cell (k := 2) rfl
          go_wp2_with fail
          refine (M.i _ hswc).mono ?_
          rintro e wd ⟨rfl, hgg⟩
          have gwd := Grows.trans gwc hgg
          have hEwd := hEwc.later hgg
          have hswd := hswc.later hgg
          clear hgg C0 C1 C2
          have C0 := hEwd.cell (k := 0) rfl
          have C1 := hEwd.cell (k := 1) rfl
          have C2 := hEwd.cell (k := 2) rfl
          go_wp2_with fail
          obtain ⟨k, hk1, hk2, hK1, hK2⟩ := M.p
          have hkw : IntKind.i64.wrap ((k : Int) - 1) = (k : Int) - 1 := IntWalk.i64_in _ (by omega)
          have hkc : IntKind.u32.wrap ((k : Int) - 1) = (k : Int) - 1 := IntWalk.u32_in _ (by omega)
          refine (hK1 _).mono ?_
          rintro e _ ⟨rfl, rfl⟩
          go_wp2_with fail
          refine (M.m _).mono ?_
          rintro e we ⟨rfl, hgg⟩
          have gwe := Grows.trans gwd hgg
          have hEwe := hEwd.later hgg
          have hswe := hswd.later hgg
          clear hgg C0 C1 C2
          have C0 := hEwe.cell (k := 0) rfl
          have C1 := hEwe.cell (k := 1) rfl
          have C2 := hEwe.cell (k := 2) rfl
          go_wp2_with fail
          refine (hK2 _).mono ?_
          rintro e wf ⟨rfl, hgg⟩
          have gwf := Grows.trans gwe hgg
          have hEwf := hEwe.later hgg
          have hswf := hswe.later hgg
          clear hgg C0 C1 C2
          have C0 := hEwf.cell (k := 0) rfl
          have C1 := hEwf.cell (k := 1) rfl
          have C2 := hEwf.cell (k := 2) rfl
          go_wp2_with fail
          go_roundw
          case rel => exact ⟨.inr (.inl rfl), gwf⟩
          case measure => simp [intOf]
        | false =>
          have M := may_n hmz
          go_wp2_with fail
          refine (M.r _).mono ?_
          rintro e wa ⟨rfl, hgg⟩
          have gwa := Grows.trans gwr hgg
          have hEwa := hEwr.later hgg
          have hswa := hswr.later hgg
          clear hgg C0 C1 C2
          have C0 := hEwa.cell (k := 0) rfl
          have C1 := hEwa.cell (k := 1) rfl
          have C2 := hEwa.cell (k := 2) rfl
          go_wp2_with fail
          refine (M.n _).mono ?_
          rintro e wb ⟨rfl, hgg⟩
          have gwb := Grows.trans gwa hgg
          have hEwb := hEwa.later hgg
          have hswb := hswa.later hgg
          clear hgg C0 C1 C2
          have C0 := hEwb.cell (k := 0) rfl
          have C1 := hEwb.cell (k := 1) rfl
          have C2 := hEwb.cell (k := 2) rfl
          have hcb : ∀ u, (binOp .neq 28 (.pointer none) (.pointer none)).run Tryd.prog u = .ok (.bool false) u := fun u => by kernel_rfl
          obtain ⟨hab, gab⟩ := abc_marked wb
          have hcv := Lib.run_convert_bytes_const (P := Tryd.prog) wb 35 5 #[.int .u8 97, .int .u8 98, .int .u8 99] 3 3 Tryd.underlying35 Tryd.underlying5
          have hszb : (wb.alloc (.cells #[.int .u8 97, .int .u8 98, .int .u8 99] 5 (3, 4))).heap.size = wb.heap.size + 1 := by simp
          have hab' : Lies (wb.alloc (.cells #[.int .u8 97, .int .u8 98, .int .u8 99] 5 (3, 4))) (wb.alloc (.cells #[.int .u8 97, .int .u8 98, .int .u8 99] 5 (3, 4))).heap.size (some ⟨wb.heap.size, 0, none⟩) (([97, 98, 99] : List UInt8).map bv) := hab.mono (by rw [hszb]; exact Nat.le_refl _)
          have hEb := hEwb.later gab
          have B0 := hEb.cell (k := 0) rfl
          have B1 := hEb.cell (k := 1) rfl
          have B2 := hEb.cell (k := 2) rfl
          have hsb0 := hswb.later gab
          go_wp2_with fail
          clear hcv
          refine (M.s _ _).mono ?_
          rintro e wc ⟨rfl, hgg⟩
          have gwc := Grows.trans gwb (Grows.trans gab hgg)
          have hEwc := hEb.later hgg
          have hswc := hsb0.later hgg
          clear hgg C0 C1 C2 B0 B1 B2 hab hab' gab hEb hszb
          have C0 := hEwc.cell (k := 0) rfl
          have C1 := hEwc.cell (k := 1) rfl
          have C2 := hEwc.cell (k := 2) rfl
          go_wp2_with fail
          refine (M.i _).mono ?_
          rintro e wd ⟨rfl, hgg⟩
          have gwd := Grows.trans gwc hgg
          have hEwd := hEwc.later hgg
          have hswd := hswc.later hgg
          clear hgg C0 C1 C2
          have C0 := hEwd.cell (k := 0) rfl
          have C1 := hEwd.cell (k := 1) rfl
          have C2 := hEwd.cell (k := 2) rfl
          go_wp2_with fail
          refine (M.m _).mono ?_
          rintro e we ⟨rfl, hgg⟩
          have gwe := Grows.trans gwd hgg
          have hEwe := hEwd.later hgg
          have hswe := hswd.later hgg
          clear hgg C0 C1 C2
          have C0 := hEwe.cell (k := 0) rfl
          have C1 := hEwe.cell (k := 1) rfl
          have C2 := hEwe.cell (k := 2) rfl
          go_wp2_with fail
          refine (M.k _).mono ?_
          rintro e wf ⟨rfl, hgg⟩
          have gwf := Grows.trans gwe hgg
          have hEwf := hEwe.later hgg
          have hswf := hswe.later hgg
          clear hgg C0 C1 C2
          have C0 := hEwf.cell (k := 0) rfl
          have C1 := hEwf.cell (k := 1) rfl
          have C2 := hEwf.cell (k := 2) rfl
          obtain ⟨hab, gab⟩ := abc_marked wf
          have hcv := Lib.run_convert_bytes_const (P := Tryd.prog) wf 35 5 #[.int .u8 97, .int .u8 98, .int .u8 99] 3 3 Tryd.underlying35 Tryd.underlying5
          have hszb : (wf.alloc (.cells #[.int .u8 97, .int .u8 98, .int .u8 99] 5 (3, 4))).heap.size = wf.heap.size + 1 := by simp
          have hab' : Lies (wf.alloc (.cells #[.int .u8 97, .int .u8 98, .int .u8 99] 5 (3, 4))) (wf.alloc (.cells #[.int .u8 97, .int .u8 98, .int .u8 99] 5 (3, 4))).heap.size (some ⟨wf.heap.size, 0, none⟩) (([97, 98, 99] : List UInt8).map bv) := hab.mono (by rw [hszb]; exact Nat.le_refl _)
          have hEb := hEwf.later gab
          have B0 := hEb.cell (k := 0) rfl
          have B1 := hEb.cell (k := 1) rfl
          have B2 := hEb.cell (k := 2) rfl
          have hsb0 := hswf.later gab
          go_wp2_with fail
          clear hcv
          refine (M.c _ _ hab').mono ?_
          rintro e wg ⟨rfl, hgg⟩
          have gwg := Grows.trans gwf (Grows.trans gab hgg)
          clear hgg C0 C1 C2 B0 B1 B2 hab hab' gab hEb hszb
          go_wp2_with fail
          go_roundw
          case rel => exact ⟨.inr (.inl rfl), gwg⟩
          case measure => simp [intOf]
      · have C0 := hEwr.cell (k := 3) rfl
        have C1 := hEwr.cell (k := 4) rfl
        have C2 := hEwr.cell (k := 5) rfl
        have M := may_y (may_ok hp)
        go_wp2_with fail
        refine (M.r _).mono ?_
        rintro e wa ⟨rfl, hgg⟩
        have gwa := Grows.trans gwr hgg
        have hEwa := hEwr.later hgg
        have hswa := hswr.later hgg
        clear hgg C0 C1 C2
        have C0 := hEwa.cell (k := 3) rfl
        have C1 := hEwa.cell (k := 4) rfl
        have C2 := hEwa.cell (k := 5) rfl
        go_wp2_with fail
        refine (M.n _ hswa).mono ?_
        rintro e wb ⟨cb, rfl, hgg⟩
        have gwb := Grows.trans gwa hgg
        have hEwb := hEwa.later hgg
        have hswb := hswa.later hgg
        clear hgg C0 C1 C2
        have C0 := hEwb.cell (k := 3) rfl
        have C1 := hEwb.cell (k := 4) rfl
        have C2 := hEwb.cell (k := 5) rfl
        have hcb : ∀ u, (binOp .neq 28 (.pointer (some ⟨cb, 0, none⟩)) (.pointer none)).run Tryd.prog u = .ok (.bool true) u := fun u => by kernel_rfl
        obtain ⟨hab, gab⟩ := abc_marked wb
        have hcv := Lib.run_convert_bytes_const (P := Tryd.prog) wb 35 5 #[.int .u8 97, .int .u8 98, .int .u8 99] 3 3 Tryd.underlying35 Tryd.underlying5
        have hszb : (wb.alloc (.cells #[.int .u8 97, .int .u8 98, .int .u8 99] 5 (3, 4))).heap.size = wb.heap.size + 1 := by simp
        have hab' : Lies (wb.alloc (.cells #[.int .u8 97, .int .u8 98, .int .u8 99] 5 (3, 4))) (wb.alloc (.cells #[.int .u8 97, .int .u8 98, .int .u8 99] 5 (3, 4))).heap.size (some ⟨wb.heap.size, 0, none⟩) (([97, 98, 99] : List UInt8).map bv) := hab.mono (by rw [hszb]; exact Nat.le_refl _)
        have hEb := hEwb.later gab
        have B0 := hEb.cell (k := 3) rfl
        have B1 := hEb.cell (k := 4) rfl
        have B2 := hEb.cell (k := 5) rfl
        have hsb0 := hswb.later gab
        go_wp2_with fail
        clear hcv
        refine (M.s _ _ hsb0 hab').mono ?_
        rintro e wc ⟨v, rfl, hgg⟩
        have gwc := Grows.trans gwb (Grows.trans gab hgg)
        have hEwc := hEb.later hgg
        have hswc := hsb0.later hgg
        clear hgg C0 C1 C2 B0 B1 B2 hab hab' gab hEb hszb
        have C0 := hEwc.cell (k := 3) rfl
        have C1 := hEwc.cell (k := 4) rfl
        have C2 := hEwc.cell (k := 5) rfl
        go_wp2_with fail
        refine (M.i _ hswc).mono ?_
        rintro e wd ⟨rfl, hgg⟩
        have gwd := Grows.trans gwc hgg
        have hEwd := hEwc.later hgg
        have hswd := hswc.later hgg
        clear hgg C0 C1 C2
        have C0 := hEwd.cell (k := 3) rfl
        have C1 := hEwd.cell (k := 4) rfl
        have C2 := hEwd.cell (k := 5) rfl
        go_wp2_with fail
        obtain ⟨k, hk1, hk2, hK1, hK2⟩ := M.p
        have hkw : IntKind.i64.wrap ((k : Int) - 1) = (k : Int) - 1 := IntWalk.i64_in _ (by omega)
        have hkc : IntKind.u32.wrap ((k : Int) - 1) = (k : Int) - 1 := IntWalk.u32_in _ (by omega)
        refine (hK1 _).mono ?_
        rintro e _ ⟨rfl, rfl⟩
        go_wp2_with fail
        refine (M.m _).mono ?_
        rintro e we ⟨rfl, hgg⟩
        have gwe := Grows.trans gwd hgg
        have hEwe := hEwd.later hgg
        have hswe := hswd.later hgg
        clear hgg C0 C1 C2
        have C0 := hEwe.cell (k := 3) rfl
        have C1 := hEwe.cell (k := 4) rfl
        have C2 := hEwe.cell (k := 5) rfl
        go_wp2_with fail
        refine (hK2 _).mono ?_
        rintro e wf ⟨rfl, hgg⟩
        have gwf := Grows.trans gwe hgg
        have hEwf := hEwe.later hgg
        have hswf := hswe.later hgg
        clear hgg C0 C1 C2
        have C0 := hEwf.cell (k := 3) rfl
        have C1 := hEwf.cell (k := 4) rfl
        have C2 := hEwf.cell (k := 5) rfl
        go_wp2_with fail
        go_roundw
        case rel => exact ⟨.inr (.inr (.inl rfl)), gwf⟩
        case measure => simp [intOf]
      · have C0 := hEwr.cell (k := 6) rfl
        have C1 := hEwr.cell (k := 7) rfl
        have C2 := hEwr.cell (k := 8) rfl
        cases hmz : mayZ m (p.av : Int) (p.mx : Int) with
        | true =>
          have M := may_y hmz
          go_wp2_with fail
          refine (M.r _).mono ?_
          rintro e wa ⟨rfl, hgg⟩
          have gwa := Grows.trans gwr hgg
          have hEwa := hEwr.later hgg
          have hswa := hswr.later hgg
          clear hgg C0 C1 C2
          have C0 := hEwa.cell (k := 6) rfl
          have C1 := hEwa.cell (k := 7) rfl
          have C2 := hEwa.cell (k := 8) rfl
          go_wp2_with fail
          refine (M.n _ hswa).mono ?_
          rintro e wb ⟨cb, rfl, hgg⟩
          have gwb := Grows.trans gwa hgg
          have hEwb := hEwa.later hgg
          have hswb := hswa.later hgg
          clear hgg C0 C1 C2
          have C0 := hEwb.cell (k := 6) rfl
          have C1 := hEwb.cell (k := 7) rfl
          have C2 := hEwb.cell (k := 8) rfl
          have hcb : ∀ u, (binOp .neq 28 (.pointer (some ⟨cb, 0, none⟩)) (.pointer none)).run Tryd.prog u = .ok (.bool true) u := fun u => by kernel_rfl
          obtain ⟨hab, gab⟩ := abc_marked wb
          have hcv := Lib.run_convert_bytes_const (P := Tryd.prog) wb 35 5 #[.int .u8 97, .int .u8 98, .int .u8 99] 3 3 Tryd.underlying35 Tryd.underlying5
          have hszb : (wb.alloc (.cells #[.int .u8 97, .int .u8 98, .int .u8 99] 5 (3, 4))).heap.size = wb.heap.size + 1 := by simp
          have hab' : Lies (wb.alloc (.cells #[.int .u8 97, .int .u8 98, .int .u8 99] 5 (3, 4))) (wb.alloc (.cells #[.int .u8 97, .int .u8 98, .int .u8 99] 5 (3, 4))).heap.size (some ⟨wb.heap.size, 0, none⟩) (([97, 98, 99] : List UInt8).map bv) := hab.mono (by rw [hszb]; exact Nat.le_refl _)
          have hEb := hEwb.later gab
          have B0 := hEb.cell (k := 6) rfl
          have B1 := hEb.cell (k := 7) rfl
          have B2 := hEb.cell (k := 8) rfl
          have hsb0 := hswb.later gab
          go_wp2_with fail
          clear hcv
          refine (M.s _ _ hsb0 hab').mono ?_
          rintro e wc ⟨v, rfl, hgg⟩
          have gwc := Grows.trans gwb (Grows.trans gab hgg)
          have hEwc := hEb.later hgg
          have hswc := hsb0.later hgg
          clear hgg C0 C1 C2 B0 B1 B2 hab hab' gab hEb hszb
          have C0 := hEwc.cell (k := 6) rfl
          have C1 := hEwc.cell (k := 7) rfl
          have C2 := hEwc.cell (k := 8) rfl
          go_wp2_with fail
          refine (M.i _ hswc).mono ?_
          rintro e wd ⟨rfl, hgg⟩
          have gwd := Grows.trans gwc hgg
          have hEwd := hEwc.later hgg
          have hswd := hswc.later hgg
          clear hgg C0 C1 C2
          have C0 := hEwd.cell (k := 6) rfl
          have C1 := hEwd.cell (k := 7) rfl
          have C2 := hEwd.cell (k := 8) rfl
          go_wp2_with fail
          obtain ⟨k, hk1, hk2, hK1, hK2⟩ := M.p
          have hkw : IntKind.i64.wrap ((k : Int) - 1) = (k : Int) - 1 := IntWalk.i64_in _ (by omega)
          have hkc : IntKind.u32.wrap ((k : Int) - 1) = (k : Int) - 1 := IntWalk.u32_in _ (by omega)
          refine (hK1 _).mono ?_
          rintro e _ ⟨rfl, rfl⟩
          go_wp2_with fail
          refine (M.m _).mono ?_
          rintro e we ⟨rfl, hgg⟩
          have gwe := Grows.trans gwd hgg
          have hEwe := hEwd.later hgg
          have hswe := hswd.later hgg
          clear hgg C0 C1 C2
          have C0 := hEwe.cell (k := 6) rfl
          have C1 := hEwe.cell (k := 7) rfl
          have C2 := hEwe.cell (k := 8) rfl
          go_wp2_with fail
          refine (hK2 _).mono ?_
          rintro e wf ⟨rfl, hgg⟩
          have gwf := Grows.trans gwe hgg
          have hEwf := hEwe.later hgg
          have hswf := hswe.later hgg
          clear hgg C0 C1 C2
          have C0 := hEwf.cell (k := 6) rfl
          have C1 := hEwf.cell (k := 7) rfl
          have C2 := hEwf.cell (k := 8) rfl
          go_wp2_with fail
          go_roundw
          case rel => exact ⟨.inr (.inr (.inr rfl)), gwf⟩
          case measure => simp [intOf]
        | false =>
          have M := may_n hmz
          go_wp2_with fail
          refine (M.r _).mono ?_
          rintro e wa ⟨rfl, hgg⟩
          have gwa := Grows.trans gwr hgg
          have hEwa := hEwr.later hgg
          have hswa := hswr.later hgg
          clear hgg C0 C1 C2
          have C0 := hEwa.cell (k := 6) rfl
          have C1 := hEwa.cell (k := 7) rfl
          have C2 := hEwa.cell (k := 8) rfl
          go_wp2_with fail
          refine (M.n _).mono ?_
          rintro e wb ⟨rfl, hgg⟩
          have gwb := Grows.trans gwa hgg
          have hEwb := hEwa.later hgg
          have hswb := hswa.later hgg
          clear hgg C0 C1 C2
          have C0 := hEwb.cell (k := 6) rfl
          have C1 := hEwb.cell (k := 7) rfl
          have C2 := hEwb.cell (k := 8) rfl
          have hcb : ∀ u, (binOp .neq 28 (.pointer none) (.pointer none)).run Tryd.prog u = .ok (.bool false) u := fun u => by kernel_rfl
          obtain ⟨hab, gab⟩ := abc_marked wb
          have hcv := Lib.run_convert_bytes_const (P := Tryd.prog) wb 35 5 #[.int .u8 97, .int .u8 98, .int .u8 99] 3 3 Tryd.underlying35 Tryd.underlying5
          have hszb : (wb.alloc (.cells #[.int .u8 97, .int .u8 98, .int .u8 99] 5 (3, 4))).heap.size = wb.heap.size + 1 := by simp
          have hab' : Lies (wb.alloc (.cells #[.int .u8 97, .int .u8 98, .int .u8 99] 5 (3, 4))) (wb.alloc (.cells #[.int .u8 97, .int .u8 98, .int .u8 99] 5 (3, 4))).heap.size (some ⟨wb.heap.size, 0, none⟩) (([97, 98, 99] : List UInt8).map bv) := hab.mono (by rw [hszb]; exact Nat.le_refl _)
          have hEb := hEwb.later gab
          have B0 := hEb.cell (k := 6) rfl
          have B1 := hEb.cell (k := 7) rfl
          have B2 := hEb.cell (k := 8) rfl
          have hsb0 := hswb.later gab
          go_wp2_with fail
          clear hcv
          refine (M.s _ _).mono ?_
          rintro e wc ⟨rfl, hgg⟩
          have gwc := Grows.trans gwb (Grows.trans gab hgg)
          have hEwc := hEb.later hgg
          have hswc := hsb0.later hgg
          clear hgg C0 C1 C2 B0 B1 B2 hab hab' gab hEb hszb
          have C0 := hEwc.cell (k := 6) rfl
          have C1 := hEwc.cell (k := 7) rfl
          have C2 := hEwc.cell (k := 8) rfl
          go_wp2_with fail
          refine (M.i _).mono ?_
          rintro e wd ⟨rfl, hgg⟩
          have gwd := Grows.trans gwc hgg
          have hEwd := hEwc.later hgg
          have hswd := hswc.later hgg
          clear hgg C0 C1 C2
          have C0 := hEwd.cell (k := 6) rfl
          have C1 := hEwd.cell (k := 7) rfl
          have C2 := hEwd.cell (k := 8) rfl
          go_wp2_with fail
          refine (M.m _).mono ?_
          rintro e we ⟨rfl, hgg⟩
          have gwe := Grows.trans gwd hgg
          have hEwe := hEwd.later hgg
          have hswe := hswd.later hgg
          clear hgg C0 C1 C2
          have C0 := hEwe.cell (k := 6) rfl
          have C1 := hEwe.cell (k := 7) rfl
          have C2 := hEwe.cell (k := 8) rfl
          go_wp2_with fail
          refine (M.k _).mono ?_
          rintro e wf ⟨rfl, hgg⟩
          have gwf := Grows.trans gwe hgg
          have hEwf := hEwe.later hgg
          have hswf := hswe.later hgg
          clear hgg C0 C1 C2
          have C0 := hEwf.cell (k := 6) rfl
          have C1 := hEwf.cell (k := 7) rfl
          have C2 := hEwf.cell (k := 8) rfl
          obtain ⟨hab, gab⟩ := abc_marked wf
          have hcv := Lib.run_convert_bytes_const (P := Tryd.prog) wf 35 5 #[.int .u8 97, .int .u8 98, .int .u8 99] 3 3 Tryd.underlying35 Tryd.underlying5
          have hszb : (wf.alloc (.cells #[.int .u8 97, .int .u8 98, .int .u8 99] 5 (3, 4))).heap.size = wf.heap.size + 1 := by simp
          have hab' : Lies (wf.alloc (.cells #[.int .u8 97, .int .u8 98, .int .u8 99] 5 (3, 4))) (wf.alloc (.cells #[.int .u8 97, .int .u8 98, .int .u8 99] 5 (3, 4))).heap.size (some ⟨wf.heap.size, 0, none⟩) (([97, 98, 99] : List UInt8).map bv) := hab.mono (by rw [hszb]; exact Nat.le_refl _)
          have hEb := hEwf.later gab
          have B0 := hEb.cell (k := 6) rfl
          have B1 := hEb.cell (k := 7) rfl
          have B2 := hEb.cell (k := 8) rfl
          have hsb0 := hswf.later gab
          go_wp2_with fail
          clear hcv
          refine (M.c _ _ hab').mono ?_
          rintro e wg ⟨rfl, hgg⟩
          have gwg := Grows.trans gwf (Grows.trans gab hgg)
          clear hgg C0 C1 C2 B0 B1 B2 hab hab' gab hEb hszb
          go_wp2_with fail
          go_roundw
          case rel => exact ⟨.inr (.inr (.inr rfl)), gwg⟩
          case measure => simp [intOf]
      · have LV := Lib.hid (lives10_any wr hswr)
        go_wp2_with fail
        refine LV.out.mono ?_
        rintro e w11 ⟨rfl, hg11⟩
        go_wp2_with fail
        go_ret
        exact ⟨rfl, Grows.trans gw6 (Grows.trans gwr hg11)⟩
  · have hck := hR4.cell (k := 1) rfl
    have hf := hR4.free 1
    have hO5 := hR4.set_ (k := 1) (by simp) (.int .i64 m)
    have T5 := Turns.of_set (S := fun q => q = w3.heap.size) (b := w3.heap.size) (o := 1) w4 (.int .i64 m) rfl
    have hN5 := hN4.turned T5 (fun h => by omega)
    have hR5 := hG4.turned T5 (fun h => by omega)
    have hs5 := (hs.later gw4).turned T5 (fun h => by have := hs.pos; omega)
    have gw5 : Grows w (w4.setCell ⟨w3.heap.size, 1, none⟩ (.int .i64 m)) := turns_then_grows gw4 T5 (fun k h => by omega)
    have N0 := hN5.cell (k := 0) rfl
    have N1 := hN5.cell (k := 1) rfl
    have N2 := hN5.cell (k := 2) rfl
    have R0 := hR5.cell (k := 0) rfl
    have R1 := hR5.cell (k := 1) rfl
    have R2 := hR5.cell (k := 2) rfl
    have O0 := hO5.cell (k := 0) rfl
    have O1 := hO5.cell (k := 1) rfl
    have O2 := hO5.cell (k := 2) rfl
    have hE5 := Has.new (w4.setCell ⟨w3.heap.size, 1, none⟩ (.int .i64 m)) 23 [.int .i64 a, .int .i64 b, .int .i64 d, .int .i64 (p.mn : Int), .int .i64 (p.av : Int), .int .i64 (p.mx : Int), .int .i64 (p.mn : Int), .int .i64 m, .int .i64 (p.mx : Int)]
    have gE5 := grows_alloc (w4.setCell ⟨w3.heap.size, 1, none⟩ (.int .i64 m)) (.cells [.int .i64 a, .int .i64 b, .int .i64 d, .int .i64 (p.mn : Int), .int .i64 (p.av : Int), .int .i64 (p.mx : Int), .int .i64 (p.mn : Int), .int .i64 m, .int .i64 (p.mx : Int)].toArray 23)
    go_wp2_with fail
    have hs6 := hs5.later gE5
    have gw6 := Grows.trans gw5 gE5
    rw [World.size_setCell] at hE5
    generalize w4.heap.size = ba at *
    clear hN5 hR5 hO5 N0 N1 N2 R0 R1 R2 O0 O1 O2 hs5 gw5 gE5 hf hck
    generalize hL : (w4.setCell ⟨w3.heap.size, 1, none⟩ (.int .i64 m)).alloc _ = wL at *
    clear hL T5 hR4 hN4 hG4 gw4 hw4
    go_loopw [10] (fun iv wr => (iv = .int .i64 0 ∨ iv = .int .i64 1 ∨ iv = .int .i64 2 ∨ iv = .int .i64 3) ∧ Grows wL wr) (fun iv _ => 3 - (intOf iv).toNat)
    case atStart => exact ⟨.inl rfl, Grows.refl _⟩
    case round =>
      obtain ⟨hi, gwr⟩ := hrel
      have hEwr := hE5.later gwr
      have hswr := hs6.later gwr
      obtain rfl | rfl | rfl | rfl := hi
      · have C0 := hEwr.cell (k := 0) rfl
        have C1 := hEwr.cell (k := 1) rfl
        have C2 := hEwr.cell (k := 2) rfl
        cases hmz : mayZ a b d with
        | true =>
          have M := may_y hmz
          go_wp2_with fail
          refine (M.r _).mono ?_
          rintro e wa ⟨rfl, hgg⟩
          have gwa := Grows.trans gwr hgg
          have hEwa := hEwr.later hgg
          have hswa := hswr.later hgg
          clear hgg C0 C1 C2
          have C0 := hEwa.cell (k := 0) rfl
          have C1 := hEwa.cell (k := 1) rfl
          have C2 := hEwa.cell (k := 2) rfl
          go_wp2_with fail
          refine (M.n _ hswa).mono ?_
          rintro e wb ⟨cb, rfl, hgg⟩
          have gwb := Grows.trans gwa hgg
          have hEwb := hEwa.later hgg
          have hswb := hswa.later hgg
          clear hgg C0 C1 C2
          have C0 := hEwb.cell (k := 0) rfl
          have C1 := hEwb.cell (k := 1) rfl
          have C2 := hEwb.cell (k := 2) rfl
          have hcb : ∀ u, (binOp .neq 28 (.pointer (some ⟨cb, 0, none⟩)) (.pointer none)).run Tryd.prog u = .ok (.bool true) u := fun u => by kernel_rfl
          obtain ⟨hab, gab⟩ := abc_marked wb
          have hcv := Lib.run_convert_bytes_const (P := Tryd.prog) wb 35 5 #[.int .u8 97, .int .u8 98, .int .u8 99] 3 3 Tryd.underlying35 Tryd.underlying5
          have hszb : (wb.alloc (.cells #[.int .u8 97, .int .u8 98, .int .u8 99] 5 (3, 4))).heap.size = wb.heap.size + 1 := by simp
          have hab' : Lies (wb.alloc (.cells #[.int .u8 97, .int .u8 98, .int .u8 99] 5 (3, 4))) (wb.alloc (.cells #[.int .u8 97, .int .u8 98, .int .u8 99] 5 (3, 4))).heap.size (some ⟨wb.heap.size, 0, none⟩) (([97, 98, 99] : List UInt8).map bv) := hab.mono (by rw [hszb]; exact Nat.le_refl _)
          have hEb := hEwb.later gab
          have B0 := hEb.cell (k := 0) rfl
          have B1 := hEb.cell (k := 1) rfl
          have B2 := hEb.cell (k := 2) rfl
          have hsb0 := hswb.later gab
          go_wp2_with fail
          clear hcv
          refine (M.s _ _ hsb0 hab').mono ?_
          rintro e wc ⟨v, rfl, hgg⟩
          have gwc := Grows.trans gwb (Grows.trans gab hgg)
          have hEwc := hEb.later hgg
          have hswc := hsb0.later hgg
          clear hgg C0 C1 C2 B0 B1 B2 hab hab' gab hEb hszb
          have C0 := hEwc.cell (k := 0) rfl
          have C1 := hEwc.cell (k := 1) rfl
          have C2 := hEwc.cell (k := 2) rfl
          go_wp2_with fail
          refine (M.i _ hswc).mono ?_
          rintro e wd ⟨rfl, hgg⟩
          have gwd := Grows.trans gwc hgg
          have hEwd := hEwc.later hgg
          have hswd := hswc.later hgg
          clear hgg C0 C1 C2
          have C0 := hEwd.cell (k := 0) rfl
          have C1 := hEwd.cell (k := 1) rfl
          have C2 := hEwd.cell (k := 2) rfl
          go_wp2_with fail
          obtain ⟨k, hk1, hk2, hK1, hK2⟩ := M.p
          have hkw : IntKind.i64.wrap ((k : Int) - 1) = (k : Int) - 1 := IntWalk.i64_in _ (by omega)
          have hkc : IntKind.u32.wrap ((k : Int) - 1) = (k : Int) - 1 := IntWalk.u32_in _ (by omega)
          refine (hK1 _).mono ?_
          rintro e _ ⟨rfl, rfl⟩
          go_wp2_with fail
          refine (M.m _).mono ?_
          rintro e we ⟨rfl, hgg⟩
          have gwe := Grows.trans gwd hgg
          have hEwe := hEwd.later hgg
          have hswe := hswd.later hgg
          clear hgg C0 C1 C2
          have C0 := hEwe.cell (k := 0) rfl
          have C1 := hEwe.cell (k := 1) rfl
          have C2 := hEwe.cell (k := 2) rfl
          go_wp2_with fail
          refine (hK2 _).mono ?_
          rintro e wf ⟨rfl, hgg⟩
          have gwf := Grows.trans gwe hgg
          have hEwf := hEwe.later hgg
          have hswf := hswe.later hgg
          clear hgg C0 C1 C2
          have C0 := hEwf.cell (k := 0) rfl
          have C1 := hEwf.cell (k := 1) rfl
          have C2 := hEwf.cell (k := 2) rfl
          go_wp2_with fail
          go_roundw
          case rel => exact ⟨.inr (.inl rfl), gwf⟩
          case measure => simp [intOf]
        | false =>
          have M := may_n hmz
          go_wp2_with fail
          refine (M.r _).mono ?_
          rintro e wa ⟨rfl, hgg⟩
          have gwa := Grows.trans gwr hgg
          have hEwa := hEwr.later hgg
          have hswa := hswr.later hgg
          clear hgg C0 C1 C2
          have C0 := hEwa.cell (k := 0) rfl
          have C1 := hEwa.cell (k := 1) rfl
          have C2 := hEwa.cell (k := 2) rfl
          go_wp2_with fail
          refine (M.n _).mono ?_
          rintro e wb ⟨rfl, hgg⟩
          have gwb := Grows.trans gwa hgg
          have hEwb := hEwa.later hgg
          have hswb := hswa.later hgg
          clear hgg C0 C1 C2
          have C0 := hEwb.cell (k := 0) rfl
          have C1 := hEwb.cell (k := 1) rfl
          have C2 := hEwb.cell (k := 2) rfl
          have hcb : ∀ u, (binOp .neq 28 (.pointer none) (.pointer none)).run Tryd.prog u = .ok (.bool false) u := fun u => by kernel_rfl
          obtain ⟨hab, gab⟩ := abc_marked wb
          have hcv := Lib.run_convert_bytes_const (P := Tryd.prog) wb 35 5 #[.int .u8 97, .int .u8 98, .int .u8 99] 3 3 Tryd.underlying35 Tryd.underlying5
          have hszb : (wb.alloc (.cells #[.int .u8 97, .int .u8 98, .int .u8 99] 5 (3, 4))).heap.size = wb.heap.size + 1 := by simp
          have hab' : Lies (wb.alloc (.cells #[.int .u8 97, .int .u8 98, .int .u8 99] 5 (3, 4))) (wb.alloc (.cells #[.int .u8 97, .int .u8 98, .int .u8 99] 5 (3, 4))).heap.size (some ⟨wb.heap.size, 0, none⟩) (([97, 98, 99] : List UInt8).map bv) := hab.mono (by rw [hszb]; exact Nat.le_refl _)
          have hEb := hEwb.later gab
          have B0 := hEb.cell (k := 0) rfl
          have B1 := hEb.cell (k := 1) rfl
          have B2 := hEb.cell (k := 2) rfl
          have hsb0 := hswb.later gab
          go_wp2_with fail
          clear hcv
          refine (M.s _ _).mono ?_
          rintro e wc ⟨rfl, hgg⟩
          have gwc := Grows.trans gwb (Grows.trans gab hgg)
          have hEwc := hEb.later hgg
          have hswc := hsb0.later hgg
          clear hgg C0 C1 C2 B0 B1 B2 hab hab' gab hEb hszb
          have C0 := hEwc.cell (k := 0) rfl
          have C1 := hEwc.cell (k := 1) rfl
          have C2 := hEwc.cell (k := 2) rfl
          go_wp2_with fail
          refine (M.i _).mono ?_
          rintro e wd ⟨rfl, hgg⟩
          have gwd := Grows.trans gwc hgg
          have hEwd := hEwc.later hgg
          have hswd := hswc.later hgg
          clear hgg C0 C1 C2
          have C0 := hEwd.cell (k := 0) rfl
          have C1 := hEwd.cell (k := 1) rfl
          have C2 := hEwd.cell (k := 2) rfl
          go_wp2_with fail
          refine (M.m _).mono ?_
          rintro e we ⟨rfl, hgg⟩
          have gwe := Grows.trans gwd hgg
          have hEwe := hEwd.later hgg
          have hswe := hswd.later hgg
          clear hgg C0 C1 C2
          have C0 := hEwe.cell (k := 0) rfl
          have C1 := hEwe.cell (k := 1) rfl
          have C2 := hEwe.cell (k := 2) rfl
          go_wp2_with fail
          refine (M.k _).mono ?_
          rintro e wf ⟨rfl, hgg⟩
          have gwf := Grows.trans gwe hgg
          have hEwf := hEwe.later hgg
          have hswf := hswe.later hgg
          clear hgg C0 C1 C2
          have C0 := hEwf.cell (k := 0) rfl
          have C1 := hEwf.cell (k := 1) rfl
          have C2 := hEwf.cell (k := 2) rfl
          obtain ⟨hab, gab⟩ := abc_marked wf
          have hcv := Lib.run_convert_bytes_const (P := Tryd.prog) wf 35 5 #[.int .u8 97, .int .u8 98, .int .u8 99] 3 3 Tryd.underlying35 Tryd.underlying5
          have hszb : (wf.alloc (.cells #[.int .u8 97, .int .u8 98, .int .u8 99] 5 (3, 4))).heap.size = wf.heap.size + 1 := by simp
          have hab' : Lies (wf.alloc (.cells #[.int .u8 97, .int .u8 98, .int .u8 99] 5 (3, 4))) (wf.alloc (.cells #[.int .u8 97, .int .u8 98, .int .u8 99] 5 (3, 4))).heap.size (some ⟨wf.heap.size, 0, none⟩) (([97, 98, 99] : List UInt8).map bv) := hab.mono (by rw [hszb]; exact Nat.le_refl _)
          have hEb := hEwf.later gab
          have B0 := hEb.cell (k := 0) rfl
          have B1 := hEb.cell (k := 1) rfl
          have B2 := hEb.cell (k := 2) rfl
          have hsb0 := hswf.later gab
          go_wp2_with fail
          clear hcv
          refine (M.c _ _ hab').mono ?_
          rintro e wg ⟨rfl, hgg⟩
          have gwg := Grows.trans gwf (Grows.trans gab hgg)
          clear hgg C0 C1 C2 B0 B1 B2 hab hab' gab hEb hszb
          go_wp2_with fail
          go_roundw
          case rel => exact ⟨.inr (.inl rfl), gwg⟩
          case measure => simp [intOf]
      · have C0 := hEwr.cell (k := 3) rfl
        have C1 := hEwr.cell (k := 4) rfl
        have C2 := hEwr.cell (k := 5) rfl
        have M := may_y (may_ok hp)
        go_wp2_with fail
        refine (M.r _).mono ?_
        rintro e wa ⟨rfl, hgg⟩
        have gwa := Grows.trans gwr hgg
        have hEwa := hEwr.later hgg
        have hswa := hswr.later hgg
        clear hgg C0 C1 C2
        have C0 := hEwa.cell (k := 3) rfl
        have C1 := hEwa.cell (k := 4) rfl
        have C2 := hEwa.cell (k := 5) rfl
        go_wp2_with fail
        refine (M.n _ hswa).mono ?_
        rintro e wb ⟨cb, rfl, hgg⟩
        have gwb := Grows.trans gwa hgg
        have hEwb := hEwa.later hgg
        have hswb := hswa.later hgg
        clear hgg C0 C1 C2
        have C0 := hEwb.cell (k := 3) rfl
        have C1 := hEwb.cell (k := 4) rfl
        have C2 := hEwb.cell (k := 5) rfl
        have hcb : ∀ u, (binOp .neq 28 (.pointer (some ⟨cb, 0, none⟩)) (.pointer none)).run Tryd.prog u = .ok (.bool true) u := fun u => by kernel_rfl
        obtain ⟨hab, gab⟩ := abc_marked wb
        have hcv := Lib.run_convert_bytes_const (P := Tryd.prog) wb 35 5 #[.int .u8 97, .int .u8 98, .int .u8 99] 3 3 Tryd.underlying35 Tryd.underlying5
        have hszb : (wb.alloc (.cells #[.int .u8 97, .int .u8 98, .int .u8 99] 5 (3, 4))).heap.size = wb.heap.size + 1 := by simp
        have hab' : Lies (wb.alloc (.cells #[.int .u8 97, .int .u8 98, .int .u8 99] 5 (3, 4))) (wb.alloc (.cells #[.int .u8 97, .int .u8 98, .int .u8 99] 5 (3, 4))).heap.size (some ⟨wb.heap.size, 0, none⟩) (([97, 98, 99] : List UInt8).map bv) := hab.mono (by rw [hszb]; exact Nat.le_refl _)
        have hEb := hEwb.later gab
        have B0 := hEb.cell (k := 3) rfl
        have B1 := hEb.cell (k := 4) rfl
        have B2 := hEb.cell (k := 5) rfl
        have hsb0 := hswb.later gab
        go_wp2_with fail
        clear hcv
        refine (M.s _ _ hsb0 hab').mono ?_
        rintro e wc ⟨v, rfl, hgg⟩
        have gwc := Grows.trans gwb (Grows.trans gab hgg)
        have hEwc := hEb.later hgg
        have hswc := hsb0.later hgg
        clear hgg C0 C1 C2 B0 B1 B2 hab hab' gab hEb hszb
        have C0 := hEwc.cell (k := 3) rfl
        have C1 := hEwc.cell (k := 4) rfl
        have C2 := hEwc.cell (k := 5) rfl
        go_wp2_with fail
        refine (M.i _ hswc).mono ?_
        rintro e wd ⟨rfl, hgg⟩
        have gwd := Grows.trans gwc hgg
        have hEwd := hEwc.later hgg
        have hswd := hswc.later hgg
        clear hgg C0 C1 C2
        have C0 := hEwd.cell (k := 3) rfl
        have C1 := hEwd.cell (k := 4) rfl
        have C2 := hEwd.cell (k := 5) rfl
        go_wp2_with fail
        obtain ⟨k, hk1, hk2, hK1, hK2⟩ := M.p
        have hkw : IntKind.i64.wrap ((k : Int) - 1) = (k : Int) - 1 := IntWalk.i64_in _ (by omega)
        have hkc : IntKind.u32.wrap ((k : Int) - 1) = (k : Int) - 1 := IntWalk.u32_in _ (by omega)
        refine (hK1 _).mono ?_
        rintro e _ ⟨rfl, rfl⟩
        go_wp2_with fail
        refine (M.m _).mono ?_
        rintro e we ⟨rfl, hgg⟩
        have gwe := Grows.trans gwd hgg
        have hEwe := hEwd.later hgg
        have hswe := hswd.later hgg
        clear hgg C0 C1 C2
        have C0 := hEwe.cell (k := 3) rfl
        have C1 := hEwe.cell (k := 4) rfl
        have C2 := hEwe.cell (k := 5) rfl
        go_wp2_with fail
        refine (hK2 _).mono ?_
        rintro e wf ⟨rfl, hgg⟩
        have gwf := Grows.trans gwe hgg
        have hEwf := hEwe.later hgg
        have hswf := hswe.later hgg
        clear hgg C0 C1 C2
        have C0 := hEwf.cell (k := 3) rfl
        have C1 := hEwf.cell (k := 4) rfl
        have C2 := hEwf.cell (k := 5) rfl
        go_wp2_with fail
        go_roundw
        case rel => exact ⟨.inr (.inr (.inl rfl)), gwf⟩
        case measure => simp [intOf]
      · have C0 := hEwr.cell (k := 6) rfl
        have C1 := hEwr.cell (k := 7) rfl
        have C2 := hEwr.cell (k := 8) rfl
        cases hmz : mayZ (p.mn : Int) m (p.mx : Int) with
        | true =>
          have M := may_y hmz
          go_wp2_with fail
          refine (M.r _).mono ?_
          rintro e wa ⟨rfl, hgg⟩
          have gwa := Grows.trans gwr hgg
          have hEwa := hEwr.later hgg
          have hswa := hswr.later hgg
          clear hgg C0 C1 C2
          have C0 := hEwa.cell (k := 6) rfl
          have C1 := hEwa.cell (k := 7) rfl
          have C2 := hEwa.cell (k := 8) rfl
          go_wp2_with fail
          refine (M.n _ hswa).mono ?_
          rintro e wb ⟨cb, rfl, hgg⟩
          have gwb := Grows.trans gwa hgg
          have hEwb := hEwa.later hgg
          have hswb := hswa.later hgg
          clear hgg C0 C1 C2
          have C0 := hEwb.cell (k := 6) rfl
          have C1 := hEwb.cell (k := 7) rfl
          have C2 := hEwb.cell (k := 8) rfl
          have hcb : ∀ u, (binOp .neq 28 (.pointer (some ⟨cb, 0, none⟩)) (.pointer none)).run Tryd.prog u = .ok (.bool true) u := fun u => by kernel_rfl
          obtain ⟨hab, gab⟩ := abc_marked wb
          have hcv := Lib.run_convert_bytes_const (P := Tryd.prog) wb 35 5 #[.int .u8 97, .int .u8 98, .int .u8 99] 3 3 Tryd.underlying35 Tryd.underlying5
          have hszb : (wb.alloc (.cells #[.int .u8 97, .int .u8 98, .int .u8 99] 5 (3, 4))).heap.size = wb.heap.size + 1 := by simp
          have hab' : Lies (wb.alloc (.cells #[.int .u8 97, .int .u8 98, .int .u8 99] 5 (3, 4))) (wb.alloc (.cells #[.int .u8 97, .int .u8 98, .int .u8 99] 5 (3, 4))).heap.size (some ⟨wb.heap.size, 0, none⟩) (([97, 98, 99] : List UInt8).map bv) := hab.mono (by rw [hszb]; exact Nat.le_refl _)
          have hEb := hEwb.later gab
          have B0 := hEb.cell (k := 6) rfl
          have B1 := hEb.cell (k := 7) rfl
          have B2 := hEb.cell (k := 8) rfl
          have hsb0 := hswb.later gab
          go_wp2_with fail
          clear hcv
          refine (M.s _ _ hsb0 hab').mono ?_
          rintro e wc ⟨v, rfl, hgg⟩
          have gwc := Grows.trans gwb (Grows.trans gab hgg)
          have hEwc := hEb.later hgg
          have hswc := hsb0.later hgg
          clear hgg C0 C1 C2 B0 B1 B2 hab hab' gab hEb hszb
          have C0 := hEwc.cell (k := 6) rfl
          have C1 := hEwc.cell (k := 7) rfl
          have C2 := hEwc.cell (k := 8) rfl
          go_wp2_with fail
          refine (M.i _ hswc).mono ?_
          rintro e wd ⟨rfl, hgg⟩
          have gwd := Grows.trans gwc hgg
          have hEwd := hEwc.later hgg
          have hswd := hswc.later hgg
          clear hgg C0 C1 C2
          have C0 := hEwd.cell (k := 6) rfl
          have C1 := hEwd.cell (k := 7) rfl
          have C2 := hEwd.cell (k := 8) rfl
          go_wp2_with fail
          obtain ⟨k, hk1, hk2, hK1, hK2⟩ := M.p
          have hkw : IntKind.i64.wrap ((k : Int) - 1) = (k : Int) - 1 := IntWalk.i64_in _ (by omega)
          have hkc : IntKind.u32.wrap ((k : Int) - 1) = (k : Int) - 1 := IntWalk.u32_in _ (by omega)
          refine (hK1 _).mono ?_
          rintro e _ ⟨rfl, rfl⟩
          go_wp2_with fail
          refine (M.m _).mono ?_
          rintro e we ⟨rfl, hgg⟩
          have gwe := Grows.trans gwd hgg
          have hEwe := hEwd.later hgg
          have hswe := hswd.later hgg
          clear hgg C0 C1 C2
          have C0 := hEwe.cell (k := 6) rfl
          have C1 := hEwe.cell (k := 7) rfl
          have C2 := hEwe.cell (k := 8) rfl
          go_wp2_with fail
          refine (hK2 _).mono ?_
          rintro e wf ⟨rfl, hgg⟩
          have gwf := Grows.trans gwe hgg
          have hEwf := hEwe.later hgg
          have hswf := hswe.later hgg
          clear hgg C0 C1 C2
          have C0 := hEwf.cell (k := 6) rfl
          have C1 := hEwf.cell (k := 7) rfl
          have C2 := hEwf.cell (k := 8) rfl
          go_wp2_with fail
          go_roundw
          case rel => exact ⟨.inr (.inr (.inr rfl)), gwf⟩
          case measure => simp [intOf]
        | false =>
          have M := may_n hmz
          go_wp2_with fail
          refine (M.r _).mono ?_
          rintro e wa ⟨rfl, hgg⟩
          have gwa := Grows.trans gwr hgg
          have hEwa := hEwr.later hgg
          have hswa := hswr.later hgg
          clear hgg C0 C1 C2
          have C0 := hEwa.cell (k := 6) rfl
          have C1 := hEwa.cell (k := 7) rfl
          have C2 := hEwa.cell (k := 8) rfl
          go_wp2_with fail
          refine (M.n _).mono ?_
          rintro e wb ⟨rfl, hgg⟩
          have gwb := Grows.trans gwa hgg
          have hEwb := hEwa.later hgg
          have hswb := hswa.later hgg
          clear hgg C0 C1 C2
          have C0 := hEwb.cell (k := 6) rfl
          have C1 := hEwb.cell (k := 7) rfl
          have C2 := hEwb.cell (k := 8) rfl
          have hcb : ∀ u, (binOp .neq 28 (.pointer none) (.pointer none)).run Tryd.prog u = .ok (.bool false) u := fun u => by kernel_rfl
          obtain ⟨hab, gab⟩ := abc_marked wb
          have hcv := Lib.run_convert_bytes_const (P := Tryd.prog) wb 35 5 #[.int .u8 97, .int .u8 98, .int .u8 99] 3 3 Tryd.underlying35 Tryd.underlying5
          have hszb : (wb.alloc (.cells #[.int .u8 97, .int .u8 98, .int .u8 99] 5 (3, 4))).heap.size = wb.heap.size + 1 := by simp
          have hab' : Lies (wb.alloc (.cells #[.int .u8 97, .int .u8 98, .int .u8 99] 5 (3, 4))) (wb.alloc (.cells #[.int .u8 97, .int .u8 98, .int .u8 99] 5 (3, 4))).heap.size (some ⟨wb.heap.size, 0, none⟩) (([97, 98, 99] : List UInt8).map bv) := hab.mono (by rw [hszb]; exact Nat.le_refl _)
          have hEb := hEwb.later gab
          have B0 := hEb.cell (k := 6) rfl
          have B1 := hEb.cell (k := 7) rfl
          have B2 := hEb.cell (k := 8) rfl
          have hsb0 := hswb.later gab
          go_wp2_with fail
          clear hcv
          refine (M.s _ _).mono ?_
          rintro e wc ⟨rfl, hgg⟩
          have gwc := Grows.trans gwb (Grows.trans gab hgg)
          have hEwc := hEb.later hgg
          have hswc := hsb0.later hgg
          clear hgg C0 C1 C2 B0 B1 B2 hab hab' gab hEb hszb
          have C0 := hEwc.cell (k := 6) rfl
          have C1 := hEwc.cell (k := 7) rfl
          have C2 := hEwc.cell (k := 8) rfl
          go_wp2_with fail
          refine (M.i _).mono ?_
          rintro e wd ⟨rfl, hgg⟩
          have gwd := Grows.trans gwc hgg
          have hEwd := hEwc.later hgg
          have hswd := hswc.later hgg
          clear hgg C0 C1 C2
          have C0 := hEwd.cell (k := 6) rfl
          have C1 := hEwd.cell (k := 7) rfl
          have C2 := hEwd.cell (k := 8) rfl
          go_wp2_with fail
          refine (M.m _).mono ?_
          rintro e we ⟨rfl, hgg⟩
          have gwe := Grows.trans gwd hgg
          have hEwe := hEwd.later hgg
          have hswe := hswd.later hgg
          clear hgg C0 C1 C2
          have C0 := hEwe.cell (k := 6) rfl
          have C1 := hEwe.cell (k := 7) rfl
          have C2 := hEwe.cell (k := 8) rfl
          go_wp2_with fail
          refine (M.k _).mono ?_
          rintro e wf ⟨rfl, hgg⟩
          have gwf := Grows.trans gwe hgg
          have hEwf := hEwe.later hgg
          have hswf := hswe.later hgg
          clear hgg C0 C1 C2
          have C0 := hEwf.cell (k := 6) rfl
          have C1 := hEwf.cell (k := 7) rfl
          have C2 := hEwf.cell (k := 8) rfl
          obtain ⟨hab, gab⟩ := abc_marked wf
          have hcv := Lib.run_convert_bytes_const (P := Tryd.prog) wf 35 5 #[.int .u8 97, .int .u8 98, .int .u8 99] 3 3 Tryd.underlying35 Tryd.underlying5
          have hszb : (wf.alloc (.cells #[.int .u8 97, .int .u8 98, .int .u8 99] 5 (3, 4))).heap.size = wf.heap.size + 1 := by simp
          have hab' : Lies (wf.alloc (.cells #[.int .u8 97, .int .u8 98, .int .u8 99] 5 (3, 4))) (wf.alloc (.cells #[.int .u8 97, .int .u8 98, .int .u8 99] 5 (3, 4))).heap.size (some ⟨wf.heap.size, 0, none⟩) (([97, 98, 99] : List UInt8).map bv) := hab.mono (by rw [hszb]; exact Nat.le_refl _)
          have hEb := hEwf.later gab
          have B0 := hEb.cell (k := 6) rfl
          have B1 := hEb.cell (k := 7) rfl
          have B2 := hEb.cell (k := 8) rfl
          have hsb0 := hswf.later gab
          go_wp2_with fail
          clear hcv
          refine (M.c _ _ hab').mono ?_
          rintro e wg ⟨rfl, hgg⟩
          have gwg := Grows.trans gwf (Grows.trans gab hgg)
          clear hgg C0 C1 C2 B0 B1 B2 hab hab' gab hEb hszb
          go_wp2_with fail
          go_roundw
          case rel => exact ⟨.inr (.inr (.inr rfl)), gwg⟩
          case measure => simp [intOf]
      · have LV := Lib.hid (lives10_any wr hswr)
        go_wp2_with fail
        refine LV.out.mono ?_
        rintro e w11 ⟨rfl, hg11⟩
        go_wp2_with fail
        go_ret
        exact ⟨rfl, Grows.trans gw6 (Grows.trans gwr hg11)⟩
  · have hck := hR4.cell (k := 2) rfl
    have hf := hR4.free 2
    have hO5 := hR4.set_ (k := 2) (by simp) (.int .i64 m)
    have T5 := Turns.of_set (S := fun q => q = w3.heap.size) (b := w3.heap.size) (o := 2) w4 (.int .i64 m) rfl
    have hN5 := hN4.turned T5 (fun h => by omega)
    have hR5 := hG4.turned T5 (fun h => by omega)
    have hs5 := (hs.later gw4).turned T5 (fun h => by have := hs.pos; omega)
    have gw5 : Grows w (w4.setCell ⟨w3.heap.size, 2, none⟩ (.int .i64 m)) := turns_then_grows gw4 T5 (fun k h => by omega)
    have N0 := hN5.cell (k := 0) rfl
    have N1 := hN5.cell (k := 1) rfl
    have N2 := hN5.cell (k := 2) rfl
    have R0 := hR5.cell (k := 0) rfl
    have R1 := hR5.cell (k := 1) rfl
    have R2 := hR5.cell (k := 2) rfl
    have O0 := hO5.cell (k := 0) rfl
    have O1 := hO5.cell (k := 1) rfl
    have O2 := hO5.cell (k := 2) rfl
    have hE5 := Has.new (w4.setCell ⟨w3.heap.size, 2, none⟩ (.int .i64 m)) 23 [.int .i64 a, .int .i64 b, .int .i64 d, .int .i64 (p.mn : Int), .int .i64 (p.av : Int), .int .i64 (p.mx : Int), .int .i64 (p.mn : Int), .int .i64 (p.av : Int), .int .i64 m]
    have gE5 := grows_alloc (w4.setCell ⟨w3.heap.size, 2, none⟩ (.int .i64 m)) (.cells [.int .i64 a, .int .i64 b, .int .i64 d, .int .i64 (p.mn : Int), .int .i64 (p.av : Int), .int .i64 (p.mx : Int), .int .i64 (p.mn : Int), .int .i64 (p.av : Int), .int .i64 m].toArray 23)
    go_wp2_with fail
    have hs6 := hs5.later gE5
    have gw6 := Grows.trans gw5 gE5
    rw [World.size_setCell] at hE5
    generalize w4.heap.size = ba at *
    clear hN5 hR5 hO5 N0 N1 N2 R0 R1 R2 O0 O1 O2 hs5 gw5 gE5 hf hck
    generalize hL : (w4.setCell ⟨w3.heap.size, 2, none⟩ (.int .i64 m)).alloc _ = wL at *
    clear hL T5 hR4 hN4 hG4 gw4 hw4
    go_loopw [10] (fun iv wr => (iv = .int .i64 0 ∨ iv = .int .i64 1 ∨ iv = .int .i64 2 ∨ iv = .int .i64 3) ∧ Grows wL wr) (fun iv _ => 3 - (intOf iv).toNat)
    case atStart => exact ⟨.inl rfl, Grows.refl _⟩
    case round =>
      obtain ⟨hi, gwr⟩ := hrel
      have hEwr := hE5.later gwr
      have hswr := hs6.later gwr
      obtain rfl | rfl | rfl | rfl := hi
      · have C0 := hEwr.cell (k := 0) rfl
        have C1 := hEwr.cell (k := 1) rfl
        have C2 := hEwr.cell (k := 2) rfl
        cases hmz : mayZ a b d with
        | true =>
          have M := may_y hmz
          go_wp2_with fail
          refine (M.r _).mono ?_
          rintro e wa ⟨rfl, hgg⟩
          have gwa := Grows.trans gwr hgg
          have hEwa := hEwr.later hgg
          have hswa := hswr.later hgg
          clear hgg C0 C1 C2
          have C0 := hEwa.cell (k := 0) rfl
          have C1 := hEwa.cell (k := 1) rfl
          have C2 := hEwa.cell (k := 2) rfl
          go_wp2_with fail
          refine (M.n _ hswa).mono ?_
          rintro e wb ⟨cb, rfl, hgg⟩
          have gwb := Grows.trans gwa hgg
          have hEwb := hEwa.later hgg
          have hswb := hswa.later hgg
          clear hgg C0 C1 C2
          have C0 := hEwb.cell (k := 0) rfl
          have C1 := hEwb.cell (k := 1) rfl
          have C2 := hEwb.cell (k := 2) rfl
          have hcb : ∀ u, (binOp .neq 28 (.pointer (some ⟨cb, 0, none⟩)) (.pointer none)).run Tryd.prog u = .ok (.bool true) u := fun u => by kernel_rfl
          obtain ⟨hab, gab⟩ := abc_marked wb
          have hcv := Lib.run_convert_bytes_const (P := Tryd.prog) wb 35 5 #[.int .u8 97, .int .u8 98, .int .u8 99] 3 3 Tryd.underlying35 Tryd.underlying5
          have hszb : (wb.alloc (.cells #[.int .u8 97, .int .u8 98, .int .u8 99] 5 (3, 4))).heap.size = wb.heap.size + 1 := by simp
          have hab' : Lies (wb.alloc (.cells #[.int .u8 97, .int .u8 98, .int .u8 99] 5 (3, 4))) (wb.alloc (.cells #[.int .u8 97, .int .u8 98, .int .u8 99] 5 (3, 4))).heap.size (some ⟨wb.heap.size, 0, none⟩) (([97, 98, 99] : List UInt8).map bv) := hab.mono (by rw [hszb]; exact Nat.le_refl _)
          have hEb := hEwb.later gab
          have B0 := hEb.cell (k := 0) rfl
          have B1 := hEb.cell (k := 1) rfl
          have B2 := hEb.cell (k := 2) rfl
          have hsb0 := hswb.later gab
          go_wp2_with fail
          clear hcv
          refine (M.s _ _ hsb0 hab').mono ?_
          rintro e wc ⟨v, rfl, hgg⟩
          have gwc := Grows.trans gwb (Grows.trans gab hgg)
          have hEwc := hEb.later hgg
          have hswc := hsb0.later hgg
          clear hgg C0 C1 C2 B0 B1 B2 hab hab' gab hEb hszb
          have C0 := hEwc.cell (k := 0) rfl
          have C1 := hEwc.cell (k := 1) rfl
          have C2 := hEwc.cell (k := 2) rfl
          go_wp2_with fail
          refine (M.i _ hswc).mono ?_
          rintro e wd ⟨rfl, hgg⟩
          have gwd := Grows.trans gwc hgg
          have hEwd := hEwc.later hgg
          have hswd := hswc.later hgg
          clear hgg C0 C1 C2
          have C0 := hEwd.cell (k := 0) rfl
          have C1 := hEwd.cell (k := 1) rfl
          have C2 := hEwd.cell (k := 2) rfl
          go_wp2_with fail
          obtain ⟨k, hk1, hk2, hK1, hK2⟩ := M.p
          have hkw : IntKind.i64.wrap ((k : Int) - 1) = (k : Int) - 1 := IntWalk.i64_in _ (by omega)
          have hkc : IntKind.u32.wrap ((k : Int) - 1) = (k : Int) - 1 := IntWalk.u32_in _ (by omega)
          refine (hK1 _).mono ?_
          rintro e _ ⟨rfl, rfl⟩
          go_wp2_with fail
          refine (M.m _).mono ?_
          rintro e we ⟨rfl, hgg⟩
          have gwe := Grows.trans gwd hgg
          have hEwe := hEwd.later hgg
          have hswe := hswd.later hgg
          clear hgg C0 C1 C2
          have C0 := hEwe.cell (k := 0) rfl
          have C1 := hEwe.cell (k := 1) rfl
          have C2 := hEwe.cell (k := 2) rfl
          go_wp2_with fail
          refine (hK2 _).mono ?_
          rintro e wf ⟨rfl, hgg⟩
          have gwf := Grows.trans gwe hgg
          have hEwf := hEwe.later hgg
          have hswf := hswe.later hgg
          clear hgg C0 C1 C2
          have C0 := hEwf.cell (k := 0) rfl
          have C1 := hEwf.cell (k := 1) rfl
          have C2 := hEwf.cell (k := 2) rfl
          go_wp2_with fail
          go_roundw
          case rel => exact ⟨.inr (.inl rfl), gwf⟩
          case measure => simp [intOf]
        | false =>
          have M := may_n hmz
          go_wp2_with fail
          refine (M.r _).mono ?_
          rintro e wa ⟨rfl, hgg⟩
          have gwa := Grows.trans gwr hgg
          have hEwa := hEwr.later hgg
          have hswa := hswr.later hgg
          clear hgg C0 C1 C2
          have C0 := hEwa.cell (k := 0) rfl
          have C1 := hEwa.cell (k := 1) rfl
          have C2 := hEwa.cell (k := 2) rfl
          go_wp2_with fail
          refine (M.n _).mono ?_
          rintro e wb ⟨rfl, hgg⟩
          have gwb := Grows.trans gwa hgg
          have hEwb := hEwa.later hgg
          have hswb := hswa.later hgg
          clear hgg C0 C1 C2
          have C0 := hEwb.cell (k := 0) rfl
          have C1 := hEwb.cell (k := 1) rfl
          have C2 := hEwb.cell (k := 2) rfl
          have hcb : ∀ u, (binOp .neq 28 (.pointer none) (.pointer none)).run Tryd.prog u = .ok (.bool false) u := fun u => by kernel_rfl
          obtain ⟨hab, gab⟩ := abc_marked wb
          have hcv := Lib.run_convert_bytes_const (P := Tryd.prog) wb 35 5 #[.int .u8 97, .int .u8 98, .int .u8 99] 3 3 Tryd.underlying35 Tryd.underlying5
          have hszb : (wb.alloc (.cells #[.int .u8 97, .int .u8 98, .int .u8 99] 5 (3, 4))).heap.size = wb.heap.size + 1 := by simp
          have hab' : Lies (wb.alloc (.cells #[.int .u8 97, .int .u8 98, .int .u8 99] 5 (3, 4))) (wb.alloc (.cells #[.int .u8 97, .int .u8 98, .int .u8 99] 5 (3, 4))).heap.size (some ⟨wb.heap.size, 0, none⟩) (([97, 98, 99] : List UInt8).map bv) := hab.mono (by rw [hszb]; exact Nat.le_refl _)
          have hEb := hEwb.later gab
          have B0 := hEb.cell (k := 0) rfl
          have B1 := hEb.cell (k := 1) rfl
          have B2 := hEb.cell (k := 2) rfl
          have hsb0 := hswb.later gab
          go_wp2_with fail
          clear hcv
          refine (M.s _ _).mono ?_
          rintro e wc ⟨rfl, hgg⟩
          have gwc := Grows.trans gwb (Grows.trans gab hgg)
          have hEwc := hEb.later hgg
          have hswc := hsb0.later hgg
          clear hgg C0 C1 C2 B0 B1 B2 hab hab' gab hEb hszb
          have C0 := hEwc.cell (k := 0) rfl
          have C1 := hEwc.cell (k := 1) rfl
          have C2 := hEwc.cell (k := 2) rfl
          go_wp2_with fail
          refine (M.i _).mono ?_
          rintro e wd ⟨rfl, hgg⟩
          have gwd := Grows.trans gwc hgg
          have hEwd := hEwc.later hgg
          have hswd := hswc.later hgg
          clear hgg C0 C1 C2
          have C0 := hEwd.cell (k := 0) rfl
          have C1 := hEwd.cell (k := 1) rfl
          have C2 := hEwd.cell (k := 2) rfl
          go_wp2_with fail
          refine (M.m _).mono ?_
          rintro e we ⟨rfl, hgg⟩
          have gwe := Grows.trans gwd hgg
          have hEwe := hEwd.later hgg
          have hswe := hswd.later hgg
          clear hgg C0 C1 C2
          have C0 := hEwe.cell (k := 0) rfl
          have C1 := hEwe.cell (k := 1) rfl
          have C2 := hEwe.cell (k := 2) rfl
          go_wp2_with fail
          refine (M.k _).mono ?_
          rintro e wf ⟨rfl, hgg⟩
          have gwf := Grows.trans gwe hgg
          have hEwf := hEwe.later hgg
          have hswf := hswe.later hgg
          clear hgg C0 C1 C2
          have C0 := hEwf.cell (k := 0) rfl
          have C1 := hEwf.cell (k := 1) rfl
          have C2 := hEwf.cell (k := 2) rfl
          obtain ⟨hab, gab⟩ := abc_marked wf
          have hcv := Lib.run_convert_bytes_const (P := Tryd.prog) wf 35 5 #[.int .u8 97, .int .u8 98, .int .u8 99] 3 3 Tryd.underlying35 Tryd.underlying5
          have hszb : (wf.alloc (.cells #[.int .u8 97, .int .u8 98, .int .u8 99] 5 (3, 4))).heap.size = wf.heap.size + 1 := by simp
          have hab' : Lies (wf.alloc (.cells #[.int .u8 97, .int .u8 98, .int .u8 99] 5 (3, 4))) (wf.alloc (.cells #[.int .u8 97, .int .u8 98, .int .u8 99] 5 (3, 4))).heap.size (some ⟨wf.heap.size, 0, none⟩) (([97, 98, 99] : List UInt8).map bv) := hab.mono (by rw [hszb]; exact Nat.le_refl _)
          have hEb := hEwf.later gab
          have B0 := hEb.cell (k := 0) rfl
          have B1 := hEb.cell (k := 1) rfl
          have B2 := hEb.cell (k := 2) rfl
          have hsb0 := hswf.later gab
          go_wp2_with fail
          clear hcv
          refine (M.c _ _ hab').mono ?_
          rintro e wg ⟨rfl, hgg⟩
          have gwg := Grows.trans gwf (Grows.trans gab hgg)
          clear hgg C0 C1 C2 B0 B1 B2 hab hab' gab hEb hszb
          go_wp2_with fail
          go_roundw
          case rel => exact ⟨.inr (.inl rfl), gwg⟩
          case measure => simp [intOf]
      · have C0 := hEwr.cell (k := 3) rfl
        have C1 := hEwr.cell (k := 4) rfl
        have C2 := hEwr.cell (k := 5) rfl
        have M := may_y (may_ok hp)
        go_wp2_with fail
        refine (M.r _).mono ?_
        rintro e wa ⟨rfl, hgg⟩
        have gwa := Grows.trans gwr hgg
        have hEwa := hEwr.later hgg
        have hswa := hswr.later hgg
        clear hgg C0 C1 C2
        have C0 := hEwa.cell (k := 3) rfl
        have C1 := hEwa.cell (k := 4) rfl
        have C2 := hEwa.cell (k := 5) rfl
        go_wp2_with fail
        refine (M.n _ hswa).mono ?_
        rintro e wb ⟨cb, rfl, hgg⟩
        have gwb := Grows.trans gwa hgg
        have hEwb := hEwa.later hgg
        have hswb := hswa.later hgg
        clear hgg C0 C1 C2
        have C0 := hEwb.cell (k := 3) rfl
        have C1 := hEwb.cell (k := 4) rfl
        have C2 := hEwb.cell (k := 5) rfl
        have hcb : ∀ u, (binOp .neq 28 (.pointer (some ⟨cb, 0, none⟩)) (.pointer none)).run Tryd.prog u = .ok (.bool true) u := fun u => by kernel_rfl
        obtain ⟨hab, gab⟩ := abc_marked wb
        have hcv := Lib.run_convert_bytes_const (P := Tryd.prog) wb 35 5 #[.int .u8 97, .int .u8 98, .int .u8 99] 3 3 Tryd.underlying35 Tryd.underlying5
        have hszb : (wb.alloc (.cells #[.int .u8 97, .int .u8 98, .int .u8 99] 5 (3, 4))).heap.size = wb.heap.size + 1 := by simp
        have hab' : Lies (wb.alloc (.cells #[.int .u8 97, .int .u8 98, .int .u8 99] 5 (3, 4))) (wb.alloc (.cells #[.int .u8 97, .int .u8 98, .int .u8 99] 5 (3, 4))).heap.size (some ⟨wb.heap.size, 0, none⟩) (([97, 98, 99] : List UInt8).map bv) := hab.mono (by rw [hszb]; exact Nat.le_refl _)
        have hEb := hEwb.later gab
        have B0 := hEb.cell (k := 3) rfl
        have B1 := hEb.cell (k := 4) rfl
        have B2 := hEb.cell (k := 5) rfl
        have hsb0 := hswb.later gab
        go_wp2_with fail
        clear hcv
        refine (M.s _ _ hsb0 hab').mono ?_
        rintro e wc ⟨v, rfl, hgg⟩
        have gwc := Grows.trans gwb (Grows.trans gab hgg)
        have hEwc := hEb.later hgg
        have hswc := hsb0.later hgg
        clear hgg C0 C1 C2 B0 B1 B2 hab hab' gab hEb hszb
        have C0 := hEwc.cell (k := 3) rfl
        have C1 := hEwc.cell (k := 4) rfl
        have C2 := hEwc.cell (k := 5) rfl
        go_wp2_with fail
        refine (M.i _ hswc).mono ?_
        rintro e wd ⟨rfl, hgg⟩
        have gwd := Grows.trans gwc hgg
        have hEwd := hEwc.later hgg
        have hswd := hswc.later hgg
        clear hgg C0 C1 C2
        have C0 := hEwd.cell (k := 3) rfl
        have C1 := hEwd.cell (k := 4) rfl
        have C2 := hEwd.cell (k := 5) rfl
        go_wp2_with fail
        obtain ⟨k, hk1, hk2, hK1, hK2⟩ := M.p
        have hkw : IntKind.i64.wrap ((k : Int) - 1) = (k : Int) - 1 := IntWalk.i64_in _ (by omega)
        have hkc : IntKind.u32.wrap ((k : Int) - 1) = (k : Int) - 1 := IntWalk.u32_in _ (by omega)
        refine (hK1 _).mono ?_
        rintro e _ ⟨rfl, rfl⟩
        go_wp2_with fail
        refine (M.m _).mono ?_
        rintro e we ⟨rfl, hgg⟩
        have gwe := Grows.trans gwd hgg
        have hEwe := hEwd.later hgg
        have hswe := hswd.later hgg
        clear hgg C0 C1 C2
        have C0 := hEwe.cell (k := 3) rfl
        have C1 := hEwe.cell (k := 4) rfl
        have C2 := hEwe.cell (k := 5) rfl
        go_wp2_with fail
        refine (hK2 _).mono ?_
        rintro e wf ⟨rfl, hgg⟩
        have gwf := Grows.trans gwe hgg
        have hEwf := hEwe.later hgg
        have hswf := hswe.later hgg
        clear hgg C0 C1 C2
        have C0 := hEwf.cell (k := 3) rfl
        have C1 := hEwf.cell (k := 4) rfl
        have C2 := hEwf.cell (k := 5) rfl
        go_wp2_with fail
        go_roundw
        case rel => exact ⟨.inr (.inr (.inl rfl)), gwf⟩
        case measure => simp [intOf]
      · have C0 := hEwr.cell (k := 6) rfl
        have C1 := hEwr.cell (k := 7) rfl
        have C2 := hEwr.cell (k := 8) rfl
        cases hmz : mayZ (p.mn : Int) (p.av : Int) m with
        | true =>
          have M := may_y hmz
          go_wp2_with fail
          refine (M.r _).mono ?_
          rintro e wa ⟨rfl, hgg⟩
          have gwa := Grows.trans gwr hgg
          have hEwa := hEwr.later hgg
          have hswa := hswr.later hgg
          clear hgg C0 C1 C2
          have C0 := hEwa.cell (k := 6) rfl
          have C1 := hEwa.cell (k := 7) rfl
          have C2 := hEwa.cell (k := 8) rfl
          go_wp2_with fail
          refine (M.n _ hswa).mono ?_
          rintro e wb ⟨cb, rfl, hgg⟩
          have gwb := Grows.trans gwa hgg
          have hEwb := hEwa.later hgg
          have hswb := hswa.later hgg
          clear hgg C0 C1 C2
          have C0 := hEwb.cell (k := 6) rfl
          have C1 := hEwb.cell (k := 7) rfl
          have C2 := hEwb.cell (k := 8) rfl
          have hcb : ∀ u, (binOp .neq 28 (.pointer (some ⟨cb, 0, none⟩)) (.pointer none)).run Tryd.prog u = .ok (.bool true) u := fun u => by kernel_rfl
          obtain ⟨hab, gab⟩ := abc_marked wb
          have hcv := Lib.run_convert_bytes_const (P := Tryd.prog) wb 35 5 #[.int .u8 97, .int .u8 98, .int .u8 99] 3 3 Tryd.underlying35 Tryd.underlying5
          have hszb : (wb.alloc (.cells #[.int .u8 97, .int .u8 98, .int .u8 99] 5 (3, 4))).heap.size = wb.heap.size + 1 := by simp
          have hab' : Lies (wb.alloc (.cells #[.int .u8 97, .int .u8 98, .int .u8 99] 5 (3, 4))) (wb.alloc (.cells #[.int .u8 97, .int .u8 98, .int .u8 99] 5 (3, 4))).heap.size (some ⟨wb.heap.size, 0, none⟩) (([97, 98, 99] : List UInt8).map bv) := hab.mono (by rw [hszb]; exact Nat.le_refl _)
          have hEb := hEwb.later gab
          have B0 := hEb.cell (k := 6) rfl
          have B1 := hEb.cell (k := 7) rfl
          have B2 := hEb.cell (k := 8) rfl
          have hsb0 := hswb.later gab
          go_wp2_with fail
          clear hcv
          refine (M.s _ _ hsb0 hab').mono ?_
          rintro e wc ⟨v, rfl, hgg⟩
          have gwc := Grows.trans gwb (Grows.trans gab hgg)
          have hEwc := hEb.later hgg
          have hswc := hsb0.later hgg
          clear hgg C0 C1 C2 B0 B1 B2 hab hab' gab hEb hszb
          have C0 := hEwc.cell (k := 6) rfl
          have C1 := hEwc.cell (k := 7) rfl
          have C2 := hEwc.cell (k := 8) rfl
          go_wp2_with fail
          refine (M.i _ hswc).mono ?_
          rintro e wd ⟨rfl, hgg⟩
          have gwd := Grows.trans gwc hgg
          have hEwd := hEwc.later hgg
          have hswd := hswc.later hgg
          clear hgg C0 C1 C2
          have C0 := hEwd.cell (k := 6) rfl
          have C1 := hEwd.cell (k := 7) rfl
          have C2 := hEwd.cell (k := 8) rfl
          go_wp2_with fail
          obtain ⟨k, hk1, hk2, hK1, hK2⟩ := M.p
          have hkw : IntKind.i64.wrap ((k : Int) - 1) = (k : Int) - 1 := IntWalk.i64_in _ (by omega)
          have hkc : IntKind.u32.wrap ((k : Int) - 1) = (k : Int) - 1 := IntWalk.u32_in _ (by omega)
          refine (hK1 _).mono ?_
          rintro e _ ⟨rfl, rfl⟩
          go_wp2_with fail
          refine (M.m _).mono ?_
          rintro e we ⟨rfl, hgg⟩
          have gwe := Grows.trans gwd hgg
          have hEwe := hEwd.later hgg
          have hswe := hswd.later hgg
          clear hgg C0 C1 C2
          have C0 := hEwe.cell (k := 6) rfl
          have C1 := hEwe.cell (k := 7) rfl
          have C2 := hEwe.cell (k := 8) rfl
          go_wp2_with fail
          refine (hK2 _).mono ?_
          rintro e wf ⟨rfl, hgg⟩
          have gwf := Grows.trans gwe hgg
          have hEwf := hEwe.later hgg
          have hswf := hswe.later hgg
          clear hgg C0 C1 C2
          have C0 := hEwf.cell (k := 6) rfl
          have C1 := hEwf.cell (k := 7) rfl
          have C2 := hEwf.cell (k := 8) rfl
          go_wp2_with fail
          go_roundw
          case rel => exact ⟨.inr (.inr (.inr rfl)), gwf⟩
          case measure => simp [intOf]
        | false =>
          have M := may_n hmz
          go_wp2_with fail
          refine (M.r _).mono ?_
          rintro e wa ⟨rfl, hgg⟩
          have gwa := Grows.trans gwr hgg
          have hEwa := hEwr.later hgg
          have hswa := hswr.later hgg
          clear hgg C0 C1 C2
          have C0 := hEwa.cell (k := 6) rfl
          have C1 := hEwa.cell (k := 7) rfl
          have C2 := hEwa.cell (k := 8) rfl
          go_wp2_with fail
          refine (M.n _).mono ?_
          rintro e wb ⟨rfl, hgg⟩
          have gwb := Grows.trans gwa hgg
          have hEwb := hEwa.later hgg
          have hswb := hswa.later hgg
          clear hgg C0 C1 C2
          have C0 := hEwb.cell (k := 6) rfl
          have C1 := hEwb.cell (k := 7) rfl
          have C2 := hEwb.cell (k := 8) rfl
          have hcb : ∀ u, (binOp .neq 28 (.pointer none) (.pointer none)).run Tryd.prog u = .ok (.bool false) u := fun u => by kernel_rfl
          obtain ⟨hab, gab⟩ := abc_marked wb
          have hcv := Lib.run_convert_bytes_const (P := Tryd.prog) wb 35 5 #[.int .u8 97, .int .u8 98, .int .u8 99] 3 3 Tryd.underlying35 Tryd.underlying5
          have hszb : (wb.alloc (.cells #[.int .u8 97, .int .u8 98, .int .u8 99] 5 (3, 4))).heap.size = wb.heap.size + 1 := by simp
          have hab' : Lies (wb.alloc (.cells #[.int .u8 97, .int .u8 98, .int .u8 99] 5 (3, 4))) (wb.alloc (.cells #[.int .u8 97, .int .u8 98, .int .u8 99] 5 (3, 4))).heap.size (some ⟨wb.heap.size, 0, none⟩) (([97, 98, 99] : List UInt8).map bv) := hab.mono (by rw [hszb]; exact Nat.le_refl _)
          have hEb := hEwb.later gab
          have B0 := hEb.cell (k := 6) rfl
          have B1 := hEb.cell (k := 7) rfl
          have B2 := hEb.cell (k := 8) rfl
          have hsb0 := hswb.later gab
          go_wp2_with fail
          clear hcv
          refine (M.s _ _).mono ?_
          rintro e wc ⟨rfl, hgg⟩
          have gwc := Grows.trans gwb (Grows.trans gab hgg)
          have hEwc := hEb.later hgg
          have hswc := hsb0.later hgg
          clear hgg C0 C1 C2 B0 B1 B2 hab hab' gab hEb hszb
          have C0 := hEwc.cell (k := 6) rfl
          have C1 := hEwc.cell (k := 7) rfl
          have C2 := hEwc.cell (k := 8) rfl
          go_wp2_with fail
          refine (M.i _).mono ?_
          rintro e wd ⟨rfl, hgg⟩
          have gwd := Grows.trans gwc hgg
          have hEwd := hEwc.later hgg
          have hswd := hswc.later hgg
          clear hgg C0 C1 C2
          have C0 := hEwd.cell (k := 6) rfl
          have C1 := hEwd.cell (k := 7) rfl
          have C2 := hEwd.cell (k := 8) rfl
          go_wp2_with fail
          refine (M.m _).mono ?_
          rintro e we ⟨rfl, hgg⟩
          have gwe := Grows.trans gwd hgg
          have hEwe := hEwd.later hgg
          have hswe := hswd.later hgg
          clear hgg C0 C1 C2
          have C0 := hEwe.cell (k := 6) rfl
          have C1 := hEwe.cell (k := 7) rfl
          have C2 := hEwe.cell (k := 8) rfl
          go_wp2_with fail
          refine (M.k _).mono ?_
          rintro e wf ⟨rfl, hgg⟩
          have gwf := Grows.trans gwe hgg
          have hEwf := hEwe.later hgg
          have hswf := hswe.later hgg
          clear hgg C0 C1 C2
          have C0 := hEwf.cell (k := 6) rfl
          have C1 := hEwf.cell (k := 7) rfl
          have C2 := hEwf.cell (k := 8) rfl
          obtain ⟨hab, gab⟩ := abc_marked wf
          have hcv := Lib.run_convert_bytes_const (P := Tryd.prog) wf 35 5 #[.int .u8 97, .int .u8 98, .int .u8 99] 3 3 Tryd.underlying35 Tryd.underlying5
          have hszb : (wf.alloc (.cells #[.int .u8 97, .int .u8 98, .int .u8 99] 5 (3, 4))).heap.size = wf.heap.size + 1 := by simp
          have hab' : Lies (wf.alloc (.cells #[.int .u8 97, .int .u8 98, .int .u8 99] 5 (3, 4))) (wf.alloc (.cells #[.int .u8 97, .int .u8 98, .int .u8 99] 5 (3, 4))).heap.size (some ⟨wf.heap.size, 0, none⟩) (([97, 98, 99] : List UInt8).map bv) := hab.mono (by rw [hszb]; exact Nat.le_refl _)
          have hEb := hEwf.later gab
          have B0 := hEb.cell (k := 6) rfl
          have B1 := hEb.cell (k := 7) rfl
          have B2 := hEb.cell (k := 8) rfl
          have hsb0 := hswf.later gab
          go_wp2_with fail
          clear hcv
          refine (M.c _ _ hab').mono ?_
          rintro e wg ⟨rfl, hgg⟩
          have gwg := Grows.trans gwf (Grows.trans gab hgg)
          clear hgg C0 C1 C2 B0 B1 B2 hab hab' gab hEb hszb
          go_wp2_with fail
          go_roundw
          case rel => exact ⟨.inr (.inr (.inr rfl)), gwg⟩
          case measure => simp [intOf]
      · have LV := Lib.hid (lives10_any wr hswr)
        go_wp2_with fail
        refine LV.out.mono ?_
        rintro e w11 ⟨rfl, hg11⟩
        go_wp2_with fail
        go_ret
        exact ⟨rfl, Grows.trans gw6 (Grows.trans gwr hg11)⟩
end Go.Proofs.YtkgkkobdpgnicaaDoor
