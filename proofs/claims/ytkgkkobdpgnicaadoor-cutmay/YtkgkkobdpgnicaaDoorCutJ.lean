/-
  Contracts of cut.New, (*Cutter).takeRest, (*Cutter).Write, (*Cutter).End.
-/
import Derived.Test.YtkgkkobdpgnicaaDoorCutQ
namespace Go.Proofs.YtkgkkobdpgnicaaDoor
open Go.RowKit
set_option linter.unusedVariables false

/-- A cutter in block cb: its knife, and what stands behind the last cut, in a row v of its own. -/
structure Cutr (w : World) (cb kb rb : Nat) (p : Prm) (v : Value) (rest : List UInt8) : Prop where
  has : Has w cb [.pointer (some ⟨kb, 0, none⟩), v]
  knife : Knife w kb rb p rest
  row : w.ownsRow 0 5 1 v rest.length (rest.map bv)
  ck : cb ≠ kb
  cr : cb ≠ rb
  cs : cb ≠ 0
  apart : ∀ g, v.ownBlock = some g → g ≠ cb ∧ g ≠ kb ∧ g ≠ rb ∧ g ≠ 0
  opn : (scan p [] rest).2 = false
/-- What a cutter may turn. -/
def CutS (cb kb rb : Nat) (v : Value) (k : Nat) : Prop := k = cb ∨ k = kb ∨ k = rb ∨ v.ownBlock = some k
theorem Cutr.turned {w w' : World} {cb kb rb : Nat} {p : Prm} {v : Value} {rest : List UInt8} {S : Nat → Prop} (h : Cutr w cb kb rb p v rest) (ht : Turns S w w') (hS : ∀ k, CutS cb kb rb v k → ¬ S k) : Cutr w' cb kb rb p v rest :=
  ⟨h.has.turned ht (hS _ (.inl rfl)), h.knife.turned ht (hS _ (.inr (.inl rfl))) (hS _ (.inr (.inr (.inl rfl)))), own_turned h.row ht (fun g hg => hS g (.inr (.inr (.inr hg)))), h.ck, h.cr, h.cs, h.apart, h.opn⟩
theorem Cutr.later {w w' : World} {cb kb rb : Nat} {p : Prm} {v : Value} {rest : List UInt8} (h : Cutr w cb kb rb p v rest) (hg : Grows w w') : Cutr w' cb kb rb p v rest :=
  ⟨h.has.later hg, h.knife.later hg, own_later h.row hg, h.ck, h.cr, h.cs, h.apart, h.opn⟩
theorem Cutr.lt {w : World} {cb kb rb : Nat} {p : Prm} {v : Value} {rest : List UInt8} (h : Cutr w cb kb rb p v rest) : ∀ k, CutS cb kb rb v k → k < w.heap.size := by
  rintro k (rfl | rfl | rfl | h1)
  · exact h.has.lt
  · exact h.knife.has.lt
  · exact h.knife.roll.lt
  · exact own_lt h.row k h1

theorem newcut_any (p : Prm) (w : World) (hp : p.Ok) (hs : Starts w) :
    Calls Tryd.prog 12 #[pv p] w fun e w' => ∃ cb kb rb, e = .returned (.tuple #[.pointer (some ⟨cb, 0, none⟩), .int .i64 0]) ∧ Cutr w' cb kb rb p (.slice none 0 0) [] ∧ w.heap.size ≤ cb ∧ w.heap.size ≤ kb ∧ w.heap.size ≤ rb ∧ Grows w w' := by
  have hz := hs.pos
  have M0 : Hid (∀ u, Calls Tryd.prog 16 #[.agg #[.int .i64 p.mn, .int .i64 p.av, .int .i64 p.mx]] u fun e w' => e = .returned (.bool true) ∧ Grows u w') := fun u => by
    have := may_any p.mn p.av p.mx u
    rwa [may_ok hp] at this
  have NK := Lib.hid (fun u (h : Starts u) => newknife_any p u hp h)
  have hb0 := Has.new w 23 [.int .i64 (p.mn : Int), .int .i64 (p.av : Int), .int .i64 (p.mx : Int)]
  have hg0 := grows_alloc w (.cells [.int .i64 (p.mn : Int), .int .i64 (p.av : Int), .int .i64 (p.mx : Int)].toArray 23)
  have hpv : pv p = .agg #[.int .i64 p.mn, .int .i64 p.av, .int .i64 p.mx] := rfl
  rw [hpv] at *
  have P0 := hb0.cell (k := 0) rfl
  have P1 := hb0.cell (k := 1) rfl
  have P2 := hb0.cell (k := 2) rfl
  go_enter Tryd.func12, Tryd.ntmps12
  go_wp2_with fail
  refine (M0.out _).mono ?_
  rintro e w1 ⟨rfl, hg1⟩
  have hb1 := hb0.later hg1
  have hgw1 := Grows.trans hg0 hg1
  clear P0 P1 P2
  have P0 := hb1.cell (k := 0) rfl
  have P1 := hb1.cell (k := 1) rfl
  have P2 := hb1.cell (k := 2) rfl
  go_wp2_with fail
  refine (NK.out _ (hs.later hgw1)).mono ?_
  rintro e w2 ⟨kb, rb, rfl, hkb, hrb, K2, hg2⟩
  have hgw2 := Grows.trans hgw1 hg2
  have h3 := Has.new w2 62 [.pointer (some ⟨kb, 0, none⟩), .slice none 0 0]
  have g3 := grows_alloc w2 (.cells [.pointer (some ⟨kb, 0, none⟩), .slice none 0 0].toArray 62)
  have K3 := K2.later g3
  have hk2 := K2.has.lt
  have hr2 := K2.roll.lt
  have hsz := hgw2.size
  have hsz1 := hgw1.size
  go_wp2_with fail
  go_ret2
  exact ⟨w2.heap.size, kb, rb, rfl, ⟨h3, K3, World.ownsRow_nil _ _ _ _, by omega, by omega, by omega, fun g hg => by simp [Value.ownBlock] at hg, rfl⟩, hsz, Nat.le_trans hsz1 hkb, Nat.le_trans hsz1 hrb, Grows.trans hgw2 g3⟩

theorem takerest_any (cb kb : Nat) (v : Value) (w : World) (hb : Has w cb [.pointer (some ⟨kb, 0, none⟩), v]) :
    Calls Tryd.prog 37 #[.pointer (some ⟨cb, 0, none⟩)] w fun e w' => e = .returned v ∧ Has w' cb [.pointer (some ⟨kb, 0, none⟩), .slice none 0 0] ∧ Turns (fun k => k = cb) w w' := by
  have hc := hb.cell (k := 1) rfl
  have hf := hb.free 1
  have h2 := hb.set_ (k := 1) (by simp) (.slice none 0 0)
  have t2 := Turns.of_set (S := fun k => k = cb) (b := cb) (o := 1) w (.slice none 0 0) rfl
  go_enter Tryd.func37, Tryd.ntmps37
  go_wp2_with fail
  go_ret
  exact ⟨rfl, h2, t2⟩
theorem end_any (cb kb rb : Nat) (p : Prm) (v : Value) (rest : List UInt8) (w : World) (K : Cutr w cb kb rb p v rest) :
    Calls Tryd.prog 26 #[.pointer (some ⟨cb, 0, none⟩)] w fun e w' => e = .returned v ∧ Cutr w' cb kb rb p (.slice none 0 0) [] ∧ w'.ownsRow 0 5 1 v rest.length (rest.map bv) ∧ Turns (fun k => k = cb ∨ k = kb ∨ k = rb) w w' := by
  have hc := K.has.cell (k := 0) rfl
  have LF := Lib.hid (lift_any kb rb p rest w K.knife)
  go_enter Tryd.func26, Tryd.ntmps26
  go_wp2_with fail
  refine LF.out.mono ?_
  rintro e w1 ⟨rfl, K1, T1⟩
  have hb1 := K.has.turned T1 (fun h => h.elim K.ck K.cr)
  have TR := Lib.hid (takerest_any cb kb v w1 hb1)
  go_wp2_with fail
  refine TR.out.mono ?_
  rintro e w2 ⟨rfl, hb2, T2⟩
  have K2 := K1.turned T2 (fun h => K.ck h.symm) (fun h => K.cr h.symm)
  have T3 : Turns (fun k => k = cb ∨ k = kb ∨ k = rb) w w2 := (T1.mono fun k _ h => .inr h).trans (T2.mono fun k _ h => .inl h)
  have hrow := own_turned K.row T3 (fun g hg h => by have := K.apart g hg; omega)
  go_wp2_with fail
  go_ret
  exact ⟨rfl, ⟨hb2, K2, World.ownsRow_nil _ _ _ _, K.ck, K.cr, K.cs, fun g hg => by simp [Value.ownBlock] at hg, rfl⟩, hrow, T3⟩
end Go.Proofs.YtkgkkobdpgnicaaDoor
