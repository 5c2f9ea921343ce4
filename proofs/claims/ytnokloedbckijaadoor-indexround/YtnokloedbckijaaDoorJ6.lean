/-
  Contracts, joined (IxS IxT IxU CutW IxL IxO).
-/
import Derived.Test.YtnokloedbckijaaDoorJ5
import Derived.BigGuard
import Derived.Test.YtnokloedbckijaaDoorJ3
import Derived.Test.YtnokloedbckijaaDoorJ4

/-
  Two indexes compared: index.Same and the reference's.
-/
namespace Go.Proofs.YtnokloedbckijaaDoor
open Go.RowKit
set_option linter.unusedVariables false
set_option maxRecDepth 20000

abbrev pagg (a b c : Int) : Value := .agg #[.int .i64 a, .int .i64 b, .int .i64 c]
def sameP (x y : Ixd) : Bool := x.a == y.a && x.b == y.b && x.c == y.c
def sameX (x y : Ixd) : Bool := sameP x y && (x.im == y.im && x.its == y.its)
theorem sameX_iff {x y : Ixd} : sameX x y = true ↔ x = y := by
  obtain ⟨a, b, c, i, l⟩ := x
  obtain ⟨a', b', c', i', l'⟩ := y
  simp only [sameX, sameP, Bool.and_eq_true, beq_iff_eq, Ixd.mk.injEq]
  constructor
  · rintro ⟨⟨⟨h1, h2⟩, h3⟩, h4, h5⟩; exact ⟨h1, h2, h3, h4, h5⟩
  · rintro ⟨h1, h2, h3, h4, h5⟩; exact ⟨⟨⟨h1, h2⟩, h3⟩, h4, h5⟩
theorem params_eq (a b c a' b' c' : Int) (u : World) : (binOp .eql 24 (pagg a b c) (pagg a' b' c')).run Tryd.prog u = .ok (.bool (a == a' && b == b' && c == c')) u := by
  have hf : (Tryd.prog.fieldsOf 24).toList.map (fun f => (f.name, f.type, f.offset)) = [("Min", 3, 0), ("Avg", 3, 1), ("Max", 3, 2)] := by kernel_rfl
  have h : (Op.equalIn 10000 24 (pagg a b c) (pagg a' b' c')).run Tryd.prog u = .ok (a == a' && b == b' && c == c') u := by
    rw [run_equalIn_struct u 9999 24 _ _ (by kernel_rfl) (by kernel_rfl)]
    generalize (Tryd.prog.fieldsOf 24).toList = fs at *
    rcases fs with _ | ⟨f0, _ | ⟨f1, _ | ⟨f2, _ | ⟨f3, fs⟩⟩⟩⟩
    · simp at hf
    · simp at hf
    · simp at hf
    · simp only [List.map_cons, List.map_nil, List.cons.injEq, Prod.mk.injEq, and_true] at hf
      obtain ⟨⟨a1, a2, a3⟩, ⟨b1, b2, b3⟩, c1, c2, c3⟩ := hf
      have p1 : ∀ x y z : Int, (part 3 #[.int .i64 x, .int .i64 y, .int .i64 z] 0).run Tryd.prog u = .ok (.int .i64 x) u := fun x y z => by kernel_rfl
      have p2 : ∀ x y z : Int, (part 3 #[.int .i64 x, .int .i64 y, .int .i64 z] 1).run Tryd.prog u = .ok (.int .i64 y) u := fun x y z => by kernel_rfl
      have p3 : ∀ x y z : Int, (part 3 #[.int .i64 x, .int .i64 y, .int .i64 z] 2).run Tryd.prog u = .ok (.int .i64 z) u := fun x y z => by kernel_rfl
      have e : ∀ x y : Int, (Op.equalIn 9999 3 (.int .i64 x) (.int .i64 y)).run Tryd.prog u = .ok (x == y) u := fun x y => run_equalIn_int (P := Tryd.prog) u 9998 3 .i64 .i64 x y Tryd.underlying3
      simp only [Op.eqFields, a1, a2, a3, b1, b2, b3, c1, c2, c3, ne_eq, show ¬ ("Min" = "_") from by decide, show ¬ ("Avg" = "_") from by decide, show ¬ ("Max" = "_") from by decide, not_false_eq_true, if_true, Sem.run_bind, p1, p2, p3, Result.andThen_ok, e, Sem.run_ite]
      cases (a == a') <;> cases (b == b') <;> cases (c == c') <;> simp [Sem.run_pure]
    · simp at hf
  simp only [binOp]
  simp [Op.equal, Op.maxDepth, h]
theorem image_eq (la lb : List UInt8) (ha : la.length = 32) (hb : lb.length = 32) (u : World) : (binOp .eql 42 (dv la) (dv lb)).run Tryd.prog u = .ok (.bool (la == lb)) u :=
  run_eql_bytes u (t := 42) (e := 5) (n := 32) Tryd.underlying42 Tryd.underlying5 (by kernel_rfl) la lb ha hb
theorem img_load {x : Ixd} {A : Option Addr} {c b : Nat} {u : World} (h : Has u b (xcells x A c)) (hx : x.im.length = 32) : (Instr.loadAt 42 (.pointer (some ⟨b, 3, none⟩))).run Tryd.prog u = .ok (dv x.im) u :=
  range_load (o := 3) (fun j u h' => h.cell (xc_img A c h')) Tryd.underlying42 rfl (by rw [List.length_map, hx]; exact dig_size2)

set_option maxHeartbeats 4000000 in
theorem same_any11 (x y : Ixd) (A B : Option Addr) (c d : Nat) (w : World) (hx : x.Ok) (hy : y.Ok) (hI : Recs w A 33 (x.its.map icells)) (hJ : Recs w B 33 (y.its.map icells)) (hn : x.its.length ≤ maxLen) (hm : y.its.length ≤ maxLen) :
    Calls Tryd.prog 41 #[xval x A c, xval y B d] w fun e w' => e = .returned (.bool (sameX x y)) ∧ Grows w w' := by
  have hb := Has.new w 44 (xcells x A c)
  have g1 := grows_alloc w (.cells (xcells x A c).toArray 44)
  have hd := Has.new (w.alloc (.cells (xcells x A c).toArray 44)) 44 (xcells y B d)
  have g2 := grows_alloc (w.alloc (.cells (xcells x A c).toArray 44)) (.cells (xcells y B d).toArray 44)
  rw [World.size_alloc] at hd
  have hb2 := hb.later g2
  have hg := Grows.trans g1 g2
  have hI2 := hI.later hg
  have hJ2 := hJ.later hg
  have li1 := img_load hb2 hx.im
  have li2 := img_load hd hy.im
  have P0 := hb2.cell (k := 0) rfl
  have P1 := hb2.cell (k := 1) rfl
  have P2 := hb2.cell (k := 2) rfl
  have P35 := hb2.cell (xc_its hx.im A c)
  have R0 := hd.cell (k := 0) rfl
  have R1 := hd.cell (k := 1) rfl
  have R2 := hd.cell (k := 2) rfl
  have R35 := hd.cell (xc_its hy.im B d)
  have pe := fun u => params_eq x.a x.b x.c y.a y.b y.c u
  have ie := fun u => image_eq x.im y.im hx.im hy.im u
  have EQ := Lib.hid (fun u (h1 : Recs u A 33 (x.its.map icells)) (h2 : Recs u B 33 (y.its.map icells)) => eqitems_any A _ c x.its B _ d y.its u rfl rfl hn hm (fun it hi => (hx.its it hi).1) (fun it hi => (hy.its it hi).1) h1 h2)
  have hs : sameX x y = ((x.a == y.a && x.b == y.b && x.c == y.c) && (x.im == y.im && x.its == y.its)) := rfl
  rw [hs]
  unfold pagg at pe
  unfold xval at *
  clear hb g1 g2 hI hJ hs
  generalize xcells x A c = vs at *
  generalize xcells y B d = us at *
  generalize (x.a == y.a && x.b == y.b && x.c == y.c) = q1 at *
  generalize (x.im == y.im) = q2 at *
  generalize (x.its == y.its) = q3 at *
  cases q1 <;> cases q2
  · go_enter Tryd.func41, Tryd.ntmps41
    go_wp2_with (first | go_big_skip | (change wpList _ _ _ _ _ ((w.alloc (.cells vs.toArray 44)).alloc (.cells us.toArray 44)); generalize (w.alloc (.cells vs.toArray 44)).alloc (.cells us.toArray 44) = w2 at *) | (with_reducible refine wpList_loadg rfl 42 (.tmp 11) rfl _ rfl _ li1 ?_) | (with_reducible refine wpList_loadg rfl 42 (.tmp 13) rfl _ rfl _ li2 ?_))
    go_ret
    exact ⟨by simp, hg⟩
  · go_enter Tryd.func41, Tryd.ntmps41
    go_wp2_with (first | go_big_skip | (change wpList _ _ _ _ _ ((w.alloc (.cells vs.toArray 44)).alloc (.cells us.toArray 44)); generalize (w.alloc (.cells vs.toArray 44)).alloc (.cells us.toArray 44) = w2 at *) | (with_reducible refine wpList_loadg rfl 42 (.tmp 11) rfl _ rfl _ li1 ?_) | (with_reducible refine wpList_loadg rfl 42 (.tmp 13) rfl _ rfl _ li2 ?_))
    go_ret
    exact ⟨by simp, hg⟩
  · go_enter Tryd.func41, Tryd.ntmps41
    go_wp2_with (first | go_big_skip | (change wpList _ _ _ _ _ ((w.alloc (.cells vs.toArray 44)).alloc (.cells us.toArray 44)); generalize (w.alloc (.cells vs.toArray 44)).alloc (.cells us.toArray 44) = w2 at *) | (with_reducible refine wpList_loadg rfl 42 (.tmp 11) rfl _ rfl _ li1 ?_) | (with_reducible refine wpList_loadg rfl 42 (.tmp 13) rfl _ rfl _ li2 ?_))
    go_ret
    exact ⟨by simp, hg⟩
  · go_enter Tryd.func41, Tryd.ntmps41
    go_wp2_with (first | go_big_skip | (change wpList _ _ _ _ _ ((w.alloc (.cells vs.toArray 44)).alloc (.cells us.toArray 44)); generalize (w.alloc (.cells vs.toArray 44)).alloc (.cells us.toArray 44) = w2 at *) | (with_reducible refine wpList_loadg rfl 42 (.tmp 11) rfl _ rfl _ li1 ?_) | (with_reducible refine wpList_loadg rfl 42 (.tmp 13) rfl _ rfl _ li2 ?_))
    refine (EQ.out w2 hI2 hJ2).mono ?_
    rintro e w3 ⟨rfl, hg3⟩
    go_wp2_with fail
    go_ret
    exact ⟨by simp, Grows.trans hg hg3⟩

set_option maxHeartbeats 4000000 in
theorem rsame_any11 (x y : Ixd) (A B : Option Addr) (c d : Nat) (w : World) (hx : x.Ok) (hy : y.Ok) (hI : Recs w A 33 (x.its.map icells)) (hJ : Recs w B 33 (y.its.map icells)) (hn : x.its.length ≤ maxLen) (hm : y.its.length ≤ maxLen) :
    Calls Tryd.prog 22 #[xval x A c, xval y B d] w fun e w' => e = .returned (.bool (sameX x y)) ∧ Grows w w' := by
  have hb := Has.new w 49 (xcells x A c)
  have g1 := grows_alloc w (.cells (xcells x A c).toArray 49)
  have hd := Has.new (w.alloc (.cells (xcells x A c).toArray 49)) 49 (xcells y B d)
  have g2 := grows_alloc (w.alloc (.cells (xcells x A c).toArray 49)) (.cells (xcells y B d).toArray 49)
  rw [World.size_alloc] at hd
  have hb2 := hb.later g2
  have hg := Grows.trans g1 g2
  have hI2 := hI.later hg
  have hJ2 := hJ.later hg
  have LI1 := fun u (h : Has u w.heap.size (xcells x A c)) => img_load h hx.im
  have LI2 := fun u (h : Has u (w.heap.size + 1) (xcells y B d)) => img_load h hy.im
  have P0 := hb2.cell (k := 0) rfl
  have P1 := hb2.cell (k := 1) rfl
  have P2 := hb2.cell (k := 2) rfl
  have P35 := hb2.cell (xc_its hx.im A c)
  have R0 := hd.cell (k := 0) rfl
  have R1 := hd.cell (k := 1) rfl
  have R2 := hd.cell (k := 2) rfl
  have R35 := hd.cell (xc_its hy.im B d)
  have pe := fun u => params_eq x.a x.b x.c y.a y.b y.c u
  have ie := fun u => image_eq x.im y.im hx.im hy.im u
  have EQ := Lib.hid (fun u (h1 : Recs u A 33 (x.its.map icells)) (h2 : Recs u B 33 (y.its.map icells)) => rsameitems_any A _ c x.its B _ d y.its u rfl rfl hn hm (fun it hi => (hx.its it hi).1) (fun it hi => (hy.its it hi).1) h1 h2)
  have hs : sameX x y = ((x.a == y.a && x.b == y.b && x.c == y.c) && (x.im == y.im && x.its == y.its)) := rfl
  rw [hs]
  unfold pagg at pe
  unfold xval at *
  clear hb g1 g2 hI hJ hs
  generalize xcells x A c = vs at *
  generalize xcells y B d = us at *
  generalize (x.a == y.a && x.b == y.b && x.c == y.c) = q1 at *
  generalize (x.im == y.im) = q2 at *
  generalize (x.its == y.its) = q3 at *
  cases q1 <;> cases q2
  · cases q3 <;>
    (go_enter Tryd.func22, Tryd.ntmps22
     go_wp2_with (first | go_big_skip | (change wpList _ _ _ _ _ ((w.alloc (.cells vs.toArray 49)).alloc (.cells us.toArray 49)); generalize (w.alloc (.cells vs.toArray 49)).alloc (.cells us.toArray 49) = w2 at *))
     refine (EQ.out w2 hI2 hJ2).mono ?_
     rintro e w3 ⟨rfl, hg3⟩
     replace P0 := hcell_later P0 hg3
     replace P1 := hcell_later P1 hg3
     replace P2 := hcell_later P2 hg3
     replace R0 := hcell_later R0 hg3
     replace R1 := hcell_later R1 hg3
     replace R2 := hcell_later R2 hg3
     have li1' := LI1 w3 (hb2.later hg3)
     have li2' := LI2 w3 (hd.later hg3)
     go_wp2_with (first | go_big_skip | (with_reducible refine wpList_loadg rfl 42 (.tmp 20) rfl _ rfl _ li1' ?_) | (with_reducible refine wpList_loadg rfl 42 (.tmp 22) rfl _ rfl _ li2' ?_))
     go_ret
     exact ⟨by simp, Grows.trans hg hg3⟩)
  · cases q3 <;>
    (go_enter Tryd.func22, Tryd.ntmps22
     go_wp2_with (first | go_big_skip | (change wpList _ _ _ _ _ ((w.alloc (.cells vs.toArray 49)).alloc (.cells us.toArray 49)); generalize (w.alloc (.cells vs.toArray 49)).alloc (.cells us.toArray 49) = w2 at *))
     refine (EQ.out w2 hI2 hJ2).mono ?_
     rintro e w3 ⟨rfl, hg3⟩
     replace P0 := hcell_later P0 hg3
     replace P1 := hcell_later P1 hg3
     replace P2 := hcell_later P2 hg3
     replace R0 := hcell_later R0 hg3
     replace R1 := hcell_later R1 hg3
     replace R2 := hcell_later R2 hg3
     have li1' := LI1 w3 (hb2.later hg3)
     have li2' := LI2 w3 (hd.later hg3)
     go_wp2_with (first | go_big_skip | (with_reducible refine wpList_loadg rfl 42 (.tmp 20) rfl _ rfl _ li1' ?_) | (with_reducible refine wpList_loadg rfl 42 (.tmp 22) rfl _ rfl _ li2' ?_))
     go_ret
     exact ⟨by simp, Grows.trans hg hg3⟩)
  · cases q3 <;>
    (go_enter Tryd.func22, Tryd.ntmps22
     go_wp2_with (first | go_big_skip | (change wpList _ _ _ _ _ ((w.alloc (.cells vs.toArray 49)).alloc (.cells us.toArray 49)); generalize (w.alloc (.cells vs.toArray 49)).alloc (.cells us.toArray 49) = w2 at *))
     refine (EQ.out w2 hI2 hJ2).mono ?_
     rintro e w3 ⟨rfl, hg3⟩
     replace P0 := hcell_later P0 hg3
     replace P1 := hcell_later P1 hg3
     replace P2 := hcell_later P2 hg3
     replace R0 := hcell_later R0 hg3
     replace R1 := hcell_later R1 hg3
     replace R2 := hcell_later R2 hg3
     have li1' := LI1 w3 (hb2.later hg3)
     have li2' := LI2 w3 (hd.later hg3)
     go_wp2_with (first | go_big_skip | (with_reducible refine wpList_loadg rfl 42 (.tmp 20) rfl _ rfl _ li1' ?_) | (with_reducible refine wpList_loadg rfl 42 (.tmp 22) rfl _ rfl _ li2' ?_))
     go_ret
     exact ⟨by simp, Grows.trans hg hg3⟩)
  · cases q3 <;>
    (go_enter Tryd.func22, Tryd.ntmps22
     go_wp2_with (first | go_big_skip | (change wpList _ _ _ _ _ ((w.alloc (.cells vs.toArray 49)).alloc (.cells us.toArray 49)); generalize (w.alloc (.cells vs.toArray 49)).alloc (.cells us.toArray 49) = w2 at *))
     refine (EQ.out w2 hI2 hJ2).mono ?_
     rintro e w3 ⟨rfl, hg3⟩
     replace P0 := hcell_later P0 hg3
     replace P1 := hcell_later P1 hg3
     replace P2 := hcell_later P2 hg3
     replace R0 := hcell_later R0 hg3
     replace R1 := hcell_later R1 hg3
     replace R2 := hcell_later R2 hg3
     have li1' := LI1 w3 (hb2.later hg3)
     have li2' := LI2 w3 (hd.later hg3)
     go_wp2_with (first | go_big_skip | (with_reducible refine wpList_loadg rfl 42 (.tmp 20) rfl _ rfl _ li1' ?_) | (with_reducible refine wpList_loadg rfl 42 (.tmp 22) rfl _ rfl _ li2' ?_))
     go_ret
     exact ⟨by simp, Grows.trans hg hg3⟩)
end Go.Proofs.YtnokloedbckijaaDoor

/-
  The reference's Good (an index made such as may be).
-/
namespace Go.Proofs.YtnokloedbckijaaDoor
open Go.RowKit
set_option linter.unusedVariables false
set_option maxRecDepth 20000

/-- An item made such as may be. -/
def goodIt (p : Prm) (it : Itm) : Itm := (it.1, ((p.mn + around it.2 (p.mx - p.mn + 1) : Nat) : Int))
def goodX (x : Ixd) : Ixd := ⟨(goodP x.a x.b x.c).mn, (goodP x.a x.b x.c).av, (goodP x.a x.b x.c).mx, x.im, (x.its.take 6).map (goodIt (goodP x.a x.b x.c))⟩
theorem goodIt_range {p : Prm} (hp : p.Ok) (it : Itm) : (p.mn : Int) ≤ (goodIt p it).2 ∧ (goodIt p it).2 ≤ (p.mx : Int) := by
  have h1 := hp.mn; have h2 := hp.av; have h3 := hp.mx
  have := around_lt it.2 (m := p.mx - p.mn + 1) (by omega)
  unfold goodIt
  dsimp only
  omega
theorem goodX_ok {x : Ixd} (hx : x.Ok) : (goodX x).Ok := by
  have hp := goodP_ok x.a x.b x.c
  have h4 := hp.top; have h1 := hp.mn; have h2 := hp.av; have h3 := hp.mx
  refine ⟨by unfold I64 goodX; dsimp only; omega, by unfold I64 goodX; dsimp only; omega, by unfold I64 goodX; dsimp only; omega, hx.im, fun it hi => ?_⟩
  obtain ⟨y, hy, rfl⟩ := List.mem_map.1 hi
  have := goodIt_range hp y
  exact ⟨(hx.its y (List.mem_of_mem_take hy)).1, by unfold I64; omega⟩
theorem goodX_may {x : Ixd} (hx : x.Ok) : IMay (goodX x) := by
  have hp := goodP_ok x.a x.b x.c
  have h4 := goodP_mx x.a x.b x.c; have h1 := hp.mn
  have hlen : (goodX x).its.length ≤ 6 := by show ((x.its.take 6).map _).length ≤ 6; simp; omega
  refine ⟨may_ok hp, by omega, fun i it hi => ?_, ?_⟩
  · obtain ⟨y, hy, rfl⟩ := List.mem_map.1 (List.mem_of_getElem? hi)
    have := goodIt_range hp y
    exact ⟨by omega, this.2, fun _ => this.1⟩
  · have := (total_bounds (l := (goodX x).its) (c := 70) (fun it hi => by
      obtain ⟨y, hy, rfl⟩ := List.mem_map.1 hi
      have := goodIt_range hp y
      omega)).2
    omega
theorem build_rx2 (a b c : Int) (im : List UInt8) (hl : im.length = 32) (u : World) : (Instr.build 49 #[(0, .agg #[.int .i64 a, .int .i64 b, .int .i64 c]), (1, dv im)]).run Tryd.prog u = .ok (xval ⟨a, b, c, im, []⟩ none 0) u := by
  revert u
  refine by32 (C := fun im => ∀ (u : World), (Instr.build 49 #[(0, .agg #[.int .i64 a, .int .i64 b, .int .i64 c]), (1, dv im)]).run Tryd.prog u = .ok (xval ⟨a, b, c, im, []⟩ none 0) u) ?_ im hl
  intro a0 a1 a2 a3 a4 a5 a6 a7 a8 a9 a10 a11 a12 a13 a14 a15 a16 a17 a18 a19 a20 a21 a22 a23 a24 a25 a26 a27 a28 a29 a30 a31 u
  exact run_build u 49 _ _ (by kernel_rfl)
theorem own_cap {base : Nat} {w : World} {e : TypeId} {size : Nat} {A : Option Addr} {c n : Nat} {xs : List Value} (h : w.ownsRow base e size (.slice A n c) n xs) : c ≤ maxLen := by
  rcases h.2 with ⟨h1, _⟩ | ⟨g, cap, cur, h1, _, _, _, h2, _⟩
  · injection h1 with _ _ h1; rw [h1]; exact Nat.zero_le _
  · injection h1 with _ _ h1; rw [h1]; exact h2
theorem xc_set (x : Ixd) (A : Option Addr) (c : Nat) (l : List Itm) (A' : Option Addr) (c' : Nat) (hx : x.im.length = 32) : (xcells x A c).set 35 (.slice A' l.length c') = xcells ⟨x.a, x.b, x.c, x.im, l⟩ A' c' := by
  unfold xcells
  rw [List.set_append_right _ _ (by simp), List.set_append_right _ _ (by simp [hx])]
  simp [hx]

set_option maxHeartbeats 8000000 in
theorem good11_any (x : Ixd) (A : Option Addr) (c : Nat) (w : World) (hx : x.Ok) (hI : Recs w A 33 (x.its.map icells)) (hn : x.its.length ≤ maxLen) :
    Calls Tryd.prog 31 #[xval x A c] w fun e w' => ∃ A' c', e = .returned (xval (goodX x) A' c') ∧ (goodX x).its.length ≤ c' ∧ c' ≤ maxLen ∧ OwnIt w.heap.size w' (.slice A' (goodX x).its.length c') (goodX x).its ∧ Grows w w' := by
  unfold maxLen at hn
  have hp := goodP_ok x.a x.b x.c
  have hmx := goodP_mx x.a x.b x.c
  have hb := Has.new w 49 (xcells x A c)
  have g1 := grows_alloc w (.cells (xcells x A c).toArray 49)
  have hr := Has.new (w.alloc (.cells (xcells x A c).toArray 49)) 49 zcells
  have g2 := grows_alloc (w.alloc (.cells (xcells x A c).toArray 49)) (.cells zcells.toArray 49)
  rw [World.size_alloc] at hr
  have hb2 := hb.later g2
  have hg := Grows.trans g1 g2
  have hI2 := hI.later hg
  have hIl := hI.lies
  have h0 : (xcells x A c)[0]? = some (.int .i64 x.a) := rfl
  have h1 : (xcells x A c)[1]? = some (.int .i64 x.b) := rfl
  have h2 : (xcells x A c)[2]? = some (.int .i64 x.c) := rfl
  have h35 := xc_its hx.im A c
  have him : ∀ j u, (x.im.map bv)[j]? = some u → (xcells x A c)[3 + j]? = some u := fun j u h => xc_img A c h
  have GD := Lib.hid (fun u => good_any x.a x.b x.c u hx.a hx.b hx.c)
  have hgx : Hid (goodX x = ⟨(goodP x.a x.b x.c).mn, (goodP x.a x.b x.c).av, (goodP x.a x.b x.c).mx, x.im, (x.its.take 6).map (goodIt (goodP x.a x.b x.c))⟩) := rfl
  have hits := hx.its
  have himl := hx.im
  unfold pz at GD
  have hpp : pv (goodP x.a x.b x.c) = .agg #[.int .i64 (goodP x.a x.b x.c).mn, .int .i64 (goodP x.a x.b x.c).av, .int .i64 (goodP x.a x.b x.c).mx] := rfl
  rw [hpp] at GD
  clear hpp
  have hvl := xcells_len himl A c
  unfold xval
  generalize goodP x.a x.b x.c = p at *
  have BX := build_rx2 p.mn p.av p.mx x.im himl
  generalize hxi : x.im = im at *
  generalize x.its = l at *
  generalize x.a = xa at *
  generalize x.b = xb at *
  generalize x.c = xc at *
  generalize xcells x A c = vs at *
  obtain ⟨N, hN⟩ : ∃ N, N = l.length := ⟨_, rfl⟩
  rw [← hN] at hn h35
  have HN := Lib.hid hN
  clear hN hb g1 g2 hI hxi hx
  have P0 := hb2.cell h0
  have P1 := hb2.cell h1
  have P2 := hb2.cell h2
  go_enter Tryd.func31, Tryd.ntmps31
  go_wp2_with fail
  change Code.wp _ _ _ _ ((w.alloc (.cells vs.toArray 49)).alloc (.cells zcells.toArray 49))
  generalize (w.alloc (.cells vs.toArray 49)).alloc (.cells zcells.toArray 49) = w2 at *
  have hgd := (Grows.refl w2).drew
  have hO := Grows.refl w2.drew
  have ldp : ∀ u, Grows w2.drew u → (Instr.loadAt 24 (.pointer (some ⟨w.heap.size, 0, none⟩))).run Tryd.prog u = .ok (.agg #[.int .i64 xa, .int .i64 xb, .int .i64 xc]) u := fun u h =>
    range_load (o := 0) (cs := [.int .i64 xa, .int .i64 xb, .int .i64 xc]) (fun j v hv => by
      have hh := hb2.later (Grows.trans hgd h)
      match j, hv with
      | 0, hv => exact hh.cell (by rw [h0]; exact hv)
      | 1, hv => exact hh.cell (by rw [h1]; exact hv)
      | 2, hv => exact hh.cell (by rw [h2]; exact hv)) Tryd.underlying24 rfl prm_size
  have ldi : ∀ u, Grows w2.drew u → (Instr.loadAt 42 (.pointer (some ⟨w.heap.size, 3, none⟩))).run Tryd.prog u = .ok (dv im) u := fun u h =>
    range_load (o := 3) (fun j v hv => (hb2.later (Grows.trans hgd h)).cell (him j v hv)) Tryd.underlying42 rfl (by rw [List.length_map, himl]; exact dig_size2)
  refine wp_region_ord 7 [(0, true), (1, true), (2, true), (3, true), (4, true), (5, true), (6, false)] (by kernel_rfl) (by kernel_rfl) ?_
  repeat (first | (refine ord_load hO _ _ (by simp only [List.getElem?_cons_succ, List.getElem?_cons_zero]; rfl) (by rfl) 24 (.tmp 5) (by rfl) _ (by rfl) ldp ?_; try simp only [Act.put, List.setIfInBounds_toArray, List.set_cons_zero, List.set_cons_succ]) | (refine ord_load hO _ _ (by simp only [List.getElem?_cons_succ, List.getElem?_cons_zero]; rfl) (by rfl) 42 (.tmp 8) (by rfl) _ (by rfl) ldi ?_; try simp only [Act.put, List.setIfInBounds_toArray, List.set_cons_zero, List.set_cons_succ]) | (refine ord_build hO _ _ (by simp only [List.getElem?_cons_succ, List.getElem?_cons_zero]; rfl) (by rfl) _ _ (by rfl) _ BX ?_ ?_; (· (go_simp)); try simp only [Act.put, List.setIfInBounds_toArray, List.set_cons_zero, List.set_cons_succ]) | (refine ord_take hO _ ?_ (by simp only [List.getElem?_cons_succ, List.getElem?_cons_zero]; rfl) (by rfl) ?_ ?_; rotate_left; (· (intro u hu0 hu; (try go_simp); (try with_reducible rfl))); try simp only [Act.put, List.setIfInBounds_toArray, List.set_cons_zero, List.set_cons_succ]) | (refine ord_skip _ (by simp only [List.getElem?_cons_succ, List.getElem?_cons_zero]; rfl) (by rfl) ?_; try simp only [Act.put, List.setIfInBounds_toArray, List.set_cons_zero, List.set_cons_succ]) | (refine ord_call hO _ ?_ (by simp only [List.getElem?_cons_succ, List.getElem?_cons_zero]; rfl) (by rfl) ?_ ?_; rotate_left; (· (intro u hu0 hu; go_simp; (try refine quiet_enter ?_); (exact GD.out u))); try simp only [Act.put, List.setIfInBounds_toArray, List.set_cons_zero, List.set_cons_succ]))
  (refine ord_move _ (by simp only [List.getElem?_cons_succ, List.getElem?_cons_zero]; rfl) (by rfl) (fun u hu K hK => ?_); go_simp)
  refine hK.out _ _ (grows_alloc _ _) ?_
  clear hK K
  have hzu := Has.new u 49 zcells
  have hzg := grows_alloc u (.cells zcells.toArray 49)
  have hgu := Grows.trans hgd hu
  have hsu : w.heap.size + 1 < u.heap.size := by have := hr.lt; have := hgu.size; omega
  refine ord_done (fun u2 hu2 => ?_)
  simp only [List.drop_succ_cons, List.drop_zero]
  have hz2 : Has u2 u.heap.size zcells := hzu.later hu2
  have hgu2 : Grows u u2 := Grows.trans hzg hu2
  clear hzu hzg hu2 hO ldp ldi BX GD P0 P1 P2
  have hxl0 := xcells_len (x := ⟨p.mn, p.av, p.mx, im, []⟩) himl none 0
  have hxo0 := xcells_one ⟨p.mn, p.av, p.mx, im, []⟩ none 0
  go_wp2_with (refine wpList_storeT rfl 49 (.tmp 3) (.tmp 10) rfl u.heap.size zcells (xcells ⟨p.mn, p.av, p.mx, im, []⟩ none 0) 36 rfl rfl hz2 zcells_len hxl0 rx_size hxo0 ?_; intro w4 hbox4 ht4)
  have hg24 : Grows w2 w4 := turns_grow (Grows.trans hgu hgu2) ht4 (by have := hgu.size; omega)
  have hg04 := Grows.trans hg hg24
  have hb4 := hb2.later hg24
  have hr4 := hr.later hg24
  have hI4 := hI2.later hg24
  have hbl := hb4.lt
  have hbx : u.heap.size < w4.heap.size := hbox4.lt
  obtain ⟨bX, hbX⟩ : ∃ k, k = u.heap.size := ⟨_, rfl⟩
  rw [← hbX] at hbox4 hsu hbx ⊢
  have hP35 := hb4.cell h35
  obtain ⟨i0, hi0, hz0, hz1, hz2'⟩ := info_parts item_infoz
  clear hbX hz2 hgu2 hgu ht4
  refine NoPanic.normal ?_
  go_wp2_with fail
  go_loopw [4] (fun i wr => ∃ (k : Nat) (A8 : Option Addr) (c8 : Nat), k ≤ N ∧ k ≤ 6 ∧ i = .int .i64 (k : Int) ∧ Has wr bX (xcells ⟨p.mn, p.av, p.mx, im, (l.take k).map (goodIt p)⟩ A8 c8) ∧ OwnIt w4.heap.size wr (.slice A8 ((l.take k).map (goodIt p)).length c8) ((l.take k).map (goodIt p)) ∧ Turns (fun q => q = bX ∨ w4.heap.size ≤ q) w4 wr) (fun i _ => 6 - (intOf i).toNat)
  case atStart => exact ⟨0, none, 0, Nat.zero_le _, Nat.zero_le _, rfl, by simpa using hbox4, by simpa using OwnIt.nil _ _, Turns.refl _ _⟩
  case round =>
    clear hbox4
    obtain ⟨k, A8, c8, hk, hk6, rfl, hbox, hown, htr⟩ := hrel
    have hlk : ((l.take k).map (goodIt p)).length = k := by rw [List.length_map, List.length_take, ← HN.out, Nat.min_eq_left hk]
    have hbr := hb4.turned htr (fun h => by rcases h with h | h <;> omega)
    have hQ35 := hbr.cell h35
    have hszr := htr.size
    by_cases hlt : k < N ∧ k < 6
    · obtain ⟨hlN, hl6⟩ := hlt
      obtain ⟨it, hit⟩ : ∃ it, l[k]? = some it := ⟨_, List.getElem?_eq_getElem (by rw [← HN.out]; exact hlN)⟩
      have hmem := List.mem_of_getElem? hit
      obtain ⟨lx, hzr⟩ := hits it hmem
      have hIr := hI4.turned (B := w.heap.size) (hIl.below hg04) htr (fun q hq h => by rcases h with h | h <;> omega)
      obtain ⟨ad, rfl, _, cx⟩ := hIr.at_ (by decide) (i := k) (r := icells it) (by rw [List.getElem?_map, hit]; rfl)
      have HSN : Hid ((l.take (k + 1)).map (goodIt p) = (l.take k).map (goodIt p) ++ [goodIt p it]) := by show _ = _; rw [List.take_add_one, hit]; simp
      have hgd := (Grows.refl wr).drew
      have hO := Grows.refl wr.drew
      have f0 : ∀ u, Grows wr.drew u → u.cell? ⟨bX, 0, none⟩ = some (.int .i64 (p.mn : Int)) := fun u h => (hbox.later (Grows.trans hgd h)).cell rfl
      have f2 : ∀ u, Grows wr.drew u → u.cell? ⟨bX, 2, none⟩ = some (.int .i64 (p.mx : Int)) := fun u h => (hbox.later (Grows.trans hgd h)).cell rfl
      have hx35 := xc_its (x := ⟨p.mn, p.av, p.mx, im, (l.take k).map (goodIt p)⟩) himl A8 c8
      have f35 : ∀ u, Grows wr.drew u → u.cell? ⟨bX, 35, none⟩ = some (.slice A8 ((l.take k).map (goodIt p)).length c8) := fun u h => (hbox.later (Grows.trans hgd h)).cell hx35
      have g35 : ∀ u, Grows wr.drew u → u.cell? ⟨w.heap.size, 35, none⟩ = some (.slice (some ad) N c) := fun u h => (hbr.later (Grows.trans hgd h)).cell h35
      have hc32 := ic_size lx
      have c32 : ∀ u, Grows wr.drew u → u.cell? ⟨(ad.add (k * 33)).block, (ad.add (k * 33)).off + 32, none⟩ = some (.int .i64 it.2) := fun u h => cell_off (j := 31) (by rw [add_add_addr]; exact hcell_later (cx 32 _ hc32) (Grows.trans hgd h))
      have ldn : ∀ u, Grows wr.drew u → (Instr.loadAt 42 (.pointer (some (ad.add (k * 33))))).run Tryd.prog u = .ok (dv it.1) u := fun u h =>
        load_any u _ _ (it.1.map bv) _ (fun j v hv => by rw [add_add_addr]; exact hcell_later (cx j v (ic_name hv)) (Grows.trans hgd h)) Tryd.underlying42 rfl (by rw [List.length_map, lx]; exact dig_size2)
      have hr1 := hp.mn; have hr2 := hp.av; have hr3 := hp.mx
      obtain ⟨m0, hm0⟩ : ∃ m0 : Nat, m0 = p.mx - p.mn := ⟨_, rfl⟩
      have hgi : goodIt p it = (it.1, ((p.mn + around it.2 (m0 + 1) : Nat) : Int)) := by rw [hm0]; rfl
      have hal := around_lt it.2 (m := m0 + 1) (by omega)
      have AR : Hid (∀ u, Calls Tryd.prog 29 #[.int .i64 it.2, .int .i64 ((m0 + 1 : Nat) : Int)] u fun e w' => e = .returned (.int .i64 (around it.2 (m0 + 1) : Int)) ∧ Grows u w') := fun u => (around_any it.2 (m0 + 1) u hzr (by omega)).mono (fun e w' h => ⟨h.1, by rw [← h.2]; exact Grows.refl _⟩)
      have hw1 : IntKind.i64.wrap ((p.mx : Int) - (p.mn : Int)) = (m0 : Int) := by rw [IntWalk.i64_in _ (by omega)]; omega
      have hw2 : IntKind.i64.wrap ((m0 : Int) + 1) = ((m0 + 1 : Nat) : Int) := by rw [IntWalk.i64_in _ (by omega)]; omega
      generalize hra : around it.2 (m0 + 1) = r at *
      obtain ⟨z, hz⟩ : ∃ z : Nat, z = p.mn + r := ⟨_, rfl⟩
      rw [← hz] at hgi
      have hw3 : IntKind.i64.wrap ((p.mn : Int) + (r : Int)) = (z : Int) := by rw [IntWalk.i64_in _ (by omega)]; omega
      have HB := fun u => build_item it.1 (z : Int) lx u
      have HSL := fun u => slice_item it.1 (z : Int) lx u
      rw [← hgi] at HB HSL
      have hic : (icells (goodIt p it)).length = 33 := icells_len (by rw [hgi]; exact lx)
      have hione := icells_one (goodIt p it)
      generalize goodIt p it = git at *
      have hki : (k : Int) < (N : Int) := by omega
      have hk6' : (k : Int) < 6 := by omega
      have hnm := lx
      generalize it.1 = nm at *
      generalize it.2 = sz at *
      generalize ((m0 + 1 : Nat) : Int) = m1 at *
      generalize hcur : (l.take k).map (goodIt p) = cur at *
      generalize hP : cur.length = P at *
      have HP := Lib.hid hP
      have hP2 : P + 1 ≤ 1000000 := by omega
      have HLK := Lib.hid hlk
      have HCU := Lib.hid hcur
      clear hm0 hra hz hgi hal hit hmem cx hP hlk hcur
      go_wp2_with fail
      refine wp_region_ord 29 [(0, true), (1, true), (2, true), (3, true), (4, true), (5, true), (6, true), (7, true), (8, true), (9, true), (10, true), (11, true), (12, true), (13, true), (14, true), (15, true), (16, true), (17, true), (18, true), (19, true), (20, true), (21, true), (22, true), (23, true), (24, true), (25, true), (26, true), (27, true), (28, false)] (by kernel_rfl) (by kernel_rfl) ?_
      repeat (first | (refine ord_build hO _ _ (by simp only [List.getElem?_cons_succ, List.getElem?_cons_zero]; rfl) (by rfl) _ _ (by rfl) _ HB ?_ ?_; (· (go_simp)); try simp only [Act.put, List.setIfInBounds_toArray, List.set_cons_zero, List.set_cons_succ]) | (refine ord_load hO _ _ (by simp only [List.getElem?_cons_succ, List.getElem?_cons_zero]; rfl) (by rfl) 42 (.tmp 28) (by rfl) _ (by rfl) ldn ?_; try simp only [Act.put, List.setIfInBounds_toArray, List.set_cons_zero, List.set_cons_succ]) | (refine ord_take hO _ ?_ (by simp only [List.getElem?_cons_succ, List.getElem?_cons_zero]; rfl) (by rfl) ?_ ?_; rotate_left; (· (intro u hu0 hu; (try go_simp); (try with_reducible rfl))); try simp only [Act.put, List.setIfInBounds_toArray, List.set_cons_zero, List.set_cons_succ]) | (refine ord_skip _ (by simp only [List.getElem?_cons_succ, List.getElem?_cons_zero]; rfl) (by rfl) ?_; try simp only [Act.put, List.setIfInBounds_toArray, List.set_cons_zero, List.set_cons_succ]) | (refine ord_call hO _ ?_ (by simp only [List.getElem?_cons_succ, List.getElem?_cons_zero]; rfl) (by rfl) ?_ ?_; rotate_left; (· (intro u hu0 hu; go_simp; (try refine quiet_enter ?_); (exact AR.out u))); try simp only [Act.put, List.setIfInBounds_toArray, List.set_cons_zero, List.set_cons_succ]))
      refine ord_bslice _ (by simp only [List.getElem?_cons_succ, List.getElem?_cons_zero]; rfl) (by rfl) _ _ _ (by rfl) _ _ _ HSL ?_ (fun u hu => ?_)
      · go_simp
      simp only [Act.put, List.setIfInBounds_toArray, List.set_cons_zero, List.set_cons_succ]
      have hgu := Grows.trans hgd hu
      have hnu := Lies.new u 61 (icells git)
      have hna := grows_alloc u (.cells (icells git).toArray 61)
      refine ord_done (fun u2 hu2 => ?_)
      simp only [List.drop_succ_cons, List.drop_zero]
      have hg2 := Grows.trans hgu (Grows.trans hna hu2)
      have hl2 : Lies u2 u2.heap.size (some ⟨u.heap.size, 0, none⟩) (icells git) := (hnu.mono (by simp)).later hu2
      have hrow2 : u2.ownsRow w4.heap.size 61 33 (.slice A8 P c8) P (cur.map icells).flatten := by have := own_later hown hg2; rw [HP.out] at this; exact this
      have hbox2 := hbox.later hg2
      have hm2 := hg2.size
      have hbxr : bX < wr.heap.size := hbox.lt
      clear hnu hna hgu hu hO f0 f2 f35 g35 c32 ldn AR HB HSL hown hu2
      go_wp2_with (at_builtin; refine wpList_append_recs rfl (.tmp 23) (.tmp 50) 29 rfl w4.heap.size 61 i0 zitem 33 40 (by decide) Tryd.underlying29 hi0 hz0 hz1 hz2' zitem_size (.slice A8 P c8) P _ rfl hrow2 _ (some ⟨u.heap.size, 0, none⟩) 1 1 (icells git) rfl (by rw [hic]) hl2 hione (by unfold maxLen; omega) (by omega) (by omega) ?_; intro v' w9 hown' hg' hat'; have htA : Turns (fun q => w4.heap.size ≤ q) u2 w9 := Turns.of_by hg' fun g e _ => own_ge hrow2 g e; have hbox9 := hbox2.turned htA (by omega); have hc35 := hbox9.cell hx35; have hf35 := hbox9.free 35; obtain ⟨A9, c9, rfl, _⟩ := own_form hown')
      refine NoPanic.normal ?_
      go_wp2_with fail
      have hbs := hbox9.set_ (k := 35) (by rw [xcells_len himl]; decide) (.slice A9 (P + 1) c9)
      have hl9 : (cur ++ [git]).length = P + 1 := by rw [List.length_append, HP.out]; rfl
      rw [← hl9, xc_set _ _ _ (cur ++ [git]) A9 c9 himl, hl9] at hbs
      have ht9 : Turns (fun q => q = bX ∨ w4.heap.size ≤ q) w4 (w9.setCell ⟨bX, 35, none⟩ (.slice A9 (P + 1) c9)) := ((htr.trans (Turns.of_grows hg2)).trans (htA.mono fun q _ h => .inr h)).trans (Turns.of_set _ _ (.inl rfl))
      have hown9 : (w9.setCell ⟨bX, 35, none⟩ (.slice A9 (P + 1) c9)).ownsRow w4.heap.size 61 33 (.slice A9 (P + 1) c9) (P + 1) ((cur.map icells).flatten ++ icells git) := own_turned hown' (Turns.of_set (S := fun q => q = bX) w9 _ rfl) (fun g hg h => by have := own_ge hown' g hg; omega)
      go_roundw
      case rel => exact ⟨k + 1, A9, c9, by omega, by omega, by go_num, by rw [HSN.out]; exact hbs, by rw [HSN.out]; show World.ownsRow _ _ _ _ _ _ _; rw [flat_snoc, hl9]; exact hown9, ht9⟩
      case measure => simp [intOf]; omega
    · have hcl : Hid ((l.take k).map (goodIt p) = (l.take 6).map (goodIt p)) := by
        show _ = _
        congr 1
        rcases Nat.lt_or_ge k 6 with h | h
        · have hkN : k = N := by omega
          rw [List.take_of_length_le (by rw [← HN.out]; omega), List.take_of_length_le (by rw [← HN.out]; omega)]
        · rw [show k = 6 by omega]
      have hrr := hr4.turned htr (fun h => by rcases h with h | h <;> omega)
      have ldx : (Instr.loadAt 49 (.pointer (some ⟨bX, 0, none⟩))).run Tryd.prog wr = .ok (.agg (xcells ⟨p.mn, p.av, p.mx, im, (l.take k).map (goodIt p)⟩ A8 c8).toArray) wr := hbox.load Tryd.underlying49 rfl (by rw [xcells_len himl]; exact rx_size)
      have hxl9 := xcells_len (x := ⟨p.mn, p.av, p.mx, im, (l.take k).map (goodIt p)⟩) himl A8 c8
      have hxo9 := xcells_one ⟨p.mn, p.av, p.mx, im, (l.take k).map (goodIt p)⟩ A8 c8
      have hform := own_form (show World.ownsRow _ _ _ _ _ _ _ from hown)
      obtain ⟨A0, c0, he0, hc0⟩ := hform
      have hcc : c0 = c8 := by injection he0 with _ _ h; exact h.symm
      rw [hcc] at hc0
      have hcm := own_cap (show World.ownsRow _ _ _ _ _ _ _ from hown)
      have hgw4 : w.heap.size ≤ w4.heap.size := hg04.size
      have hfin0 : Grows w wr := turns_then_grows hg04 htr (fun q h => by rcases h with h | h <;> omega)
      generalize hX : xcells ⟨p.mn, p.av, p.mx, im, (l.take k).map (goodIt p)⟩ A8 c8 = X at *
      have HX := Lib.hid hX
      have HLK := Lib.hid hlk
      clear hX he0 hcc hlk
      by_cases hkN : k < N
      · have d1 : ¬ (k : Int) < 6 := by omega
        have d2 : (k : Int) < (N : Int) := by omega
        go_wp2_with (first | go_big_skip | (with_reducible refine wpList_loads rfl 49 (.tmp 3) rfl _ rfl _ ldx ?_) | (refine wpList_storeT rfl 49 (.tmp 2) (.tmp 53) rfl (w.heap.size + 1) zcells X 36 rfl rfl hrr zcells_len hxl9 rx_size hxo9 ?_; intro w8 hbox8 ht8))
        refine bodyPost_ret (res_has (vs := X) Tryd.results31 _ rfl Tryd.underlying49 rfl (by rw [hxl9]; exact rx_size) hbox8) rfl ⟨A8, c8, ?_, ?_, ?_, ?_, turns_grow hfin0 ht8 (by omega)⟩
        · rw [← HX.out, hgx.out, ← hcl.out]
        · rw [hgx.out, ← hcl.out]; exact hc0
        · exact hcm
        · rw [hgx.out, ← hcl.out]; exact own_base (own_turned hown ht8 (fun g hg h => by have := own_ge hown g hg; omega)) hgw4
      · have d2 : ¬ (k : Int) < (N : Int) := by omega
        go_wp2_with (first | go_big_skip | (with_reducible refine wpList_loads rfl 49 (.tmp 3) rfl _ rfl _ ldx ?_) | (refine wpList_storeT rfl 49 (.tmp 2) (.tmp 53) rfl (w.heap.size + 1) zcells X 36 rfl rfl hrr zcells_len hxl9 rx_size hxo9 ?_; intro w8 hbox8 ht8))
        refine bodyPost_ret (res_has (vs := X) Tryd.results31 _ rfl Tryd.underlying49 rfl (by rw [hxl9]; exact rx_size) hbox8) rfl ⟨A8, c8, ?_, ?_, ?_, ?_, turns_grow hfin0 ht8 (by omega)⟩
        · rw [← HX.out, hgx.out, ← hcl.out]
        · rw [hgx.out, ← hcl.out]; exact hc0
        · exact hcm
        · rw [hgx.out, ← hcl.out]; exact own_base (own_turned hown ht8 (fun g hg h => by have := own_ge hown g hg; omega)) hgw4
end Go.Proofs.YtnokloedbckijaaDoor

/-
  Slices of indexes laid whole; an index's image stored.
-/
namespace Go.Proofs.YtnokloedbckijaaDoor
open Go.RowKit
set_option linter.unusedVariables false
set_option maxRecDepth 20000

theorem set_row (pre : List Value) : ∀ (mid post r : List Value) (k : Nat) (done : List Value), done.length = k → r.length = mid.length →
    (r.zipIdx k).foldl (fun (cs : Array Value) (cj : Value × Nat) => cs.setIfInBounds (pre.length + cj.2) cj.1) (pre ++ (done ++ (mid ++ post))).toArray = (pre ++ (done ++ (r ++ post))).toArray
  | [], post, [], k, done, hk, hl => rfl
  | [], post, x :: r, k, done, hk, hl => by simp at hl
  | m :: mid, post, [], k, done, hk, hl => by simp at hl
  | m :: mid, post, x :: r, k, done, hk, hl => by
    rw [List.zipIdx_cons, List.foldl_cons]
    have h1 : (pre ++ (done ++ (m :: mid ++ post))).toArray.setIfInBounds (pre.length + k) x = (pre ++ ((done ++ [x]) ++ (mid ++ post))).toArray := by
      rw [List.setIfInBounds_toArray]
      congr 1
      rw [List.set_append_right _ _ (by omega), Nat.add_sub_cancel_left, List.set_append_right _ _ (by omega), hk, Nat.sub_self]
      simp
    have h2 := set_row pre mid post r (k + 1) (done ++ [x]) (by simp [hk]) (by simpa using hl)
    simp only at h1 h2 ⊢
    rw [h1, h2]
    simp
theorem fill_rows (k : Nat) : ∀ (rs : List (List Value)) (j : Nat) (pre post : List Value), (∀ r ∈ rs, r.length = k) → pre.length = j * k → post.length = rs.length * k →
    Instr.fill (fun i => some (i * k, k)) (pre ++ post).toArray ((rs.zipIdx j).map fun p => (p.2, Value.agg p.1.toArray)) = some (pre ++ rs.flatten).toArray
  | [], j, pre, post, _, _, hl => by
    have : post = [] := List.eq_nil_of_length_eq_zero (by simpa using hl)
    subst this
    simp [Instr.fill]
  | r :: rs, j, pre, post, hr, hp, hl => by
    have h1 := hr r (by simp)
    have hl2 : post.length = k + rs.length * k := by rw [hl, List.length_cons, Nat.add_mul, Nat.one_mul, Nat.add_comm]
    have hs := set_row pre (post.take k) (post.drop k) r 0 [] rfl (by rw [List.length_take, h1]; omega)
    rw [List.nil_append, List.take_append_drop, List.nil_append] at hs
    have ih := fill_rows k rs (j + 1) (pre ++ r) (post.drop k) (fun y hy => hr y (by simp [hy])) (by rw [List.length_append, hp, h1, Nat.add_mul, Nat.one_mul]) (by rw [List.length_drop]; omega)
    rw [List.zipIdx_cons, List.map_cons]
    unfold Instr.fill
    have hc : ¬ ((Value.agg r.toArray).cells.size ≠ k ∨ j * k + (Value.agg r.toArray).cells.size > (pre ++ post).toArray.size) := by
      have e1 : (Value.agg r.toArray).cells.size = k := by show r.toArray.size = k; simp [h1]
      rw [e1]
      simp only [List.size_toArray, List.length_append, hp, hl2]
      omega
    have hf : Array.foldl (fun (cs : Array Value) (x : Value × Nat) => match x with | (c, i) => cs.setIfInBounds (j * k + i) c) (pre ++ post).toArray (Value.agg r.toArray).cells.zipIdx = (pre ++ r ++ post.drop k).toArray := by
      rw [← hp, List.append_assoc, ← hs]
      show Array.foldl _ _ r.toArray.zipIdx = _
      rw [← Array.foldl_toList, Array.toList_zipIdx]
    dsimp only
    rw [if_neg (by rw [Bool.or_eq_true, decide_eq_true_eq, decide_eq_true_eq]; exact hc), hf]
    simpa using ih
/-- A slice literal of records. -/
theorem slice_recs {P : Program} (u : World) (t e : TypeId) (k : Nat) (hk : 0 < k) (i : TypeInfo) (z : Value) (hu : P.underlying t = some (.slice e)) (hi : P.info? e = some i) (hz : i.zero = some z) (hs : i.size = k) (rs : List (List Value)) (hr : ∀ r ∈ rs, r.length = k)
    (hn : 0 < rs.length) (hm : rs.length * k ≤ 16777216) :
    (Instr.buildSlice t rs.length (rs.zipIdx.map fun p => (p.2, Value.agg p.1.toArray)).toArray).run P u = .ok (.slice (some ⟨u.heap.size, 0, none⟩) rs.length rs.length) (u.alloc (.cells rs.flatten.toArray e)) := by
  have hpos := Nat.mul_pos hn hk
  refine run_buildSlice u t e rs.length _ _ i z hu hi hz (by rw [hs]; omega) (by rw [hs]; omega) ?_
  rw [hs]
  have hz0 : ∀ (a : Array Value), a.size = rs.length * k → Instr.fill (fun i => some (i * k, k)) a (rs.zipIdx.map fun p => (p.2, Value.agg p.1.toArray)) = some rs.flatten.toArray := fun a ha => by
    have := fill_rows k rs 0 [] a.toList hr (by simp) (by simpa using ha)
    simpa using this
  exact hz0 _ (by simp)
theorem rx_info : (Tryd.prog.info? 49).map (fun i => (i.zero, i.size, i.bytes)) = some (some (Value.agg zcells.toArray), 36, 80) := by kernel_rfl
theorem slice_rx (u : World) (rs : List (List Value)) (hr : ∀ r ∈ rs, r.length = 36) (hn : 0 < rs.length) (hm : rs.length ≤ 100) :
    (Instr.buildSlice 62 rs.length (rs.zipIdx.map fun p => (p.2, Value.agg p.1.toArray)).toArray).run Tryd.prog u = .ok (.slice (some ⟨u.heap.size, 0, none⟩) rs.length rs.length) (u.alloc (.cells rs.flatten.toArray 49)) := by
  obtain ⟨i0, hi0, hz0, hz1, hz2⟩ := info_parts rx_info
  exact slice_recs u _ _ 36 (by decide) i0 _ Tryd.underlying62 hi0 hz0 hz1 rs hr hn (by omega)

/-- Cells o .. of a variable are stored. -/
theorem Has.mid {w : World} {b : Nat} {pre mid post new : List Value} (h : Has w b (pre ++ (mid ++ post))) (hl : new.length = mid.length) : Has (w.setCells b pre.length new) b (pre ++ (new ++ post)) := by
  refine ⟨by rw [size_setCells]; exact h.lt, fun j u hu => ?_, fun j => by rw [World.frozen?_setCells]; exact h.free j⟩
  have hth : w.there b pre.length new.length := fun i hi => by
    have : (pre ++ (mid ++ post))[pre.length + i]? = some ((mid)[i]'(by omega)) := by
      rw [List.getElem?_append_right (by omega), Nat.add_sub_cancel_left, List.getElem?_append_left (by omega), List.getElem?_eq_getElem (by omega)]
    exact ⟨by rw [h.cell this]; rfl, h.free _⟩
  rw [Nat.zero_add]
  rcases Nat.lt_or_ge j pre.length with h1 | h1
  · rw [List.getElem?_append_left h1] at hu
    rw [World.cell?_setCells_out b _ _ w ⟨b, j, none⟩ (fun _ _ => .inl (by show j < pre.length; exact h1))]
    exact h.cell (by rw [List.getElem?_append_left h1]; exact hu)
  · rw [List.getElem?_append_right h1] at hu
    rcases Nat.lt_or_ge (j - pre.length) new.length with h2 | h2
    · rw [List.getElem?_append_left h2] at hu
      have := World.rangeAt_setCells_same w b pre.length new hth (j - pre.length) u hu
      rwa [show pre.length + (j - pre.length) = j by omega] at this
    · rw [List.getElem?_append_right h2] at hu
      rw [World.cell?_setCells_out b _ _ w ⟨b, j, none⟩ (fun _ _ => .inr (by show pre.length + new.length ≤ j; omega))]
      exact h.cell (by rw [List.getElem?_append_right h1, List.getElem?_append_right (by omega), ← hl]; exact hu)
theorem wpList_storeM {P : Program} {w : World} {ops : Array Oper} {rest : List Oper} {op : Oper} {a : Act} {Q : Exit → Act → World → Prop} (hgd : op.guard = none) (ty : TypeId) (x y : Operand) (ho : op.op = .store ty x y)
    (b o : Nat) (pre mid post new : List Value) (n : Nat) (hx : a.eval x = .pointer (some ⟨b, o, none⟩)) (hy : a.eval y = .agg new.toArray) (hb : Has w b (pre ++ (mid ++ post))) (hp : pre.length = o) (hl : mid.length = n) (hl' : new.length = n) (hi : (P.info? ty).map (·.size) = some n)
    (h1 : ∀ v ∈ new, v.oneCell' = true) (h : ∀ w', Has w' b (pre ++ (new ++ post)) → Turns (fun k => k = b) w w' → wpList P ops Q rest (a.put op.dst undef) w') : wpList P ops Q (op :: rest) a w := by
  subst hp
  have hz : new.toArray.size = n := by simp [hl']
  have hth : w.there b pre.length new.toArray.size := fun i hi => by
    have : (pre ++ (mid ++ post))[pre.length + i]? = some ((mid)[i]'(by rw [hz] at hi; omega)) := by
      rw [hz] at hi
      rw [List.getElem?_append_right (by omega), Nat.add_sub_cancel_left, List.getElem?_append_left (by omega), List.getElem?_eq_getElem (by omega)]
    exact ⟨by rw [hb.cell this]; rfl, hb.free _⟩
  refine wpList_store_mid hgd ty x y ho b pre.length new.toArray hx hy hth (by rw [hz]; exact hi) (all_oneCell_toArray h1) ?_
  exact h _ (hb.mid (by rw [hl, hl'])) (turns_cells b _ _ w)
end Go.Proofs.YtnokloedbckijaaDoor

/-
  Two package variables in one condition: the second one's own.
-/
namespace Go.Proofs.YtnokloedbckijaaDoor
open Go.RowKit
set_option linter.unusedVariables false
set_option maxRecDepth 20000
theorem laid_tail {P : Program} {W : World} {x : String × DataW Unit} {rest : List (String × DataW Unit)} (h : laidMet P (x :: rest) W) : laidMet P rest W := by
  obtain ⟨ps, ⟨g, t, cs, fuel, p, q, _, _, _, _, hq, rfl⟩, hn, hk⟩ := h
  exact ⟨q, hq, (List.nodup_append.1 hn).2.1, fun b off hm => hk b off (List.mem_append_right _ hm)⟩
theorem starts_of_laid2 {W : World} (h : laidMetH Tryd.prog [("lighterage/sha.keys", Rows.laid_lighterage_sha_keys), ("lighterage/roll.starts", Rows.laid_lighterage_roll_starts)] W) : Starts W := by
  rw [MakeChecks.laidMetH_plain _ _ _ (by kernel_rfl)] at h
  exact starts_of_laid (by rw [MakeChecks.laidMetH_plain _ _ _ (by kernel_rfl)]; exact laid_tail h)
end Go.Proofs.YtnokloedbckijaaDoor

/-
  Two package variables in one condition: the first one's own, the digests' numbers.
-/
namespace Go.Proofs.YtnokloedbckijaaDoor
open Go.RowKit
set_option linter.unusedVariables false
set_option maxRecDepth 20000
theorem gKeys2 : Tryd.prog.globalNamed "lighterage/sha.keys" = some 1 := by kernel_rfl
theorem tKeys2 : (Tryd.prog.globals[1]?).map (·.type) = some 152 := by kernel_rfl
theorem keys_tab2 : (Rows.laid_lighterage_sha_keys : DataW Unit) = Lib.tabData .u32 (roots64.map fun n : Nat => (n : Int)) := rfl
theorem keys_of_laid2 {W : World} (h : laidMetH Tryd.prog [("lighterage/sha.keys", Rows.laid_lighterage_sha_keys), ("lighterage/roll.starts", Rows.laid_lighterage_roll_starts)] W) : Keys W := by
  rw [MakeChecks.laidMetH_plain _ _ _ (by kernel_rfl), keys_tab2] at h
  have ht := Lib.tabIs_of_head gKeys2 tKeys2 Tryd.underlying152 Tryd.underlying93 (by kernel_rfl) (by kernel_rfl) h
  intro j u hu
  have hj : j < roots64.length := by have := (List.getElem?_eq_some_iff.1 hu).1; simpa using this
  have := ht.cell gKeys2 j (by simpa using hj)
  rw [Nat.zero_add, this, ← hu, List.getElem?_map, getD_some hj]
  simp [hj]
end Go.Proofs.YtnokloedbckijaaDoor

/-
  An index that came in.
-/
namespace Go.Proofs.YtnokloedbckijaaDoor
open Go.RowKit
open Go.ChangeShapes Go.WideShapes
set_option linter.unusedVariables false
set_option maxRecDepth 20000
theorem open_x {H : Type} {enc : TypeId × Value → H} {w : World} {base b0 : Nat} {spare : Nat → Bool} {held : Bool} {r : Reach} {v : Value} {d : DataW H} {p : List MemPlace}
    (hv : Value.okWide Tryd.prog w r b0 49 v) (h : DataW.Trod enc Tryd.prog w base spare held 49 v d p) :
    ∃ (y : Ixd) (A : Option Addr) (cap : Nat), v = xval y A cap ∧ y.Ok ∧ y.its.length ≤ cap ∧ cap ≤ maxLen ∧ Recs w A 33 (y.its.map icells) := by
  obtain ⟨cs, rfl, hsz⟩ := okWide_struct Tryd.underlying49 hv
  obtain ⟨fuel, hf⟩ := h
  obtain ⟨y, A, cap, e, h1, h2, h3, h4⟩ := trod_ix (ei := 0) Tryd.underlying49 ⟨by kernel_rfl, by kernel_rfl, by kernel_rfl, by kernel_rfl, by kernel_rfl, by kernel_rfl, by kernel_rfl⟩ Tryd.underlying24 ⟨by kernel_rfl, by kernel_rfl, by kernel_rfl, by kernel_rfl, by kernel_rfl, by kernel_rfl⟩ Tryd.underlying3 Tryd.underlying3 Tryd.underlying3
    Tryd.underlying42 Tryd.underlying5 (by kernel_rfl) Tryd.underlying29 Tryd.underlying61 ⟨by kernel_rfl, by kernel_rfl, by kernel_rfl, by kernel_rfl, by kernel_rfl⟩ Tryd.underlying42 Tryd.underlying3 hf
  refine ⟨y, A, cap, ?_, h1, h2, h3, h4⟩
  have e' : cs.toList = xcells y A cap := e
  unfold xval
  rw [← e']
end Go.Proofs.YtnokloedbckijaaDoor
