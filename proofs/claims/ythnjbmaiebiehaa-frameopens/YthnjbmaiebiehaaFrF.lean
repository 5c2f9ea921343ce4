/-
  Contracts of frame's attempt (of parts), Length and Packed.
-/
import Derived.Test.YthnjbmaiebiehaaFrE
import Derived.Test.YthnjbmaiebiehaaL5J
namespace Go.Proofs.Ythnjbmaiebiehaa
open Go.RowKit
set_option linter.unusedVariables false

/-- A frame's parts, or that it is given up. -/
def LOut (f : List UInt8) (w : World) (e : Ending) (w' : World) : Prop :=
  (formB f = true ∧ ∃ (A' : Option Addr) (m c' : Nat), e = .returned (.agg #[.bool (pkB f), iv (toldN f), .slice A' m c', uv (sumN f)]) ∧ Grows w w') ∨ (formB f = false ∧ e = .panicked (why 2) ∧ Grows w w')
/-- What attempt answers of them. -/
def AOut (f : List UInt8) (w : World) (e : Ending) (w' : World) : Prop :=
  (formB f = true ∧ ∃ (A' : Option Addr) (m c' : Nat), e = .returned (.tuple #[.agg #[.bool (pkB f), iv (toldN f), .slice A' m c', uv (sumN f)], .int .i64 0]) ∧ Grows w w') ∨
  (formB f = false ∧ e = .returned (.tuple #[.agg #[.bool false, .int .i64 0, .slice none 0 0, .int .u32 0], iv 2]) ∧ Grows w w')
theorem Has.apart {w w' : World} {b b' : Nat} {vs : List Value} (h : Has w b vs) (hg : w.grownBy w' (some b')) (hne : b ≠ b') : Has w' b vs :=
  ⟨Nat.lt_of_lt_of_le h.lt hg.size, fun j v hv => (World.cell?_of_block (a := ⟨b, 0 + j, none⟩) (hg.block b h.lt (fun e => by injection e with e; exact hne e))).trans (h.cells j v hv),
    fun j => (World.frozen?_of_block (a := ⟨b, j, none⟩) (hg.block b h.lt (fun e => by injection e with e; exact hne e))).trans (h.free j)⟩

theorem part1L (b0 : Nat) (A : Option Addr) (n c : Nat) (f : List UInt8) (w : World) (h0 : Has w b0 [.slice A n c]) (hl : f.length = n) (hr : Lies w w.heap.size A (f.map bv)) (hc : n ≤ c) (hn : n ≤ 1000000000) :
    Calls Try.prog 30 #[.pointer (some ⟨b0, 0, none⟩)] w fun e w' => LOut f w e w' := by
  obtain ⟨td, htd, htr⟩ := Option.map_eq_some_iff.1 parts_desc
  have hb1 := Has.new w 48 [.bool false, .int .i64 0, .slice none 0 0, .int .u32 0]
  have hg1 := grows_alloc w (.cells #[.bool false, .int .i64 0, .slice none 0 0, .int .u32 0] 48)
  have l0 := (h0.later hg1).cell (k := 0) rfl
  have SP := Lib.hid (split_any A n c f _ hl (hr.later hg1) hc hn)
  go_enter Try.func30, Try.ntmps30
  go_wp2_with fail
  refine SP.out.mono ?_
  rintro e w2 (⟨HF, A', c', rfl, hc', hL', hg2⟩ | ⟨HF, rfl, hg2⟩)
  · have hb2 := hb1.later hg2
    have hg12 := Grows.trans hg1 hg2
    have HG : ∀ w5, Below w.heap.size w w5 → LOut f w (.returned (.agg #[.bool (pkB f), iv (toldN f), .slice A' (f.length - 10) c', uv (sumN f)])) w5 := fun w5 h => .inl ⟨HF, _, _, _, rfl, h⟩
    have HG := Lib.hid HG
    clear SP hc' hL' hl
    generalize f.length - 10 = m at *
    generalize toldN f = x at *
    generalize sumN f = s at *
    generalize pkB f = pk at *
    go_wp2_with (refine wpList_storev rfl 48 (.tmp 1) (.tmp 3) rfl w.heap.size [.bool false, .int .i64 0, .slice none 0 0, .int .u32 0] [.bool pk, iv x, .slice A' m c', uv s] 4 rfl rfl hb2 rfl rfl parts_size (by simp [Value.oneCell']) ?_; intro w5 hb5 hbel5)
    refine bodyPost_ret (res_has (vs := [.bool pk, iv x, .slice A' m c', uv s]) rfl _ rfl htd htr parts_size hb5) rfl ?_
    exact HG.out w5 (hbel5 w.heap.size w (Nat.le_refl _) hg12)
  · exact ⟨rfl, .inr ⟨HF, rfl, Grows.trans hg1 hg2⟩⟩

set_option maxHeartbeats 1000000 in
theorem attemptL (p0 : Value) (f : List UInt8) (w : World) (h : ∀ u, Grows w u → Calls Try.prog 30 #[p0] u fun e w' => LOut f u e w') :
    Calls Try.prog 29 #[.func (.func 30) #[] #[p0]] w fun e w' => AOut f w e w' := by
  obtain ⟨td, htd, htr⟩ := Option.map_eq_some_iff.1 parts_desc
  have hmf : ∀ (fn : Fn) (first cap : Array Value) (w : World), (Instr.makeFunc fn first cap).run Try.prog w = .ok (.func fn first cap) w := fun _ _ _ _ => rfl
  have hga := grows_alloc w (.cells #[.bool false, .int .i64 0, .slice none 0 0, .int .u32 0] 48)
  have hba := Has.new w 48 [.bool false, .int .i64 0, .slice none 0 0, .int .u32 0]
  have hgb := grows_alloc (w.alloc (.cells #[.bool false, .int .i64 0, .slice none 0 0, .int .u32 0] 48)) (.cells #[.int .i64 0] 28)
  have hbb := Has.new (w.alloc (.cells #[.bool false, .int .i64 0, .slice none 0 0, .int .u32 0] 48)) 28 [.int .i64 0]
  have hsz : (w.alloc (.cells #[.bool false, .int .i64 0, .slice none 0 0, .int .u32 0] 48)).heap.size = w.heap.size + 1 := World.size_alloc _ _
  rw [hsz] at hbb
  have hba2 := hba.later hgb
  have hg2 := Grows.trans hga hgb
  have HC := Lib.hid (h _ hg2)
  clear hsz hga hgb hba
  go_enter_defers Try.func29, Try.ntmps29
  go_wp2_with fail
  refine HC.out.mono ?_
  rintro e w1 (⟨HF, A', m, c', rfl, hg1⟩ | ⟨HF, rfl, hg1⟩)
  · have hb1 := hba2.later hg1
    have he1 := hbb.later hg1
    have hg01 := Grows.trans hg2 hg1
    have HG : ∀ w5, Below w.heap.size w w5 → AOut f w (.returned (.tuple #[.agg #[.bool (pkB f), iv (toldN f), .slice A' m c', uv (sumN f)], .int .i64 0])) w5 := fun w5 h => .inl ⟨HF, _, _, _, rfl, h⟩
    have HG := Lib.hid HG
    clear HC h hba2 hbb
    generalize toldN f = x at *
    generalize sumN f = s at *
    generalize pkB f = pk at *
    go_wp2_with (refine wpList_storeb rfl 48 (.tmp 2) (.tmp 6) rfl w.heap.size [.bool false, .int .i64 0, .slice none 0 0, .int .u32 0] [.bool pk, iv x, .slice A' m c', uv s] 4 rfl rfl hb1 rfl rfl parts_size (by simp [Value.oneCell']) ?_; intro w5 hb5 hg5; have he5 := he1.apart hg5 (Nat.succ_ne_self _); have q0 := he5.cell (k := 0) rfl; have qf := he5.free 0)
    have hga5 : Grows w w5 := hg01.grown hg5 hg01.size (fun g hg => by injection hg with hg; omega)
    have hgs : Below w.heap.size w (w5.setCell ⟨w.heap.size + 1, 0, none⟩ (.int .i64 0)) := Below.setCell hga5 (p := ⟨w.heap.size + 1, 0, none⟩) (Nat.le_succ _) _
    have hb6 : Has (w5.setCell ⟨w.heap.size + 1, 0, none⟩ (.int .i64 0)) w.heap.size [.bool pk, iv x, .slice A' m c', uv s] := hb5.below (Below.setCell (Below.refl (w.heap.size + 1) w5) (p := ⟨w.heap.size + 1, 0, none⟩) (Nat.le_refl _) _) (Nat.lt_succ_self _)
    refine leaves_cons (f := 47) (args := #[.pointer (some ⟨w.heap.size + 1, 0, none⟩)]) (by simp) (by simp [go_sem]) ?_
    refine (catch_idleP ⟨w.heap.size + 1, 0, none⟩ _).mono ?_
    rintro e u' w'' ⟨rfl, rfl, rfl⟩
    have q1 : (w5.setCell ⟨w.heap.size + 1, 0, none⟩ (.int .i64 0)).cell? ⟨w.heap.size + 1, 0, none⟩ = some (.int .i64 0) := World.cell?_setCell_same w5 _ _ q0
    have r0 := hb6.cell (k := 0) rfl
    have r1 := hb6.cell (k := 1) rfl
    have r2 := hb6.cell (k := 2) rfl
    have r3 := hb6.cell (k := 3) rfl
    have HGF := HG.out _ hgs
    generalize w5.setCell ⟨w.heap.size + 1, 0, none⟩ (.int .i64 0) = w6 at *
    simp [Leaves, settle, results, Try.results29, go_sem, q1, r0, r1, r2, r3]
    exact HGF
  · have hb1 := hba2.later hg1
    have he1 := hbb.later hg1
    have hg01 := Grows.trans hg2 hg1
    have q0 := he1.cell (k := 0) rfl
    have qf := he1.free 0
    have hgs : Below w.heap.size w (w1.setCell ⟨w.heap.size + 1, 0, none⟩ (iv 2)) := Below.setCell hg01 (p := ⟨w.heap.size + 1, 0, none⟩) (Nat.le_succ _) _
    have hb6 : Has (w1.setCell ⟨w.heap.size + 1, 0, none⟩ (iv 2)) w.heap.size [.bool false, .int .i64 0, .slice none 0 0, .int .u32 0] := hb1.below (Below.setCell (Below.refl (w.heap.size + 1) w1) (p := ⟨w.heap.size + 1, 0, none⟩) (Nat.le_refl _) _) (Nat.lt_succ_self _)
    refine leaves_cons (f := 47) (args := #[.pointer (some ⟨w.heap.size + 1, 0, none⟩)]) (by simp) (by simp [go_sem]) ?_
    refine (catch_panickingP ⟨w.heap.size + 1, 0, none⟩ 0 2 [] _ q0 qf).mono ?_
    rintro e u' w'' ⟨rfl, rfl, rfl⟩
    have q1 : (w1.setCell ⟨w.heap.size + 1, 0, none⟩ (iv 2)).cell? ⟨w.heap.size + 1, 0, none⟩ = some (iv 2) := World.cell?_setCell_same w1 _ _ q0
    have r0 := hb6.cell (k := 0) rfl
    have r1 := hb6.cell (k := 1) rfl
    have r2 := hb6.cell (k := 2) rfl
    have r3 := hb6.cell (k := 3) rfl
    generalize w1.setCell ⟨w.heap.size + 1, 0, none⟩ (iv 2) = w6 at *
    simp [Leaves, settle, results, Try.results29, go_sem, q1, r0, r1, r2, r3]
    exact .inr ⟨HF, rfl, hgs⟩

theorem part1P (b0 : Nat) (A : Option Addr) (n c : Nat) (f : List UInt8) (w : World) (h0 : Has w b0 [.slice A n c]) (hl : f.length = n) (hr : Lies w w.heap.size A (f.map bv)) (hc : n ≤ c) (hn : n ≤ 1000000000) :
    Calls Try.prog 32 #[.pointer (some ⟨b0, 0, none⟩)] w fun e w' => LOut f w e w' := by
  obtain ⟨td, htd, htr⟩ := Option.map_eq_some_iff.1 parts_desc
  have hb1 := Has.new w 48 [.bool false, .int .i64 0, .slice none 0 0, .int .u32 0]
  have hg1 := grows_alloc w (.cells #[.bool false, .int .i64 0, .slice none 0 0, .int .u32 0] 48)
  have l0 := (h0.later hg1).cell (k := 0) rfl
  have SP := Lib.hid (split_any A n c f _ hl (hr.later hg1) hc hn)
  go_enter Try.func32, Try.ntmps32
  go_wp2_with fail
  refine SP.out.mono ?_
  rintro e w2 (⟨HF, A', c', rfl, hc', hL', hg2⟩ | ⟨HF, rfl, hg2⟩)
  · have hb2 := hb1.later hg2
    have hg12 := Grows.trans hg1 hg2
    have HG : ∀ w5, Below w.heap.size w w5 → LOut f w (.returned (.agg #[.bool (pkB f), iv (toldN f), .slice A' (f.length - 10) c', uv (sumN f)])) w5 := fun w5 h => .inl ⟨HF, _, _, _, rfl, h⟩
    have HG := Lib.hid HG
    clear SP hc' hL' hl
    generalize f.length - 10 = m at *
    generalize toldN f = x at *
    generalize sumN f = s at *
    generalize pkB f = pk at *
    go_wp2_with (refine wpList_storev rfl 48 (.tmp 1) (.tmp 3) rfl w.heap.size [.bool false, .int .i64 0, .slice none 0 0, .int .u32 0] [.bool pk, iv x, .slice A' m c', uv s] 4 rfl rfl hb2 rfl rfl parts_size (by simp [Value.oneCell']) ?_; intro w5 hb5 hbel5)
    refine bodyPost_ret (res_has (vs := [.bool pk, iv x, .slice A' m c', uv s]) rfl _ rfl htd htr parts_size hb5) rfl ?_
    exact HG.out w5 (hbel5 w.heap.size w (Nat.le_refl _) hg12)
  · exact ⟨rfl, .inr ⟨HF, rfl, Grows.trans hg1 hg2⟩⟩

set_option maxHeartbeats 1000000 in
theorem attemptP (p0 : Value) (f : List UInt8) (w : World) (h : ∀ u, Grows w u → Calls Try.prog 32 #[p0] u fun e w' => LOut f u e w') :
    Calls Try.prog 29 #[.func (.func 32) #[] #[p0]] w fun e w' => AOut f w e w' := by
  obtain ⟨td, htd, htr⟩ := Option.map_eq_some_iff.1 parts_desc
  have hmf : ∀ (fn : Fn) (first cap : Array Value) (w : World), (Instr.makeFunc fn first cap).run Try.prog w = .ok (.func fn first cap) w := fun _ _ _ _ => rfl
  have hga := grows_alloc w (.cells #[.bool false, .int .i64 0, .slice none 0 0, .int .u32 0] 48)
  have hba := Has.new w 48 [.bool false, .int .i64 0, .slice none 0 0, .int .u32 0]
  have hgb := grows_alloc (w.alloc (.cells #[.bool false, .int .i64 0, .slice none 0 0, .int .u32 0] 48)) (.cells #[.int .i64 0] 28)
  have hbb := Has.new (w.alloc (.cells #[.bool false, .int .i64 0, .slice none 0 0, .int .u32 0] 48)) 28 [.int .i64 0]
  have hsz : (w.alloc (.cells #[.bool false, .int .i64 0, .slice none 0 0, .int .u32 0] 48)).heap.size = w.heap.size + 1 := World.size_alloc _ _
  rw [hsz] at hbb
  have hba2 := hba.later hgb
  have hg2 := Grows.trans hga hgb
  have HC := Lib.hid (h _ hg2)
  clear hsz hga hgb hba
  go_enter_defers Try.func29, Try.ntmps29
  go_wp2_with fail
  refine HC.out.mono ?_
  rintro e w1 (⟨HF, A', m, c', rfl, hg1⟩ | ⟨HF, rfl, hg1⟩)
  · have hb1 := hba2.later hg1
    have he1 := hbb.later hg1
    have hg01 := Grows.trans hg2 hg1
    have HG : ∀ w5, Below w.heap.size w w5 → AOut f w (.returned (.tuple #[.agg #[.bool (pkB f), iv (toldN f), .slice A' m c', uv (sumN f)], .int .i64 0])) w5 := fun w5 h => .inl ⟨HF, _, _, _, rfl, h⟩
    have HG := Lib.hid HG
    clear HC h hba2 hbb
    generalize toldN f = x at *
    generalize sumN f = s at *
    generalize pkB f = pk at *
    go_wp2_with (refine wpList_storeb rfl 48 (.tmp 2) (.tmp 6) rfl w.heap.size [.bool false, .int .i64 0, .slice none 0 0, .int .u32 0] [.bool pk, iv x, .slice A' m c', uv s] 4 rfl rfl hb1 rfl rfl parts_size (by simp [Value.oneCell']) ?_; intro w5 hb5 hg5; have he5 := he1.apart hg5 (Nat.succ_ne_self _); have q0 := he5.cell (k := 0) rfl; have qf := he5.free 0)
    have hga5 : Grows w w5 := hg01.grown hg5 hg01.size (fun g hg => by injection hg with hg; omega)
    have hgs : Below w.heap.size w (w5.setCell ⟨w.heap.size + 1, 0, none⟩ (.int .i64 0)) := Below.setCell hga5 (p := ⟨w.heap.size + 1, 0, none⟩) (Nat.le_succ _) _
    have hb6 : Has (w5.setCell ⟨w.heap.size + 1, 0, none⟩ (.int .i64 0)) w.heap.size [.bool pk, iv x, .slice A' m c', uv s] := hb5.below (Below.setCell (Below.refl (w.heap.size + 1) w5) (p := ⟨w.heap.size + 1, 0, none⟩) (Nat.le_refl _) _) (Nat.lt_succ_self _)
    refine leaves_cons (f := 47) (args := #[.pointer (some ⟨w.heap.size + 1, 0, none⟩)]) (by simp) (by simp [go_sem]) ?_
    refine (catch_idleP ⟨w.heap.size + 1, 0, none⟩ _).mono ?_
    rintro e u' w'' ⟨rfl, rfl, rfl⟩
    have q1 : (w5.setCell ⟨w.heap.size + 1, 0, none⟩ (.int .i64 0)).cell? ⟨w.heap.size + 1, 0, none⟩ = some (.int .i64 0) := World.cell?_setCell_same w5 _ _ q0
    have r0 := hb6.cell (k := 0) rfl
    have r1 := hb6.cell (k := 1) rfl
    have r2 := hb6.cell (k := 2) rfl
    have r3 := hb6.cell (k := 3) rfl
    have HGF := HG.out _ hgs
    generalize w5.setCell ⟨w.heap.size + 1, 0, none⟩ (.int .i64 0) = w6 at *
    simp [Leaves, settle, results, Try.results29, go_sem, q1, r0, r1, r2, r3]
    exact HGF
  · have hb1 := hba2.later hg1
    have he1 := hbb.later hg1
    have hg01 := Grows.trans hg2 hg1
    have q0 := he1.cell (k := 0) rfl
    have qf := he1.free 0
    have hgs : Below w.heap.size w (w1.setCell ⟨w.heap.size + 1, 0, none⟩ (iv 2)) := Below.setCell hg01 (p := ⟨w.heap.size + 1, 0, none⟩) (Nat.le_succ _) _
    have hb6 : Has (w1.setCell ⟨w.heap.size + 1, 0, none⟩ (iv 2)) w.heap.size [.bool false, .int .i64 0, .slice none 0 0, .int .u32 0] := hb1.below (Below.setCell (Below.refl (w.heap.size + 1) w1) (p := ⟨w.heap.size + 1, 0, none⟩) (Nat.le_refl _) _) (Nat.lt_succ_self _)
    refine leaves_cons (f := 47) (args := #[.pointer (some ⟨w.heap.size + 1, 0, none⟩)]) (by simp) (by simp [go_sem]) ?_
    refine (catch_panickingP ⟨w.heap.size + 1, 0, none⟩ 0 2 [] _ q0 qf).mono ?_
    rintro e u' w'' ⟨rfl, rfl, rfl⟩
    have q1 : (w1.setCell ⟨w.heap.size + 1, 0, none⟩ (iv 2)).cell? ⟨w.heap.size + 1, 0, none⟩ = some (iv 2) := World.cell?_setCell_same w1 _ _ q0
    have r0 := hb6.cell (k := 0) rfl
    have r1 := hb6.cell (k := 1) rfl
    have r2 := hb6.cell (k := 2) rfl
    have r3 := hb6.cell (k := 3) rfl
    generalize w1.setCell ⟨w.heap.size + 1, 0, none⟩ (iv 2) = w6 at *
    simp [Leaves, settle, results, Try.results29, go_sem, q1, r0, r1, r2, r3]
    exact .inr ⟨HF, rfl, hgs⟩

/-- What Length answers. -/
def lenVal (f : List UInt8) : Value := if formB f = true then .tuple #[iv (toldN f), .int .i64 0] else .tuple #[.int .i64 0, .int .i64 2]
/-- What Packed answers. -/
def pkVal (f : List UInt8) : Value := .bool (formB f && pkB f)

set_option maxHeartbeats 1000000 in
theorem length_any (A : Option Addr) (n c : Nat) (f : List UInt8) (w : World) (hl : f.length = n) (hr : Lies w w.heap.size A (f.map bv)) (hc : n ≤ c) (hn : n ≤ 1000000000) :
    Calls Try.prog 12 #[.slice A n c] w fun e w' => e = .returned (lenVal f) ∧ Grows w w' := by
  have hmf : ∀ (fn : Fn) (first cap : Array Value) (w : World), (Instr.makeFunc fn first cap).run Try.prog w = .ok (.func fn first cap) w := fun _ _ _ _ => rfl
  have hga := grows_alloc w (.cells #[.slice A n c] 22)
  have hba := Has.new w 22 [.slice A n c]
  have hra := hr.later hga
  have AT := Lib.hid (attemptL (.pointer (some ⟨w.heap.size, 0, none⟩)) f _ (fun u hu => part1L w.heap.size A n c f u (hba.later hu) hl (hra.later hu) hc hn))
  go_enter Try.func12, Try.ntmps12
  go_wp2_with fail
  refine AT.out.mono ?_
  rintro e w1 (⟨HF, A', m, c', rfl, hg1⟩ | ⟨HF, rfl, hg1⟩)
  · have HV : Hid ((lenVal f) = .tuple #[iv (toldN f), .int .i64 0]) := by show _ = _; unfold lenVal; simp [HF]
    have hg01 := Grows.trans hga hg1
    clear AT hra hba hga hr hl
    generalize toldN f = x at *
    generalize sumN f = s at *
    generalize pkB f = pk at *
    have hb2 := Has.new w1 48 [.bool false, .int .i64 0, .slice none 0 0, .int .u32 0]
    have hg2 := grows_alloc w1 (.cells #[.bool false, .int .i64 0, .slice none 0 0, .int .u32 0] 48)
    go_wp2_with (refine wpList_storev rfl 48 (.tmp 4) (.tmp 9) rfl w1.heap.size [.bool false, .int .i64 0, .slice none 0 0, .int .u32 0] [.bool pk, iv x, .slice A' m c', uv s] 4 rfl rfl hb2 rfl rfl parts_size (by simp [Value.oneCell']) ?_; intro w3 hb3 hbel3; have q := hb3.cell (k := 1) rfl)
    have hg3 := hbel3 w1.heap.size w1 (Nat.le_refl _) hg2
    go_ret2
    exact ⟨by rw [HV.out]; rfl, Grows.trans hg01 hg3⟩
  · have HV : Hid ((lenVal f) = .tuple #[.int .i64 0, .int .i64 2]) := by show _ = _; unfold lenVal; simp [HF]
    have hg01 := Grows.trans hga hg1
    clear AT hra hba hga hr hl
    have hb2 := Has.new w1 48 [.bool false, .int .i64 0, .slice none 0 0, .int .u32 0]
    have hg2 := grows_alloc w1 (.cells #[.bool false, .int .i64 0, .slice none 0 0, .int .u32 0] 48)
    go_wp2_with (refine wpList_storev rfl 48 (.tmp 4) (.tmp 9) rfl w1.heap.size [.bool false, .int .i64 0, .slice none 0 0, .int .u32 0] [.bool false, .int .i64 0, .slice none 0 0, .int .u32 0] 4 rfl rfl hb2 rfl rfl parts_size (by simp [Value.oneCell']) ?_; intro w3 hb3 hbel3; have q := hb3.cell (k := 1) rfl)
    have hg3 := hbel3 w1.heap.size w1 (Nat.le_refl _) hg2
    go_ret2
    exact ⟨by rw [HV.out]; rfl, Grows.trans hg01 hg3⟩

set_option maxHeartbeats 1000000 in
theorem packed_any (A : Option Addr) (n c : Nat) (f : List UInt8) (w : World) (hl : f.length = n) (hr : Lies w w.heap.size A (f.map bv)) (hc : n ≤ c) (hn : n ≤ 1000000000) :
    Calls Try.prog 14 #[.slice A n c] w fun e w' => e = .returned (pkVal f) ∧ Grows w w' := by
  have hmf : ∀ (fn : Fn) (first cap : Array Value) (w : World), (Instr.makeFunc fn first cap).run Try.prog w = .ok (.func fn first cap) w := fun _ _ _ _ => rfl
  have hga := grows_alloc w (.cells #[.slice A n c] 22)
  have hba := Has.new w 22 [.slice A n c]
  have hra := hr.later hga
  have AT := Lib.hid (attemptP (.pointer (some ⟨w.heap.size, 0, none⟩)) f _ (fun u hu => part1P w.heap.size A n c f u (hba.later hu) hl (hra.later hu) hc hn))
  go_enter Try.func14, Try.ntmps14
  go_wp2_with fail
  refine AT.out.mono ?_
  rintro e w1 (⟨HF, A', m, c', rfl, hg1⟩ | ⟨HF, rfl, hg1⟩)
  · have HV : Hid ((pkVal f) = Value.bool (pkB f)) := by show _ = _; unfold pkVal; simp [HF]
    have hg01 := Grows.trans hga hg1
    clear AT hra hba hga hr hl
    generalize toldN f = x at *
    generalize sumN f = s at *
    generalize pkB f = pk at *
    have hb2 := Has.new w1 48 [.bool false, .int .i64 0, .slice none 0 0, .int .u32 0]
    have hg2 := grows_alloc w1 (.cells #[.bool false, .int .i64 0, .slice none 0 0, .int .u32 0] 48)
    go_wp2_with (refine wpList_storev rfl 48 (.tmp 3) (.tmp 8) rfl w1.heap.size [.bool false, .int .i64 0, .slice none 0 0, .int .u32 0] [.bool pk, iv x, .slice A' m c', uv s] 4 rfl rfl hb2 rfl rfl parts_size (by simp [Value.oneCell']) ?_; intro w3 hb3 hbel3; have q := hb3.cell (k := 0) rfl)
    have hg3 := hbel3 w1.heap.size w1 (Nat.le_refl _) hg2
    go_ret
    exact ⟨by rw [HV.out]; rfl, Grows.trans hg01 hg3⟩
  · have HV : Hid ((pkVal f) = Value.bool false) := by show _ = _; unfold pkVal; simp [HF]
    have hg01 := Grows.trans hga hg1
    clear AT hra hba hga hr hl
    have hb2 := Has.new w1 48 [.bool false, .int .i64 0, .slice none 0 0, .int .u32 0]
    have hg2 := grows_alloc w1 (.cells #[.bool false, .int .i64 0, .slice none 0 0, .int .u32 0] 48)
    go_wp2_with (refine wpList_storev rfl 48 (.tmp 3) (.tmp 8) rfl w1.heap.size [.bool false, .int .i64 0, .slice none 0 0, .int .u32 0] [.bool false, .int .i64 0, .slice none 0 0, .int .u32 0] 4 rfl rfl hb2 rfl rfl parts_size (by simp [Value.oneCell']) ?_; intro w3 hb3 hbel3; have q := hb3.cell (k := 0) rfl)
    have hg3 := hbel3 w1.heap.size w1 (Nat.le_refl _) hg2
    go_ret
    exact ⟨by rw [HV.out]; rfl, Grows.trans hg01 hg3⟩
end Go.Proofs.Ythnjbmaiebiehaa
