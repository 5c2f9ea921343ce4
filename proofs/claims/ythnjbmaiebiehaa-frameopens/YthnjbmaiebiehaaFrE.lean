/-
  Contracts of frame's attempt (of bytes) and Open.
-/
import Derived.Test.YthnjbmaiebiehaaFrD
namespace Go.Proofs.Ythnjbmaiebiehaa
open Go.RowKit
set_option linter.unusedVariables false

theorem Lies.own_set {w : World} {base : Nat} {e : TypeId} {A : Option Addr} {n c : Nat} {vs : List Value} {p : Addr} {x : Value} (h : w.ownsRow base e 1 (.slice A n c) n vs) (hp : p.block < base) : Lies (w.setCell p x) (w.setCell p x).heap.size A vs := fun j u hu => by
  obtain ⟨ad, rfl, hb, hc⟩ := Lies.of_own h j u hu
  have hge := (h.lt ad.block rfl).1
  refine ⟨ad, rfl, by rw [World.size_setCell]; exact hb, ?_⟩
  rw [World.cell?_setCell_other w _ _ _ (by intro e; have := congrArg Addr.block e; rw [add_block] at this; omega)]
  exact hc

theorem attempt_any (p0 p1 : Value) (r : List UInt8 × Nat) (w : World) (h : ∀ u, Grows w u → Calls Try.prog 25 #[p0, p1] u fun e w' => OOut r u e w') :
    Calls Try.prog 24 #[.func (.func 25) #[] #[p0, p1]] w fun e w' => ∃ A c', e = .returned (.tuple #[.slice A r.1.length c', iv r.2]) ∧ r.1.length ≤ c' ∧ Lies w' w'.heap.size A (r.1.map bv) ∧ Grows w w' := by
  have hmf : ∀ (fn : Fn) (first cap : Array Value) (w : World), (Instr.makeFunc fn first cap).run Try.prog w = .ok (.func fn first cap) w := fun _ _ _ _ => rfl
  have hg0 := grows_alloc w (.cells #[.int .i64 0] 28)
  have hb0 := Has.new w 28 [.int .i64 0]
  have HC := Lib.hid (h _ hg0)
  go_enter_defers Try.func24, Try.ntmps24
  go_wp2_with fail
  refine HC.out.mono ?_
  rintro e w1 (⟨h0, v, rfl, hown, hg1⟩ | ⟨hne, hnil, rfl, hg1⟩)
  · have hb1 := hb0.later hg1
    have q0 := hb1.cell (k := 0) rfl
    have qf := hb1.free 0
    obtain ⟨A, c', rfl, hc'⟩ := own_form hown
    have hLs := Lies.own_set (p := ⟨w.heap.size, 0, none⟩) (x := .int .i64 0) hown (by rw [World.size_alloc]; show w.heap.size < _; omega)
    have hgs : Below w.heap.size w (w1.setCell ⟨w.heap.size, 0, none⟩ (.int .i64 0)) := Below.setCell (Grows.trans hg0 hg1) (p := ⟨w.heap.size, 0, none⟩) (Nat.le_refl _) _
    go_wp2
    refine leaves_cons (f := 43) (args := #[.pointer (some ⟨w.heap.size, 0, none⟩)]) (by simp) (by simp [go_sem]) ?_
    refine (catch_idle ⟨w.heap.size, 0, none⟩ _).mono ?_
    rintro e u' w'' ⟨rfl, rfl, rfl⟩
    have q1 : (w1.setCell ⟨w.heap.size, 0, none⟩ (.int .i64 0)).cell? ⟨w.heap.size, 0, none⟩ = some (.int .i64 0) := World.cell?_setCell_same w1 _ _ q0
    simp [Leaves, settle, results, Try.results24, go_sem, q1]
    exact ⟨A, c', ⟨⟨rfl, rfl⟩, by rw [h0]; rfl⟩, hc', by simpa using hLs, hgs⟩
  · have hb1 := hb0.later hg1
    have q0 := hb1.cell (k := 0) rfl
    have qf := hb1.free 0
    have hgs : Below w.heap.size w (w1.setCell ⟨w.heap.size, 0, none⟩ (iv r.2)) := Below.setCell (Grows.trans hg0 hg1) (p := ⟨w.heap.size, 0, none⟩) (Nat.le_refl _) _
    refine leaves_cons (f := 43) (args := #[.pointer (some ⟨w.heap.size, 0, none⟩)]) (by simp) (by simp [go_sem]) ?_
    refine (catch_panicking ⟨w.heap.size, 0, none⟩ 0 r.2 [] _ q0 qf).mono ?_
    rintro e u' w'' ⟨rfl, rfl, rfl⟩
    have q1 : (w1.setCell ⟨w.heap.size, 0, none⟩ (iv r.2)).cell? ⟨w.heap.size, 0, none⟩ = some (iv r.2) := World.cell?_setCell_same w1 _ _ q0
    simp [Leaves, settle, results, Try.results24, go_sem, q1]
    rw [hnil]
    exact ⟨none, 0, ⟨rfl, rfl, rfl⟩, Nat.le_refl _, Lies.empty, hgs⟩

theorem open_any (A : Option Addr) (n c : Nat) (f : List UInt8) (most : Int) (w : World) (hl : f.length = n) (hr : Lies w w.heap.size A (f.map bv)) (hc : n ≤ c) (hn : n ≤ 1000000000) :
    Calls Try.prog 11 #[.slice A n c, .int .i64 most] w fun e w' => ∃ (l : List UInt8) (er ln c' : Nat) (A' : Option Addr), Hid (openOf f most = (l, er)) ∧ Hid (l.length = ln) ∧ e = .returned (.tuple #[.slice A' ln c', iv er]) ∧ ln ≤ c' ∧ Lies w' w'.heap.size A' (l.map bv) ∧ Grows w w' := by
  have hmf : ∀ (fn : Fn) (first cap : Array Value) (w : World), (Instr.makeFunc fn first cap).run Try.prog w = .ok (.func fn first cap) w := fun _ _ _ _ => rfl
  have hga := grows_alloc w (.cells #[.slice A n c] 22)
  have hba := Has.new w 22 [.slice A n c]
  have hgb := grows_alloc (w.alloc (.cells #[.slice A n c] 22)) (.cells #[.int .i64 most] 3)
  have hbb := Has.new (w.alloc (.cells #[.slice A n c] 22)) 3 [.int .i64 most]
  have hba2 := hba.later hgb
  have hg2 := Grows.trans hga hgb
  have hr2 := hr.later hg2
  have hsz : (w.alloc (.cells #[.slice A n c] 22)).heap.size = w.heap.size + 1 := World.size_alloc _ _
  rw [hsz] at hbb
  have AT := attempt_any (.pointer (some ⟨w.heap.size, 0, none⟩)) (.pointer (some ⟨w.heap.size + 1, 0, none⟩)) (openOf f most) _ (fun u hu => open1_any w.heap.size (w.heap.size + 1) A n c f most u (hba2.later hu) (hbb.later hu) hl (hr2.later hu) hc hn)
  have HAT := Lib.hid AT
  clear AT
  go_enter Try.func11, Try.ntmps11
  go_wp2_with fail
  refine HAT.out.mono ?_
  rintro e w1 ⟨A', c', rfl, hc', hL', hg1⟩
  obtain ⟨l, er, ho⟩ : ∃ l er, openOf f most = (l, er) := ⟨_, _, rfl⟩
  simp only [ho] at hc' hL' ⊢
  have HO := Lib.hid ho
  clear ho HAT
  go_wp2_with fail
  go_ret2
  exact ⟨l, er, _, c', A', HO, rfl, rfl, hc', hL', Grows.trans hg2 hg1⟩
end Go.Proofs.Ythnjbmaiebiehaa
