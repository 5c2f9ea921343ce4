/-
  Contracts of cut.May, bits.Len, cut.Mask, (*knife).lift, cut.newKnife.
-/
import Derived.Test.YtkgkkobdpgnicaaDoorCutB
import Derived.Test.YtkgkkobdpgnicaaDoorCutM
namespace Go.Proofs.YtkgkkobdpgnicaaDoor
open Go.RowKit
set_option linter.unusedVariables false

/-- Parameters as numbers. -/
def pz (a b c : Int) : Value := .agg #[.int .i64 a, .int .i64 b, .int .i64 c]
def mayZ (a b c : Int) : Bool := decide (1 ≤ a ∧ a ≤ b ∧ b ≤ c ∧ c ≤ 4096)
def pv (p : Prm) : Value := pz p.mn p.av p.mx
theorem may_ok {p : Prm} (h : p.Ok) : mayZ p.mn p.av p.mx = true := by
  have := h.mn; have := h.av; have := h.mx; have := h.top
  simp only [mayZ, decide_eq_true_eq]; omega
set_option maxHeartbeats 400000 in
theorem may_any (a b c : Int) (w : World) :
    Calls Tryd.prog 16 #[pz a b c] w fun e w' => e = .returned (.bool (mayZ a b c)) ∧ Grows w w' := by
  have hga := grows_alloc w (.cells #[.int .i64 a, .int .i64 b, .int .i64 c] 23)
  by_cases h1 : 1 ≤ a
  · by_cases h2 : a ≤ b
    · by_cases h3 : b ≤ c
      · by_cases h4 : c ≤ 4096
        · have hm : mayZ a b c = true := by simp [mayZ, h1, h2, h3, h4]
          rw [hm]
          have d1 : decide (1 ≤ a) = true := by simp [h1]
          have d2 : decide (a ≤ b) = true := by simp [h2]
          have d3 : decide (b ≤ c) = true := by simp [h3]
          have d4 : decide (c ≤ 4096) = true := by simp [h4]
          unfold pz
          go_enter Tryd.func16, Tryd.ntmps16
          go_wp2
          go_ret
          exact ⟨rfl, hga⟩
        · have hm : mayZ a b c = false := by simp [mayZ, h1, h2, h3, h4]
          rw [hm]
          have d1 : decide (1 ≤ a) = true := by simp [h1]
          have d2 : decide (a ≤ b) = true := by simp [h2]
          have d3 : decide (b ≤ c) = true := by simp [h3]
          have d4 : decide (c ≤ 4096) = false := by simp [h4]
          unfold pz
          go_enter Tryd.func16, Tryd.ntmps16
          go_wp2
          go_ret
          exact ⟨rfl, hga⟩
      · have hm : mayZ a b c = false := by simp [mayZ, h1, h2, h3]
        rw [hm]
        have d1 : decide (1 ≤ a) = true := by simp [h1]
        have d2 : decide (a ≤ b) = true := by simp [h2]
        have d3 : decide (b ≤ c) = false := by simp [h3]
        unfold pz
        go_enter Tryd.func16, Tryd.ntmps16
        go_wp2
        go_ret
        exact ⟨rfl, hga⟩
    · have hm : mayZ a b c = false := by simp [mayZ, h1, h2]
      rw [hm]
      have d1 : decide (1 ≤ a) = true := by simp [h1]
      have d2 : decide (a ≤ b) = false := by simp [h2]
      unfold pz
      go_enter Tryd.func16, Tryd.ntmps16
      go_wp2
      go_ret
      exact ⟨rfl, hga⟩
  · have hm : mayZ a b c = false := by simp [mayZ, h1]
    rw [hm]
    have d1 : decide (1 ≤ a) = false := by simp [h1]
    unfold pz
    go_enter Tryd.func16, Tryd.ntmps16
    go_wp2
    go_ret
    exact ⟨rfl, hga⟩

set_option maxHeartbeats 400000 in
theorem log2_half {n : Nat} (h : 2 ≤ n) : Nat.log2 n = Nat.log2 (n / 2) + 1 := by rw [Nat.log2_def, if_pos h]
theorem log2_256 {x : Nat} (h : 256 ≤ x) : Nat.log2 x = Nat.log2 (x / 256) + 8 := by
  rw [log2_half (n := x) (by omega), log2_half (n := x / 2) (by omega), log2_half (n := x / 2 / 2) (by omega), log2_half (n := x / 2 / 2 / 2) (by omega), log2_half (n := x / 2 / 2 / 2 / 2) (by omega),
    log2_half (n := x / 2 / 2 / 2 / 2 / 2) (by omega), log2_half (n := x / 2 / 2 / 2 / 2 / 2 / 2) (by omega), log2_half (n := x / 2 / 2 / 2 / 2 / 2 / 2 / 2) (by omega), show x / 2 / 2 / 2 / 2 / 2 / 2 / 2 / 2 = x / 256 by omega]
theorem ba_get (t : ByteArray) (i : Nat) (h : i < t.size) : t[i]'h = t.data.toList.getD i 0 := by
  show t.data[i] = _
  rw [List.getD_eq_getElem?_getD, Array.getElem?_toList, Array.getElem?_eq_getElem h]; rfl
set_option maxRecDepth 100000 in
theorem len64_any (x : Nat) (w : World) (h1 : 1 ≤ x) (h2 : x ≤ 4096) :
    Calls Tryd.prog 47 #[.int .u64 (x : Int)] w fun e w' => e = .returned (.int .i64 ((Nat.log2 x + 1 : Nat) : Int)) ∧ w = w' := by
  by_cases h3 : x < 256
  · go_enter Tryd.func47, Tryd.ntmps47
    have d1 : decide ((x : Int) ≥ 4294967296) = false := by simp; omega
    have d2 : decide ((x : Int) ≥ 65536) = false := by simp; omega
    have d3 : decide ((x : Int) ≥ 256) = false := by simp; omega
    go_wp2
    go_ret
    refine ⟨congrArg (fun z => Ending.returned (.int .i64 z)) ?_, rfl⟩
    clear d1 d2 d3
    obtain ⟨k, rfl⟩ : ∃ k : Fin 256, x = k.1 := ⟨⟨x, h3⟩, rfl⟩
    rename_i hx0
    rw [ba_get]
    clear hx0 h2 h3
    revert k
    decide +kernel
  · have hL := log2_256 (x := x) (by omega)
    rw [hL]
    have hq : (x : Int) / 256 = ((x / 256 : Nat) : Int) := by omega
    have hy1 : 1 ≤ x / 256 := by omega
    have hy2 : x / 256 ≤ 16 := by omega
    generalize x / 256 = y at *
    go_enter Tryd.func47, Tryd.ntmps47
    have d1 : decide ((x : Int) ≥ 4294967296) = false := by simp; omega
    have d2 : decide ((x : Int) ≥ 65536) = false := by simp; omega
    have d3 : decide ((x : Int) ≥ 256) = true := by simp; omega
    go_wp2
    go_ret
    refine ⟨congrArg (fun z => Ending.returned (.int .i64 z)) ?_, rfl⟩
    clear d1 d2 d3 hq hL
    rename_i hy0
    rw [ba_get]
    obtain ⟨k, rfl⟩ : ∃ k : Fin 17, y = k.1 := ⟨⟨y, by omega⟩, rfl⟩
    clear hy0 h1 h2 h3 hy2 x
    revert k
    decide +kernel
theorem len_any (x : Nat) (w : World) (h1 : 1 ≤ x) (h2 : x ≤ 4096) :
    Calls Tryd.prog 31 #[.int .u64 (x : Int)] w fun e w' => e = .returned (.int .i64 ((Nat.log2 x + 1 : Nat) : Int)) ∧ w = w' := by
  have L := fun u => len64_any x u h1 h2
  generalize Nat.log2 x + 1 = y at *
  go_enter Tryd.func31, Tryd.ntmps31
  go_wp2_with fail
  refine (L _).mono ?_
  rintro e w' ⟨rfl, rfl⟩
  go_wp2_with fail
  go_ret
  exact ⟨rfl, rfl⟩

/-- The mask. -/
def maskOf (a b c : Int) : Nat := if mayZ a b c = true then powOf b.toNat - 1 else 0
theorem mask_of {p : Prm} (h : p.Ok) : maskOf p.mn p.av p.mx = powOf p.av - 1 := by unfold maskOf; rw [if_pos (may_ok h)]; rfl
theorem log2_top {n : Nat} (h : n ≤ 4096) : Nat.log2 n ≤ 12 := by
  rcases Nat.eq_zero_or_pos n with rfl | h0
  · decide
  · exact Nat.lt_succ_iff.1 ((Nat.log2_lt (by omega)).2 (by omega))
theorem mask_any (a b c : Int) (w : World) :
    Calls Tryd.prog 17 #[pz a b c] w fun e w' => e = .returned (uv (maskOf a b c)) ∧ Grows w w' := by
  have hga := grows_alloc w (.cells #[.int .i64 a, .int .i64 b, .int .i64 c] 23)
  have M := fun u => may_any a b c u
  unfold pz at *
  cases hm : mayZ a b c with
  | true =>
    have hmk : maskOf a b c = powOf b.toNat - 1 := by simp [maskOf, hm]
    rw [hm] at M
    simp only [mayZ, decide_eq_true_eq] at hm
    obtain ⟨n, rfl⟩ : ∃ n : Nat, b = (n : Int) := ⟨b.toNat, by omega⟩
    rw [hmk, Int.toNat_natCast]
    have hk := log2_top (n := n) (by omega)
    have L := fun u => len_any n u (by omega) (by omega)
    unfold powOf
    generalize Nat.log2 n = k at *
    have hp : (2 : Nat) ^ k ≤ 4096 := Nat.le_trans (Nat.pow_le_pow_right (by omega) hk) (by decide)
    have hp1 : 0 < (2 : Nat) ^ k := Nat.two_pow_pos k
    have hn1 : n ≤ 4096 := by omega
    go_enter Tryd.func17, Tryd.ntmps17
    go_wp2_with fail
    refine (M _).mono ?_
    rintro e w1 ⟨rfl, hg⟩
    have hc : w1.cell? ⟨w.heap.size, 1, none⟩ = some (.int .i64 (n : Int)) := hcell_later (by simp) hg
    have hg2 := Grows.trans hga hg
    have hcv : IntKind.u64.wrap (n : Int) = (n : Int) := by rw [IntKind.wrap_u64]; omega
    go_wp2_with fail
    refine (L _).mono ?_
    rintro e w2 ⟨rfl, rfl⟩
    have hk1 : ((k + 1 : Nat) : Int) - 1 = (k : Int) := by omega
    go_wp2_with fail
    go_ret
    refine ⟨ret_u32 ?_, hg2⟩
    rw [show (2 : Int) ^ k = ((2 ^ k : Nat) : Int) by simp]
    generalize 2 ^ k = q at *
    omega
  | false =>
    have hmk : maskOf a b c = 0 := by simp [maskOf, hm]
    rw [hm] at M
    rw [hmk]
    go_enter Tryd.func17, Tryd.ntmps17
    go_wp2_with fail
    refine (M _).mono ?_
    rintro e w1 ⟨rfl, hg⟩
    have hg2 := Grows.trans hga hg
    go_wp2_with fail
    go_ret
    exact ⟨rfl, hg2⟩

/-- A knife's cells in block b, over the roll in block rb, of the bytes since the last cut. -/
structure Knife (w : World) (b rb : Nat) (p : Prm) (l : List UInt8) : Prop where
  has : Has w b [.int .i64 p.mn, .int .i64 p.av, .int .i64 p.mx, uv (powOf p.av - 1), .pointer (some ⟨rb, 0, none⟩), .int .i64 (l.length : Int)]
  roll : Rolls w rb l
  ne : b ≠ rb
  kb : b ≠ 0
  kr : rb ≠ 0
/-- The knife's two blocks. -/
def KB (b rb : Nat) (k : Nat) : Prop := k = b ∨ k = rb
theorem Knife.turned {w w' : World} {b rb : Nat} {p : Prm} {l : List UInt8} {S : Nat → Prop} (K : Knife w b rb p l) (ht : Turns S w w') (h1 : ¬ S b) (h2 : ¬ S rb) : Knife w' b rb p l := ⟨K.has.turned ht h1, K.roll.turned ht h2, K.ne, K.kb, K.kr⟩
theorem Knife.later {w w' : World} {b rb : Nat} {p : Prm} {l : List UInt8} (K : Knife w b rb p l) (hg : Grows w w') : Knife w' b rb p l := ⟨K.has.later hg, K.roll.later hg, K.ne, K.kb, K.kr⟩
theorem lift_any (b rb : Nat) (p : Prm) (l : List UInt8) (w : World) (K : Knife w b rb p l) :
    Calls Tryd.prog 38 #[.pointer (some ⟨b, 0, none⟩)] w fun e w' => e = .returned (.tuple #[]) ∧ Knife w' b rb p [] ∧ Turns (KB b rb) w w' := by
  have hc := K.has.cell (k := 4) rfl
  have R := reset_any rb l w K.roll
  go_enter Tryd.func38, Tryd.ntmps38
  go_wp2_with fail
  refine R.mono ?_
  rintro e w1 ⟨rfl, hr1, ht1⟩
  have hb1 := K.has.turned ht1 (by have := K.ne; omega)
  have hc5 := hb1.cell (k := 5) rfl
  have hf5 := hb1.free 5
  have hb2 := hb1.set_ (k := 5) (by simp) (.int .i64 0)
  have hr2 : Rolls (w1.setCell ⟨b, 5, none⟩ (.int .i64 0)) rb [] := hr1.turned (Turns.of_set (S := fun k => k = b) w1 _ rfl) (by have := K.ne; omega)
  have ht2 : Turns (KB b rb) w (w1.setCell ⟨b, 5, none⟩ (.int .i64 0)) := (ht1.mono fun _ _ h => .inr h).trans (Turns.of_set w1 _ (.inl rfl))
  go_wp2_with fail
  go_end0
  exact ⟨rfl, ⟨hb2, hr2, K.ne, K.kb, K.kr⟩, ht2⟩

theorem newknife_any (p : Prm) (w : World) (hp : p.Ok) (hs : Starts w) :
    Calls Tryd.prog 28 #[pv p] w fun e w' => ∃ b rb, e = .returned (.pointer (some ⟨b, 0, none⟩)) ∧ w.heap.size ≤ b ∧ w.heap.size ≤ rb ∧ Knife w' b rb p [] ∧ Grows w w' := by
  have hz := hs.pos
  have M : Hid (∀ u, Calls Tryd.prog 17 #[pv p] u fun e w' => e = .returned (uv (powOf p.av - 1)) ∧ Grows u w') := fun u => by
    have := mask_any p.mn p.av p.mx u
    rwa [mask_of hp] at this
  have hN := Has.new w 23 [.int .i64 (p.mn : Int), .int .i64 (p.av : Int), .int .i64 (p.mx : Int)]
  have hga := grows_alloc w (.cells #[.int .i64 (p.mn : Int), .int .i64 (p.av : Int), .int .i64 (p.mx : Int)] 23)
  unfold pv pz at *
  obtain ⟨mk, hmk⟩ : ∃ mk, mk = powOf p.av - 1 := ⟨_, rfl⟩
  rw [← hmk] at M
  have HMK := Lib.hid hmk
  clear hmk
  go_enter Tryd.func28, Tryd.ntmps28
  go_wp2_with fail
  generalize hw1 : w.alloc (.cells #[.int .i64 (p.mn : Int), .int .i64 (p.av : Int), .int .i64 (p.mx : Int)] 23) = w1 at *
  have HW1 : Hid (w1.heap.size = w.heap.size + 1) := by show _ = _; rw [← hw1]; simp
  clear hw1
  have hld := hN.load (P := Tryd.prog) Tryd.underlying23 rfl (by kernel_rfl)
  refine wp_region_ord 7 [(0, true), (1, true), (2, true), (3, false), (4, true), (5, false), (6, true)] (by kernel_rfl) (by kernel_rfl) ?_
  have hgd := (Grows.refl w1).drew
  have ldP : ∀ u, Grows w1.drew u → (Instr.loadAt 23 (.pointer (some ⟨w.heap.size, 0, none⟩))).run Tryd.prog u = .ok (.agg #[.int .i64 (p.mn : Int), .int .i64 (p.av : Int), .int .i64 (p.mx : Int)]) u := fun u hu =>
    (hN.later (Grows.trans hgd hu)).load (P := Tryd.prog) Tryd.underlying23 rfl (by kernel_rfl)
  have hO := Grows.refl w1.drew
  generalize hwd : w1.drew = wd at *
  clear hwd
  repeat (first | (refine ord_load hO _ _ (by simp only [List.getElem?_cons_succ, List.getElem?_cons_zero]; rfl) (by rfl) 23 (.tmp 1) (by rfl) _ (by rfl) ldP ?_; try simp only [Act.put, List.setIfInBounds_toArray, List.set_cons_zero, List.set_cons_succ]) | (refine ord_take hO _ ?_ (by simp only [List.getElem?_cons_succ, List.getElem?_cons_zero]; rfl) (by rfl) ?_ ?_; rotate_left; (· (intro u hu0 hu; (try go_simp); (try with_reducible rfl))); try simp only [Act.put, List.setIfInBounds_toArray, List.set_cons_zero, List.set_cons_succ]) | (refine ord_skip _ (by simp only [List.getElem?_cons_succ, List.getElem?_cons_zero]; rfl) (by rfl) ?_; try simp only [Act.put, List.setIfInBounds_toArray, List.set_cons_zero, List.set_cons_succ]) | (refine ord_call hO _ ?_ (by simp only [List.getElem?_cons_succ, List.getElem?_cons_zero]; rfl) (by rfl) ?_ ?_; rotate_left; (· (intro u hu0 hu; go_simp; (try refine quiet_enter ?_); (with_reducible exact M.out u))); try simp only [Act.put, List.setIfInBounds_toArray, List.set_cons_zero, List.set_cons_succ]))
  (refine ord_move _ (by simp only [List.getElem?_cons_succ, List.getElem?_cons_zero]; rfl) (by rfl) (fun u hu K hK => ?_); go_simp)
  refine (rollnew_any u).mono ?_
  rintro e w4 ⟨rb, rfl, hrb, hr4, hg4⟩
  refine hK.out _ _ hg4 ?_
  clear hK K hO ldP hld
  have hg5 : Grows w w4 := Grows.trans hga (Grows.trans hgd (Grows.trans hu hg4))
  have hrb5 : w.heap.size ≤ rb := Nat.le_trans (Grows.trans hga (Grows.trans hgd hu)).size hrb
  clear hgd hu hg4 hrb
  have hO := Grows.refl w4
  repeat (first | (refine ord_take hO _ ?_ (by simp only [List.getElem?_cons_succ, List.getElem?_cons_zero]; rfl) (by rfl) ?_ ?_; rotate_left; (· (intro u hu0 hu; (try go_simp); (try with_reducible rfl))); try simp only [Act.put, List.setIfInBounds_toArray, List.set_cons_zero, List.set_cons_succ]) | (refine ord_skip _ (by simp only [List.getElem?_cons_succ, List.getElem?_cons_zero]; rfl) (by rfl) ?_; try simp only [Act.put, List.setIfInBounds_toArray, List.set_cons_zero, List.set_cons_succ]))
  (refine ord_move _ (by simp only [List.getElem?_cons_succ, List.getElem?_cons_zero]; rfl) (by rfl) (fun u hu K hK => ?_); go_simp)
  refine hK.out _ _ (grows_alloc _ _) ?_
  clear hK K hO
  have hgu : Grows w u := Grows.trans hg5 hu
  have hru := hr4.later hu
  have hbn := Has.new u 81 [.int .i64 (p.mn : Int), .int .i64 (p.av : Int), .int .i64 (p.mx : Int), uv mk, .pointer (some ⟨rb, 0, none⟩), .int .i64 0]
  have hg6 : Grows u (u.alloc (.cells [.int .i64 (p.mn : Int), .int .i64 (p.av : Int), .int .i64 (p.mx : Int), uv mk, .pointer (some ⟨rb, 0, none⟩), .int .i64 0].toArray 81)) := grows_alloc _ _
  have hru6 := hru.later hg6
  have hge : w.heap.size ≤ u.heap.size := hgu.size
  have hne : u.heap.size ≠ rb := by have := hru.lt; omega
  have hg7 := Grows.trans hgu hg6
  clear hu hg6 hru hgu
  generalize u.heap.size = b at *
  generalize hw7 : u.alloc (.cells [.int .i64 (p.mn : Int), .int .i64 (p.av : Int), .int .i64 (p.mx : Int), uv mk, .pointer (some ⟨rb, 0, none⟩), .int .i64 0].toArray 81) = w7 at *
  clear hw7
  have hO := Grows.refl w7
  repeat (first | (refine ord_take hO _ ?_ (by simp only [List.getElem?_cons_succ, List.getElem?_cons_zero]; rfl) (by rfl) ?_ ?_; rotate_left; (· (intro u hu0 hu; (try go_simp); (try with_reducible rfl))); try simp only [Act.put, List.setIfInBounds_toArray, List.set_cons_zero, List.set_cons_succ]) | (refine ord_skip _ (by simp only [List.getElem?_cons_succ, List.getElem?_cons_zero]; rfl) (by rfl) ?_; try simp only [Act.put, List.setIfInBounds_toArray, List.set_cons_zero, List.set_cons_succ]))
  refine ord_done (fun w8 hu => ?_); simp only [List.drop_succ_cons, List.drop_zero]
  have hb8 := hbn.later hu
  have hr8 := hru6.later hu
  have hg8 := Grows.trans hg7 hu
  clear hu hg7
  go_wp2_with fail
  refine NoPanic.normal ?_
  go_wp2_with fail
  go_ret
  exact ⟨b, rb, rfl, hge, hrb5, ⟨by rw [← HMK.out]; exact hb8, hr8, hne, by omega, by omega⟩, hg8⟩
end Go.Proofs.YtkgkkobdpgnicaaDoor
