/-
  Contracts of lz's first and repeat.
-/
import Derived.Test.YthnjbmaiebiehaaLzC
import Derived.Test.YthnjbmaiebiehaaOrd
import Derived.ScopeJumps
import Derived.WalkMore
namespace Go.Proofs.Ythnjbmaiebiehaa
open Go.RowKit
set_option linter.unusedVariables false

/-- What the first token tells: how many bytes it has, how many it makes, its distance, whether it is whole. -/
def tokOf : List UInt8 → Nat × Nat × Nat × Bool
  | [] => (0, 0, 0, false)
  | c :: r => if c.toNat < 128 then (c.toNat + 2, c.toNat + 1, 0, decide (c.toNat + 1 ≤ r.length)) else if r.length < 2 then (0, 0, 0, false) else (3, c.toNat - 124, 1 + (r.getD 0 0).toNat + 256 * (r.getD 1 0).toNat, true)
/-- A token as a value. -/
abbrev tv (t : Nat × Nat × Nat × Bool) : Value := .agg #[iv t.1, iv t.2.1, iv t.2.2.1]

theorem wrap_eq {a : Int} {n : Nat} (h : a = (n : Int)) (hn : n ≤ 1000000000000000) : IntKind.i64.wrap a = (n : Int) := by
  subst h
  simp [IntKind.wrap, IntKind.bits, IntKind.signed]
  omega
theorem tok_desc : (Try.prog.underlying 77).map (·.isRow) = some true := by kernel_rfl
theorem tok_size : (Try.prog.info? 77).map (·.size) = some 3 := by kernel_rfl
theorem res_has_tmp {P : Program} {w : World} {b : Nat} {vs : List Value} {fn : Func} {p q : Tmp} {t : TypeId} {d : TypeDesc} (h : fn.results = #[.cell p t, .tmp q]) (tmps : Array Value) (hp : tmps.getD p undef = .pointer (some ⟨b, 0, none⟩))
    (ht : P.underlying t = some d) (hd : d.isRow = true) (hi : (P.info? t).map (·.size) = some vs.length) (hb : Has w b vs) : (results fn tmps).run P w = .ok (.tuple #[.agg vs.toArray, tmps.getD q undef]) w := by
  rw [results_cell_tmp h, hp]
  simp only [asAddr, Sem.run_pure, Result.andThen_ok, run_loadVar_mid w b 0 t vs d hb.cells ht hd hi]

set_option maxRecDepth 20000 in
set_option maxHeartbeats 1000000 in
theorem first_any (A : Option Addr) (n c : Nat) (x : UInt8) (r : List UInt8) (w : World) (hl : r.length + 1 = n) (hr : Lies w w.heap.size A ((x :: r).map bv)) (hn : n ≤ 1000000000000) :
    Calls Try.prog 51 #[.slice A n c] w fun e w' => e = .returned (.tuple #[tv (tokOf (x :: r)), .bool (tokOf (x :: r)).2.2.2]) ∧ Grows w w' := by
  have HL := Lib.hid hl
  clear hl
  obtain ⟨td, htd, htr⟩ := Option.map_eq_some_iff.1 tok_desc
  obtain ⟨ad, rfl, _, cx⟩ := hr.at_ (j := 0) (u := bv x) rfl
  have hbox := Has.new w 77 [.int .i64 0, .int .i64 0, .int .i64 0]
  have c0 : (w.alloc (.cells #[.int .i64 0, .int .i64 0, .int .i64 0] 77)).cell? ad = some (bv x) := by rw [add_zero_addr] at cx; exact hcell_later cx (grows_alloc _ _)
  have hn0 : (0 : Int) < (n : Int) := by have := HL.out; omega
  have hx8 := x.toNat_lt
  by_cases h1 : x.toNat < 128
  · have HT : Hid (tokOf (x :: r) = (x.toNat + 2, x.toNat + 1, 0, decide (x.toNat + 1 ≤ r.length))) := by show _ = _; rw [tokOf, if_pos h1]
    go_enter Try.func51, Try.ntmps51
    go_wp2_with fail
    refine bodyPost_ret (res_has_tmp (vs := [.int .i64 (1 + ((x.toNat : Int) + 1)), .int .i64 ((x.toNat : Int) + 1), .int .i64 0]) rfl _ rfl htd htr tok_size (Has.new w 77 _)) rfl ?_
    refine ⟨?_, grows_alloc _ _⟩
    rw [HT.out]
    have e1 : (1 : Int) + ((x.toNat : Int) + 1) = ((x.toNat + 2 : Nat) : Int) := by omega
    have e2 : (x.toNat : Int) + 1 = ((x.toNat + 1 : Nat) : Int) := by omega
    have e3 : decide ((x.toNat : Int) + 1 < (n : Int)) = decide (x.toNat + 1 ≤ r.length) := by have := HL.out; rw [decide_eq_decide]; omega
    show Ending.returned (.tuple #[.agg #[.int .i64 (1 + ((x.toNat : Int) + 1)), .int .i64 ((x.toNat : Int) + 1), .int .i64 0], .bool (decide ((x.toNat : Int) + 1 < (n : Int)))]) = _
    rw [e1, e3, e2]
    rfl
  · by_cases h2 : r.length < 2
    · have HT : Hid (tokOf (x :: r) = (0, 0, 0, false)) := by show _ = _; rw [tokOf, if_neg h1, if_pos h2]
      have hn3 : (n : Int) < 3 := by have := HL.out; omega
      go_enter Try.func51, Try.ntmps51
      go_wp2_with fail
      refine bodyPost_ret (res_has_tmp (vs := [.int .i64 0, .int .i64 0, .int .i64 0]) rfl _ rfl htd htr tok_size (Has.new w 77 _)) rfl ?_
      refine ⟨?_, grows_alloc _ _⟩
      rw [HT.out]
      rfl
    · obtain ⟨y, z, r', rfl⟩ : ∃ y z r', r = y :: z :: r' := by
        match r, h2 with
        | y :: z :: r', _ => exact ⟨y, z, r', rfl⟩
        | [], h => simp at h
        | [_], h => simp at h
      have HT : Hid (tokOf (x :: y :: z :: r') = (3, x.toNat - 124, 1 + y.toNat + 256 * z.toNat, true)) := by show _ = _; rw [tokOf, if_neg h1, if_neg h2]; rfl
      have hn3 : (3 : Int) ≤ (n : Int) := by have := HL.out; simp at this; omega
      obtain ⟨ad1, e1, _, c1⟩ := hr.at_ (j := 1) (u := bv y) rfl
      injection e1 with e1
      subst e1
      obtain ⟨ad2, e2, _, c2⟩ := hr.at_ (j := 2) (u := bv z) rfl
      injection e2 with e2
      subst e2
      have hy8 := y.toNat_lt
      have hz8 := z.toNat_lt
      go_enter Try.func51, Try.ntmps51
      go_wp2_with fail
      have hgA : Grows w (w.alloc (.cells #[.int .i64 0, .int .i64 0, .int .i64 0] 77)) := grows_alloc _ _
      generalize w.alloc (.cells #[.int .i64 0, .int .i64 0, .int .i64 0] 77) = wa at *
      have l1 : ∀ u, Grows wa.drew u → u.cell? ⟨ad.block, ad.off + 1, none⟩ = some (bv y) := fun u hu => hcell_later (by simpa [Addr.add] using c1) (Grows.trans hgA (Grows.trans (Grows.refl wa).drew hu))
      have l2 : ∀ u, Grows wa.drew u → u.cell? ⟨ad.block, ad.off + 2, none⟩ = some (bv z) := fun u hu => hcell_later (by simpa [Addr.add] using c2) (Grows.trans hgA (Grows.trans (Grows.refl wa).drew hu))
      have k1 : (1 : Int) < (n : Int) := by omega
      have k2 : (2 : Int) < (n : Int) := by omega
      have k1' : 1 < n := by omega
      have k2' : 2 < n := by omega
      have v1 : IntKind.i64.wrap ((x.toNat : Int) - 128) = ((x.toNat - 128 : Nat) : Int) := wrap_eq (by omega) (by omega)
      have v2 : IntKind.i64.wrap (((x.toNat - 128 : Nat) : Int) + 4) = ((x.toNat - 124 : Nat) : Int) := wrap_eq (by omega) (by omega)
      have v3 : IntKind.i64.wrap (1 + (y.toNat : Int)) = 1 + (y.toNat : Int) := by rw [wrap_eq (n := 1 + y.toNat) (by omega) (by omega)]; omega
      have vy : IntKind.i64.wrap (y.toNat : Int) = (y.toNat : Int) := wrap_eq rfl (by omega)
      have vz : IntKind.i64.wrap (z.toNat : Int) = (z.toNat : Int) := wrap_eq rfl (by omega)
      have v4 : IntKind.i64.wrap ((z.toNat : Int) * 256) = 256 * (z.toNat : Int) := by rw [wrap_eq (n := 256 * z.toNat) (by omega) (by omega)]; omega
      have v5 : IntKind.i64.wrap (1 + (y.toNat : Int) + 256 * (z.toNat : Int)) = 1 + (y.toNat : Int) + 256 * (z.toNat : Int) := by rw [wrap_eq (n := 1 + y.toNat + 256 * z.toNat) (by omega) (by omega)]; omega
      have hO := Grows.refl wa.drew
      refine wp_region_ord 15 [(0, true), (1, true), (2, true), (3, true), (4, true), (5, true), (6, true), (7, true), (8, true), (9, true), (10, true), (11, true), (12, true), (13, true), (14, true)] (by kernel_rfl) (by kernel_rfl) ?_
      repeat (first | (refine ord_take hO _ ?_ (by simp only [List.getElem?_cons_succ, List.getElem?_cons_zero]; rfl) (by rfl) ?_ ?_; rotate_left; (· (intro u hu0 hu; (try go_simp); (try with_reducible rfl))); try simp only [Act.put, List.setIfInBounds_toArray, List.set_cons_zero, List.set_cons_succ]) | (refine ord_skip _ (by simp only [List.getElem?_cons_succ, List.getElem?_cons_zero]; rfl) (by rfl) ?_; try simp only [Act.put, List.setIfInBounds_toArray, List.set_cons_zero, List.set_cons_succ]))
      clear hO l1 l2 v1 v2 v3 v4 v5 vy vz
      (refine ord_done (fun u hu => ?_); simp only [List.drop_succ_cons, List.drop_zero])
      have hgu := Grows.trans hgA (Grows.trans (Grows.refl wa).drew hu)
      have hbu := hbox.later (Grows.trans (Grows.refl wa).drew hu)
      go_wp2_with (refine wpList_storev rfl 77 (.tmp 2) (.tmp 40) rfl w.heap.size [.int .i64 0, .int .i64 0, .int .i64 0] [.int .i64 3, iv (x.toNat - 124), .int .i64 (1 + (y.toNat : Int) + 256 * (z.toNat : Int))] 3 rfl rfl hbu rfl rfl tok_size (by simp [Value.oneCell']) ?_; intro w1 hbox1 hbel1)
      refine NoPanic.normal ?_
      go_wp2_with fail
      refine bodyPost_ret (res_has_tmp (vs := [.int .i64 3, iv (x.toNat - 124), .int .i64 (1 + (y.toNat : Int) + 256 * (z.toNat : Int))]) rfl _ rfl htd htr tok_size hbox1) rfl ?_
      refine ⟨?_, hbel1 w.heap.size w (Nat.le_refl _) hgu⟩
      have e9 : 1 + (y.toNat : Int) + 256 * (z.toNat : Int) = ((1 + y.toNat + 256 * z.toNat : Nat) : Int) := by omega
      rw [HT.out, e9]
      rfl

set_option maxRecDepth 20000 in
set_option maxHeartbeats 1000000 in
theorem repeat_any (v : Value) (base m : Nat) (out : List UInt8) (ln d : Nat) (w : World) (hown : w.ownsRow base 5 1 v m (out.map bv)) (hb : base ≤ w.heap.size) (hd : 1 ≤ d ∧ d ≤ m) (hn : m + ln ≤ 1000000000000) :
    Calls Try.prog 52 #[v, iv ln, iv d] w fun e w' => ∃ v', e = .returned v' ∧ w'.ownsRow base 5 1 v' (copyN ln d out).length ((copyN ln d out).map bv) ∧ Wrote v v' w w' := by
  obtain ⟨i0, hi0, hz0, hz1, hz2⟩ := info_parts byte_info
  have hm : out.length = m := by simpa using hown.1
  subst hm
  go_enter Try.func52, Try.ntmps52
  go_wp2
  go_loopw [0, 8] (fun p t wr => ∃ (k : Nat) (o' : List UInt8), k ≤ ln ∧ t = iv k ∧ Hid (o' = copyN k d out) ∧ o'.length = out.length + k ∧ wr.ownsRow base 5 1 p o'.length (o'.map bv) ∧ Wrote v p w wr) (fun _ t _ => ln - (intOf t).toNat)
  case atStart => exact ⟨0, out, Nat.zero_le _, rfl, rfl, rfl, hown, Wrote.refl _ _⟩
  case round =>
    obtain ⟨k, o', hk, rfl, HO, hol, hown', hw⟩ := hrel
    by_cases hlt : k < ln
    · obtain ⟨j, hj⟩ : ∃ j, j + d = o'.length := ⟨o'.length - d, by omega⟩
      have hjl : j < o'.length := by omega
      obtain ⟨x, hx⟩ : ∃ x, o'[j]? = some x := ⟨_, List.getElem?_eq_getElem hjl⟩
      have HN : Hid (o' ++ [x] = copyN (k + 1) d out) := by
        show _ = _
        rw [copyN_succ, ← HO.out, show o'.length - d = j by omega, List.getD, hx]; rfl
      obtain ⟨A', c', rfl, hk'⟩ := own_form hown'
      have hLo := Lies.of_own hown'
      obtain ⟨ad, rfl, _, cx⟩ := hLo.at_ (j := j) (u := bv x) (by rw [List.getElem?_map, hx]; rfl)
      clear hx hLo
      have hnew := Lies.new wr 5 [bv x]
      have hwb : base ≤ wr.heap.size := Nat.le_trans hb hw.grown.size
      generalize hol' : o'.length = L at *
      have hjd : (L : Int) - (d : Int) = (j : Int) := by omega
      have hLn : L + 1 ≤ 1000000000000 := by omega
      have HOL := Lib.hid hol
      have HOL' := Lib.hid hol'
      have HJ := Lib.hid hj
      clear hol hol' hj
      go_wp2_with (at_builtin; refine wpList_append_src _ rfl (.tmp 10) (.tmp 18) _ rfl base 5 i0 _ 1 Try.underlying22 hi0 hz0 hz1 hz2 rfl _ L _ rfl (hown'.alloc _) _ _ 1 1 [bv x] rfl rfl hnew (by simp [Value.oneCell']) (by unfold maxLen; omega) (by omega) (by rw [World.size_alloc]; omega) ?_; intro v1 w1 hown1 hg1 hat1)
      have hW1 := hw.trans (Wrote.later (grows_alloc _ _) (Wrote.app hg1 hat1))
      rw [show [bv x] = [x].map bv from rfl, ← List.map_append] at hown1
      go_roundw
      case rel => exact ⟨k + 1, o' ++ [x], by omega, by go_num, HN.out, by rw [List.length_append, HOL'.out, HOL.out]; rfl, by rw [List.length_append, HOL'.out]; exact hown1, hW1⟩
      case measure => simp [intOf]; omega
    · obtain rfl : k = ln := by omega
      have hown2 : wr.ownsRow base 5 1 u0 (copyN k d out).length ((copyN k d out).map bv) := by rw [← HO.out]; exact hown'
      go_wp2
      go_ret
      exact ⟨_, rfl, hown2, hw⟩

/-- A scope whose code jumps back to one label, ahead of which c0 stands. -/
theorem wp_jumps {P : Program} {a : Act} {w : World} {Q : Exit → Act → World → Prop} {c0 rest : Code} (l : Nat) (J : Act → World → Prop) (μ : Act → World → Nat) (hf : findLabel (c0.seq ((Code.label l).seq rest)) l = some (Code.skip.seq rest))
    (start : c0.wp P (Exit.then J (fun _ _ _ => False)) a w)
    (pass : ∀ a w, J a w → rest.wp P (Exit.jump l (fun a' w' => J a' w' ∧ μ a' w' < μ a w) Q) a w) : (Code.scope (c0.seq ((Code.label l).seq rest))).wp P Q a w := by
  refine wp_scope_jumps l J μ hf (wp_seq (wp_mono start fun e a w h => ?_)) (fun a w h => wp_seq (wp_skip (pass a w h)))
  cases e with
  | normal =>
    refine wp_seq (wp_label ?_)
    show rest.wp P (Exit.jump l J Q) a w
    refine wp_mono (pass a w h) fun e a w h => ?_
    cases e with
    | goto l' => exact ⟨h.1, h.2.1⟩
    | _ => exact h
  | _ => exact h.elim
end Go.Proofs.Ythnjbmaiebiehaa
