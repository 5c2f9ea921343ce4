/-
  Contracts of lz's Count and Unpack.
-/
import Derived.Test.YthnjbmaiebiehaaLzF
namespace Go.Proofs.Ythnjbmaiebiehaa
open Go.RowKit
set_option linter.unusedVariables false

/-- What a token's parts say of the whole. -/
theorem tok_none {x : UInt8} {r : List UInt8} (h : (tokOf (x :: r)).2.2.2 = false) : (∀ k, cnt (x :: r) k = none) ∧ ∀ most out, unp most (x :: r) out = ([], 2) := by
  rw [tokOf] at h
  by_cases h1 : x.toNat < 128
  · rw [if_pos h1] at h
    have h2 : r.length < x.toNat + 1 := by simpa using h
    exact ⟨fun k => cnt_lit_none h1 h2, fun most out => unp_lit_form h1 h2⟩
  · rw [if_neg h1] at h
    by_cases h2 : r.length < 2
    · exact ⟨fun k => cnt_mat_none h1 h2, fun most out => unp_mat_short h1 h2⟩
    · rw [if_neg h2] at h; cases h
theorem tok_some {x : UInt8} {r : List UInt8} {sz ln ds : Nat} (h : tokOf (x :: r) = (sz, ln, ds, true)) : 1 ≤ sz ∧ sz ≤ r.length + 1 ∧ 1 ≤ ln ∧ ln ≤ 131 ∧ ds ≤ 65536 ∧ (∀ k, cnt (x :: r) k = cnt ((x :: r).drop sz) (k + 1)) ∧
    (ds = 0 → sz = ln + 1) ∧ (∀ (most : Int) (out : List UInt8), (out.length < ds → unp most (x :: r) out = ([], 2)) ∧ (¬ out.length < ds → most < (out.length : Int) + ln → unp most (x :: r) out = ([], 3)) ∧
      (¬ most < (out.length : Int) + ln → ds = 0 → unp most (x :: r) out = unp most ((x :: r).drop sz) (out ++ ((x :: r).drop 1).take ln)) ∧
      (¬ out.length < ds → ¬ most < (out.length : Int) + ln → ds ≠ 0 → unp most (x :: r) out = unp most ((x :: r).drop sz) (copyN ln ds out))) := by
  rw [tokOf] at h
  have hx := x.toNat_lt
  by_cases h1 : x.toNat < 128
  · rw [if_pos h1] at h
    simp only [Prod.mk.injEq] at h
    obtain ⟨rfl, rfl, rfl, h2⟩ := h
    have h3 : ¬ r.length < x.toNat + 1 := by have := of_decide_eq_true h2; omega
    refine ⟨by omega, by omega, by omega, by omega, by omega, fun k => by rw [cnt_lit h1 h3]; rfl, fun _ => rfl, fun most out => ⟨fun h => by omega, fun _ h => unp_lit_range h1 h3 (by omega), fun h _ => ?_, fun _ _ h => absurd rfl h⟩⟩
    rw [unp_lit h1 h3 (by omega)]; rfl
  · rw [if_neg h1] at h
    by_cases h2 : r.length < 2
    · rw [if_pos h2] at h; simp at h
    · rw [if_neg h2] at h
      simp only [Prod.mk.injEq] at h
      obtain ⟨rfl, rfl, rfl, _⟩ := h
      have hy := (r.getD 0 0).toNat_lt
      have hz := (r.getD 1 0).toNat_lt
      refine ⟨by omega, by omega, by omega, by omega, by omega, fun k => by rw [cnt_mat h1 h2]; rfl, fun h => by omega, fun most out => ⟨fun h => unp_mat_far h1 h2 h, fun h h' => unp_mat_range h1 h2 h (by omega), fun _ h => by omega, fun h h' _ => ?_⟩⟩
      rw [unp_mat h1 h2 h (by omega)]; rfl

/-- How many tokens, and the error, as values. -/
def countVal : Option Nat → Value
  | some t => .tuple #[iv t, .int .i64 0]
  | none => .tuple #[.int .i64 0, .int .i64 2]

set_option maxRecDepth 20000 in
set_option maxHeartbeats 4000000 in
theorem unpack_any (A : Option Addr) (n c : Nat) (bs : List UInt8) (most : Int) (w : World) (hl : bs.length = n) (hr : Lies w w.heap.size A (bs.map bv)) (hc : n ≤ c) (hn : n ≤ 1000000000) (hmo : -9223372036854775808 ≤ most ∧ most ≤ 9223372036854775807) :
    Calls Try.prog 46 #[.slice A n c, .int .i64 most] w fun e w' => ∃ v, e = .returned (.tuple #[v, iv (unpackOf bs most).2]) ∧ w'.ownsRow w.heap.size 5 1 v (unpackOf bs most).1.length ((unpackOf bs most).1.map bv) ∧ Grows w w' := by
  obtain ⟨i0, hi0, hz0, hz1, hz2⟩ := info_parts byte_info
  obtain ⟨mo1, mo2⟩ := hmo
  go_enter Try.func46, Try.ntmps46
  go_wp2
  refine wp_jumps 0 (fun a' w' => ∃ (A' : Option Addr) (m c' : Nat) (r : List UInt8) (pv : Value) (out : List UInt8) (u7 u8 u9 u10 u11 u12 u13 u14 u15 u16 u17 u18 u19 u20 u21 u22 u23 u24 u25 u26 u27 u28 u29 u30 u31 u32 u33 u34 u35 u36 u37 u38 u39 u40 u41 u42 u43 u44 u45 u46 u47 u48 u49 u50 u51 u52 : Value), a' = { tmps := #[.slice A' m c', .int .i64 most, undef, undef, .slice none 0 0, .int .i64 0, pv, u7, u8, u9, u10, u11, u12, u13, u14, u15, u16, u17, u18, u19, u20, u21, u22, u23, u24, u25, u26, u27, u28, u29, u30, u31, u32, u33, u34, u35, u36, u37, u38, u39, u40, u41, u42, u43, u44, u45, u46, u47, u48, u49, u50, u51, u52], defers := [] } ∧ r.length = m ∧ m ≤ c' ∧ out.length + 131 * m ≤ 131 * n ∧
    (out.length = 0 ∨ (out.length : Int) ≤ most) ∧ Lies w' w.heap.size A' (r.map bv) ∧ w'.ownsRow w.heap.size 5 1 pv out.length (out.map bv) ∧ Hid (unp most r out = unpackOf bs most) ∧ Grows w w') (fun a' _ => slen (a'.tmps.getD 0 undef)) rfl ?_ ?_
  · go_wp2
    exact ⟨A, n, c, bs, _, [], _, _, _, _, _, _, _, _, _, _, _, _, _, _, _, _, _, _, _, _, _, _, _, _, _, _, _, _, _, _, _, _, _, _, _, _, _, _, _, _, _, _, _, _, _, _, rfl, hl, hc, by simp, .inl rfl, hr, World.ownsRow_nil _ _ _ _, rfl, Grows.refl _⟩
  · rintro a1 w1 ⟨A', m, c', r, pv, out, u7, u8, u9, u10, u11, u12, u13, u14, u15, u16, u17, u18, u19, u20, u21, u22, u23, u24, u25, u26, u27, u28, u29, u30, u31, u32, u33, u34, u35, u36, u37, u38, u39, u40, u41, u42, u43, u44, u45, u46, u47, u48, u49, u50, u51, u52, rfl, hrl, hmc, hlen, hom, hL, hown, HC, hg1⟩
    match r, hrl, hL, HC with
    | [], hrl, hL, HC =>
      obtain rfl : m = 0 := by simpa using hrl.symm
      have HV : Hid (unpackOf bs most = (out, 0)) := by show _ = _; rw [← HC.out, unp_nil]
      go_wp2
      simp only [Exit.jump]
      go_ret2
      rw [HV.out]
      exact ⟨_, rfl, hown, hg1⟩
    | x :: r', hrl, hL, HC =>
      have hrl' : r'.length + 1 = m := by simpa using hrl
      have hwb1 : w.heap.size ≤ w1.heap.size := hg1.size
      have hfirst := first_any A' m c' x r' w1 hrl' (hL.mono hwb1) (by omega)
      have HTN := Lib.hid (@tok_none x r')
      have hm0 : ¬ ((m : Int) = 0) := by omega
      have hmb : ((m : Int) == 0) = false := by simpa using hm0
      obtain ⟨sz, ln, ds, wh, htok⟩ : ∃ sz ln ds wh, tokOf (x :: r') = (sz, ln, ds, wh) := ⟨_, _, _, _, rfl⟩
      rw [htok] at hfirst HTN
      simp only [] at hfirst HTN
      have HTK := Lib.hid htok
      clear htok
      have HRL := Lib.hid hrl
      have HRL' := Lib.hid hrl'
      clear hrl hrl'
      obtain ⟨L, hLo⟩ : ∃ L, out.length = L := ⟨_, rfl⟩
      have HOL := Lib.hid hLo
      rw [hLo] at hown hlen hom
      clear hLo
      obtain ⟨Ab, cb, rfl, hcb⟩ := own_form hown
      go_wp2_with fail
      refine hfirst.mono ?_
      rintro e w2 ⟨rfl, hg2⟩
      clear hfirst
      have hg3 := Grows.trans (Grows.trans hg1 hg2) (grows_alloc w2 (.cells #[.int .i64 (sz : Int), .int .i64 (ln : Int), .int .i64 (ds : Int)] 77))
      have hg13 := Grows.trans hg2 (grows_alloc w2 (.cells #[.int .i64 (sz : Int), .int .i64 (ln : Int), .int .i64 (ds : Int)] 77))
      have hL3 := hL.below (hg13.mono hwb1)
      have hown3 := own_later hown hg13
      have hwb3 := Nat.le_trans hwb1 hg13.size
      have hneb : some w2.heap.size ≠ (Value.slice Ab L cb).ownBlock := fun e => by have := (hown.lt _ e.symm).2; have := hg2.size; omega
      clear hL hown
      have f0 : (w2.alloc (.cells #[.int .i64 (sz : Int), .int .i64 (ln : Int), .int .i64 (ds : Int)] 77)).cell? ⟨w2.heap.size, 0, none⟩ = some (iv sz) := by rw [cell_of_row _ _ _ _ 77 (0, 0) (heap_alloc_new w2 _)]; rfl
      have f1 : (w2.alloc (.cells #[.int .i64 (sz : Int), .int .i64 (ln : Int), .int .i64 (ds : Int)] 77)).cell? ⟨w2.heap.size, 1, none⟩ = some (iv ln) := by rw [cell_of_row _ _ _ _ 77 (0, 0) (heap_alloc_new w2 _)]; rfl
      have f2 : (w2.alloc (.cells #[.int .i64 (sz : Int), .int .i64 (ln : Int), .int .i64 (ds : Int)] 77)).cell? ⟨w2.heap.size, 2, none⟩ = some (iv ds) := by rw [cell_of_row _ _ _ _ 77 (0, 0) (heap_alloc_new w2 _)]; rfl
      cases wh with
      | false =>
        have HV : Hid (unpackOf bs most = ([], 2)) := by show _ = _; rw [← HC.out]; exact (HTN.out rfl).2 most out
        go_wp2_with fail
        simp only [Exit.jump]
        go_ret2
        rw [HV.out]
        exact ⟨_, rfl, World.ownsRow_nil _ _ _ _, hg3⟩
      | true =>
        obtain ⟨s1, s2, s3, s4, s5, s6, s7, s8⟩ := tok_some HTK.out
        rw [HRL'.out] at s2
        clear s6
        by_cases hdl : L < ds
        · have HV : Hid (unpackOf bs most = ([], 2)) := by show _ = _; rw [← HC.out]; exact (s8 most out).1 (by rw [HOL.out]; exact hdl)
          go_wp2_with fail
          simp only [Exit.jump]
          go_ret2
          rw [HV.out]
          exact ⟨_, rfl, World.ownsRow_nil _ _ _ _, hg3⟩
        · have hsub : -9223372036854775808 ≤ most - (L : Int) ∧ most - (L : Int) ≤ 9223372036854775807 := by omega
          by_cases hrg : most - (L : Int) < (ln : Int)
          · have HV : Hid (unpackOf bs most = ([], 3)) := by show _ = _; rw [← HC.out]; exact (s8 most out).2.1 (by rw [HOL.out]; exact hdl) (by rw [HOL.out]; omega)
            go_wp2_with fail
            simp only [Exit.jump]
            go_ret2
            rw [HV.out]
            exact ⟨_, rfl, World.ownsRow_nil _ _ _ _, hg3⟩
          · by_cases hds : ds = 0
            · skip
              have HSZ := Lib.hid (s7 hds)
              have hsz2 : 2 ≤ sz := by have := HSZ.out; omega
              have hszl : sz - 1 ≤ 131 := by have := HSZ.out; omega
              have HPL : Hid ((((x :: r').drop 1).take ln).length = sz - 1) := by show _ = _; rw [List.length_take, List.length_drop, HRL.out, HSZ.out]; have := HSZ.out; omega
              have hLp : Lies (w2.alloc (.cells #[.int .i64 (sz : Int), .int .i64 (ln : Int), .int .i64 (ds : Int)] 77)) w.heap.size (A'.map (·.add 1)) ((((x :: r').drop 1).take ln).map bv) := by rw [List.map_take, List.map_drop]; exact (hL3.from_ 1).take ln
              have HC2 : Hid (unp most ((x :: r').drop sz) (out ++ ((x :: r').drop 1).take ln) = unpackOf bs most) := by show _ = _; rw [← (s8 most out).2.2.1 (by rw [HOL.out]; omega) hds]; exact HC.out
              have hml : ¬ ((L : Int) + (sz - 1 : Nat) > most) := by have := HSZ.out; omega
              have hs7' := hds
              generalize ((x :: r').drop 1).take ln = piece at *
              clear HTN HC s7 s8
              subst hs7'
              by_cases hcs : c' = sz
              · obtain rfl : sz = m := by omega
                subst hcs
                have HE : Hid ((x :: r').drop c' = []) := List.drop_eq_nil_of_le (by rw [HRL.out]; exact Nat.le_refl _)
                rw [HE.out] at HC2
                go_wp2_with (at_builtin; refine wpList_append_src _ rfl (.tmp 37) (.tmp 41) _ rfl w.heap.size 5 i0 _ 1 Try.underlying22 hi0 hz0 hz1 hz2 rfl _ L _ rfl hown3 w.heap.size _ _ _ (piece.map bv) rfl (by rw [List.length_map]; exact HPL.out) hLp (bv_one piece) (by unfold maxLen; omega) (by omega) hwb3 ?_; intro v4 w4 hown4 hg4 hat4; have f4 := hg4.cell f0 hneb)
                have hW4 := Wrote.app hg4 hat4
                have hB4 := hW4.below hwb3 (own_ge hown3)
                rw [← List.map_append] at hown4
                go_step3
                refine ⟨rfl, ⟨_, _, _, [], _, out ++ piece, _, _, _, _, _, _, _, _, _, _, _, _, _, _, _, _, _, _, _, _, _, _, _, _, _, _, _, _, _, _, _, _, _, _, _, _, _, _, _, _, _, _, _, _, _, _, rfl, rfl, Nat.le_refl _, by rw [List.length_append, HOL.out, HPL.out]; omega, by rw [List.length_append, HOL.out, HPL.out]; exact .inr (by omega), Lies.empty, (by rw [List.length_append, HOL.out, HPL.out]; exact hown4), HC2.out, Below.trans hg3 hB4⟩, ?_⟩
                simp [slen]; omega
              · skip
                go_wp2_with (at_builtin; refine wpList_append_src _ rfl (.tmp 37) (.tmp 41) _ rfl w.heap.size 5 i0 _ 1 Try.underlying22 hi0 hz0 hz1 hz2 rfl _ L _ rfl hown3 w.heap.size _ _ _ (piece.map bv) rfl (by rw [List.length_map]; exact HPL.out) hLp (bv_one piece) (by unfold maxLen; omega) (by omega) hwb3 ?_; intro v4 w4 hown4 hg4 hat4; have f4 := hg4.cell f0 hneb)
                have hW4 := Wrote.app hg4 hat4
                have hB4 := hW4.below hwb3 (own_ge hown3)
                rw [← List.map_append] at hown4
                go_step3
                refine ⟨rfl, ⟨_, m - sz, c' - sz, (x :: r').drop sz, _, out ++ piece, _, _, _, _, _, _, _, _, _, _, _, _, _, _, _, _, _, _, _, _, _, _, _, _, _, _, _, _, _, _, _, _, _, _, _, _, _, _, _, _, _, _, _, _, _, _, rfl, by rw [List.length_drop, HRL.out], by omega, by rw [List.length_append, HOL.out, HPL.out]; omega, by rw [List.length_append, HOL.out, HPL.out]; exact .inr (by omega), ?_, (by rw [List.length_append, HOL.out, HPL.out]; exact hown4), HC2.out, Below.trans hg3 hB4⟩, ?_⟩
                · rw [List.map_drop]; exact (hL3.below hB4).from_ sz
                · simp [slen]; omega
            · skip
              have HC2 : Hid (unp most ((x :: r').drop sz) (copyN ln ds out) = unpackOf bs most) := by show _ = _; rw [← (s8 most out).2.2.2 (by rw [HOL.out]; exact hdl) (by rw [HOL.out]; omega) hds]; exact HC.out
              have hrep := repeat_any _ w.heap.size L out ln ds (w2.alloc (.cells #[.int .i64 (sz : Int), .int .i64 (ln : Int), .int .i64 (ds : Int)] 77)) hown3 hwb3 ⟨by omega, by omega⟩ (by omega)
              have HCL : Hid ((copyN ln ds out).length = L + ln) := by show _ = _; rw [copyN_len, HOL.out]
              have hdsb : ((ds : Int) == 0) = false := by simp; omega
              clear HTN HC s7 s8
              by_cases hcs : c' = sz
              · obtain rfl : sz = m := by omega
                subst hcs
                have HE : Hid ((x :: r').drop c' = []) := List.drop_eq_nil_of_le (by rw [HRL.out]; exact Nat.le_refl _)
                rw [HE.out] at HC2
                go_wp2_with fail
                refine hrep.mono ?_
                rintro e w4 ⟨v4, rfl, hown4, hW4⟩
                have f4 := hW4.grown.cell f0 hneb
                have hB4 := hW4.below hwb3 (own_ge hown3)
                go_wp2_with fail
                go_step3
                refine ⟨rfl, ⟨_, _, _, [], _, copyN ln ds out, _, _, _, _, _, _, _, _, _, _, _, _, _, _, _, _, _, _, _, _, _, _, _, _, _, _, _, _, _, _, _, _, _, _, _, _, _, _, _, _, _, _, _, _, _, _, rfl, rfl, Nat.le_refl _, by rw [HCL.out]; omega, by rw [HCL.out]; exact .inr (by omega), Lies.empty, hown4, HC2.out, Below.trans hg3 hB4⟩, ?_⟩
                simp [slen]; omega
              · skip
                go_wp2_with fail
                refine hrep.mono ?_
                rintro e w4 ⟨v4, rfl, hown4, hW4⟩
                have f4 := hW4.grown.cell f0 hneb
                have hB4 := hW4.below hwb3 (own_ge hown3)
                go_wp2_with fail
                go_step3
                refine ⟨rfl, ⟨_, m - sz, c' - sz, (x :: r').drop sz, _, copyN ln ds out, _, _, _, _, _, _, _, _, _, _, _, _, _, _, _, _, _, _, _, _, _, _, _, _, _, _, _, _, _, _, _, _, _, _, _, _, _, _, _, _, _, _, _, _, _, _, rfl, by rw [List.length_drop, HRL.out], by omega, by rw [HCL.out]; omega, by rw [HCL.out]; exact .inr (by omega), ?_, hown4, HC2.out, Below.trans hg3 hB4⟩, ?_⟩
                · rw [List.map_drop]; exact (hL3.below hB4).from_ sz
                · simp [slen]; omega
end Go.Proofs.Ythnjbmaiebiehaa
