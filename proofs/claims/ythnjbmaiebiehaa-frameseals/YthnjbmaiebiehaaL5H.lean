/-
  Contract of the reference's Pack.
-/
import Derived.Test.YthnjbmaiebiehaaL5G
namespace Go.Proofs.Ythnjbmaiebiehaa
open Go.RowKit
set_option linter.unusedVariables false

set_option maxRecDepth 20000 in
set_option maxHeartbeats 2000000 in
theorem rpack_any (A : Option Addr) (n c : Nat) (bs : List UInt8) (w : World) (hl : bs.length = n) (hr : Lies w w.heap.size A (bs.map bv)) (hc : n ≤ c) (hn : n ≤ 1000000000) :
    Calls Try.prog 20 #[.slice A n c] w fun e w' => ∃ v, e = .returned v ∧ w'.ownsRow w.heap.size 5 1 v (packOf bs).length ((packOf bs).map bv) ∧ Grows w w' := by
  obtain ⟨i0, hi0, hz0, hz1, hz2⟩ := info_parts byte_info
  have HL := Lib.hid hl
  clear hl
  have HF : Hid (packOf bs = [] ++ packFrom bs 0 0) := rfl
  obtain ⟨W, hW⟩ : ∃ W, W = packOf bs := ⟨_, rfl⟩
  rw [← hW] at HF ⊢
  clear hW
  go_enter Try.func20, Try.ntmps20
  go_wp2
  go_loopw [3, 4, 5, 6] (fun p f q _ wr => ∃ (i fr : Nat) (out : List UInt8), i ≤ n ∧ fr ≤ i ∧ f = iv fr ∧ q = iv i ∧ Hid (W = out ++ packFrom bs i fr) ∧ out.length ≤ 2 * fr ∧ wr.ownsRow w.heap.size 5 1 p out.length (out.map bv) ∧ Grows w wr) (fun _ _ q _ _ => n - (intOf q).toNat)
  case atStart => exact ⟨0, 0, [], Nat.zero_le _, Nat.le_refl _, rfl, rfl, HF.out, Nat.le_refl _, World.ownsRow_nil _ _ _ _, Grows.refl _⟩
  case round =>
    obtain ⟨i, fr, out, hin, hfi, rfl, rfl, HO, hol, hown, hgr⟩ := hrel
    have hwb := hgr.size
    by_cases hi : i < n
    · have hm := rmatch_any A n c (i : Int) bs wr HL.out (hr.later hgr) (by omega)
      rw [matchAt_nat] at hm
      have HM1 := Lib.hid (@pack_none bs i fr (by rw [HL.out]; exact hi))
      have HM2 := Lib.hid (@pack_some bs i fr (by rw [HL.out]; exact hi))
      have HM3 := Lib.hid (@match_some bs i)
      obtain ⟨x, y, hxy⟩ : ∃ x y, matchOf bs i = (x, y) := ⟨_, _, rfl⟩
      rw [hxy] at HM1 HM2 HM3 hm
      simp only [] at HM1 HM2 HM3 hm
      clear hxy
      go_wp2_with fail
      refine hm.mono ?_
      rintro e w2 ⟨rfl, hg2⟩
      clear hm
      have hga := grows_alloc w2 (.cells #[.int .i64 (x : Int), .int .i64 (y : Int)] 59)
      have hg2a := Grows.trans hg2 hga
      have hgr2 := Grows.trans hgr hg2a
      have hown2 := own_later hown hg2a
      have hwb2 := hgr2.size
      have hneb : some w2.heap.size ≠ (u3 : Value).ownBlock := fun e => by have := (hown.lt _ e.symm).2; have := hg2.size; omega
      have f0 : (w2.alloc (.cells #[.int .i64 (x : Int), .int .i64 (y : Int)] 59)).cell? ⟨w2.heap.size, 0, none⟩ = some (iv x) := by rw [cell_of_row _ _ _ _ 59 (0, 0) (heap_alloc_new w2 _)]; rfl
      have f1 : (w2.alloc (.cells #[.int .i64 (x : Int), .int .i64 (y : Int)] 59)).cell? ⟨w2.heap.size, 1, none⟩ = some (iv y) := by rw [cell_of_row _ _ _ _ 59 (0, 0) (heap_alloc_new w2 _)]; rfl
      clear hown hgr hga hwb
      by_cases hx : x = 0
      · subst hx
        have HO2 : Hid (W = out ++ packFrom bs (i + 1) fr) := by show _ = _; rw [HO.out, HM1.out rfl]
        clear HM1 HM2 HM3 HO
        go_wp2_with fail
        go_roundw
        case rel => exact ⟨i + 1, fr, out, by omega, by omega, rfl, by go_num, HO2.out, hol, hown2, hgr2⟩
        case measure => simp [intOf]; omega
      · obtain ⟨x4, x131, y1, yi, y1024, xn, _⟩ := HM3.out hx
        rw [HL.out] at xn
        have hxz : ((x : Int) == 0) = false := by simp; omega
        have HO2 : Hid (W = out ++ (lits ((bs.drop fr).take (i - fr)) ++ (mtok (x, y) ++ packFrom bs (i + x) (i + x)))) := by show _ = _; rw [HO.out, HM2.out hx]
        clear HM1 HM2 HM3 HO
        have HPL : Hid (((bs.drop fr).take (i - fr)).length = i - fr) := by show _ = _; rw [List.length_take, List.length_drop, HL.out]; omega
        have hcf : ¬ c = fr := by omega
        have hLt := (hr.later hgr2).from_ fr
        have hLt2 : Lies (w2.alloc (.cells #[.int .i64 (x : Int), .int .i64 (y : Int)] 59)) (w2.alloc (.cells #[.int .i64 (x : Int), .int .i64 (y : Int)] 59)).heap.size (A.map (·.add fr)) (((bs.drop fr).take (i - fr)).map bv) := by
          rw [List.map_take, List.map_drop]; exact hLt.take _
        clear hLt
        have hlit := rlit_out _ (i - fr) (c - fr) ((bs.drop fr).take (i - fr)) _ HPL.out hLt2 (by omega) (by omega)
        have HLIT := Lib.hid hlit
        clear hlit hLt2
        obtain ⟨d, hd⟩ : ∃ d, y = d + 1 := ⟨y - 1, by omega⟩
        have HT : Hid (mtok (x, y) = [UInt8.ofNat (124 + x), UInt8.ofNat (d % 256), UInt8.ofNat (d / 256)]) := by show _ = _; rw [hd]; rfl
        have b0 : (y : Int) - 1 = (d : Int) := by omega
        have b1 : (124 : Int) + (x : Int) = ((UInt8.ofNat (124 + x)).toNat : Int) := by rw [UInt8.toNat_ofNat']; omega
        have b2 : (d : Int) % 256 = ((UInt8.ofNat (d % 256)).toNat : Int) := by rw [UInt8.toNat_ofNat']; omega
        have b3 : (d : Int) / 256 = ((UInt8.ofNat (d / 256)).toNat : Int) := by rw [UInt8.toNat_ofNat']; omega
        have hd65 : d ≤ 1024 := by omega
        clear hd
        generalize UInt8.ofNat (124 + x) = q1 at *
        generalize UInt8.ofNat (d % 256) = q2 at *
        generalize UInt8.ofNat (d / 256) = q3 at *
        have h1 := q1.toNat_lt
        have h2 := q2.toNat_lt
        have h3 := q3.toNat_lt
        go_wp2_with fail
        refine HLIT.out.mono ?_
        rintro e w3 ⟨l, m, cl, Al, HLI, HLM, hml, rfl, hcl, hLl, hg3⟩
        have hown3 := own_later hown2 hg3
        have hwb3 := Nat.le_trans hwb2 hg3.size
        have f03 := hcell_later f0 hg3
        have f13 := hcell_later f1 hg3
        clear f0 f1 HLIT
        go_wp2_with (first
          | (at_builtin; refine wpList_append_src _ rfl (.tmp 19) (.tmp 24) _ rfl w.heap.size 5 i0 _ 1 Try.underlying22 hi0 hz0 hz1 hz2 rfl _ out.length _ rfl hown3 _ _ _ _ (l.map bv) rfl (by rw [List.length_map]; exact HLM.out) hLl (bv_one l) (by unfold maxLen; omega) (by omega) hwb3 ?_; intro v4 w4 hown4 hg4 hat4; have f04 := hg4.cell f03 hneb; have f14 := hg4.cell f13 hneb; have hnew := Lies.new w4 5 [bv q1, bv q2, bv q3]; have hne4 : some w2.heap.size ≠ v4.ownBlock := fun e => by rcases hat4 with e' | e' <;> rw [e'] at e <;> first | exact hneb e | (injection e with e; have := hg3.size; rw [World.size_alloc] at this; omega))
          | (at_builtin; refine wpList_append_src _ rfl (.tmp 26) (.tmp 41) _ rfl w.heap.size 5 i0 _ 1 Try.underlying22 hi0 hz0 hz1 hz2 rfl _ (out.length + m) _ rfl (hown4.alloc _) _ _ 3 3 [bv q1, bv q2, bv q3] rfl rfl hnew (by simp [Value.oneCell']) (by unfold maxLen; omega) (by omega) (by rw [World.size_alloc]; have := hg4.size; omega) ?_; intro v5 w5 hown5 hg5 hat5; have f05 := hg5.cell (hcell_later f04 (grows_alloc _ _)) hne4))
        have hW4 := Wrote.app hg4 hat4
        have hW5 := hW4.trans (Wrote.later (grows_alloc _ _) (Wrote.app hg5 hat5))
        have hB5 := hW5.below hwb3 (own_ge hown3)
        have HO3 : Hid (W = (out ++ l ++ [q1, q2, q3]) ++ packFrom bs (i + x) (i + x)) := by show _ = _; rw [HO2.out, HT.out, HLI.out]; simp
        rw [show [bv q1, bv q2, bv q3] = [q1, q2, q3].map bv from rfl, ← List.map_append, ← List.map_append] at hown5
        have e9 : out.length + m + 3 = (out ++ l ++ [q1, q2, q3]).length := by rw [List.length_append, List.length_append, HLM.out]; rfl
        rw [e9] at hown5
        go_roundw
        case rel => exact ⟨i + x, i + x, out ++ l ++ [q1, q2, q3], by omega, Nat.le_refl _, by go_num, by go_num, HO3.out, by rw [← e9]; omega, hown5, Below.trans hgr2 (Below.trans (hg3.mono hwb2) hB5)⟩
        case measure => simp [intOf]; omega
    · have HO2 : Hid (W = out ++ lits (bs.drop fr)) := by show _ = _; rw [HO.out, pack_end (by rw [HL.out]; exact hi)]
      have HPL : Hid ((bs.drop fr).length = n - fr) := by show _ = _; rw [List.length_drop, HL.out]
      by_cases hcf : c = fr
      · obtain rfl : fr = n := by omega
        subst hcf
        have HE : Hid (bs.drop c = []) := List.drop_eq_nil_of_le (by rw [HL.out]; omega)
        have HPL0 : Hid ((bs.drop c).length = 0) := by show _ = _; rw [HE.out]; rfl
        have hlit := rlit_out A 0 0 (bs.drop c) wr HPL0.out (by rw [HE.out]; exact Lies.empty) (by omega) (by omega)
        have HLIT := Lib.hid hlit
        clear hlit
        go_wp2_with fail
        refine HLIT.out.mono ?_
        rintro e w3 ⟨l, m, cl, Al, HLI, HLM, hml, rfl, hcl, hLl, hg3⟩
        have hown3 := own_later hown hg3
        have hwb3 := Nat.le_trans hwb hg3.size
        clear HLIT
        go_wp2_with (at_builtin; refine wpList_append_src _ rfl (.tmp 48) (.tmp 52) _ rfl w.heap.size 5 i0 _ 1 Try.underlying22 hi0 hz0 hz1 hz2 rfl _ out.length _ rfl hown3 _ _ _ _ (l.map bv) rfl (by rw [List.length_map]; exact HLM.out) hLl (bv_one l) (by unfold maxLen; omega) (by omega) hwb3 ?_; intro v4 w4 hown4 hg4 hat4)
        have hW4 := Wrote.app hg4 hat4
        have hB4 := hW4.below hwb3 (own_ge hown3)
        rw [← List.map_append, show out.length + m = (out ++ l).length by rw [List.length_append, HLM.out], ← HLI.out, ← HO2.out] at hown4
        go_ret
        exact ⟨_, rfl, hown4, Below.trans hgr (Below.trans (hg3.mono hwb) hB4)⟩
      · have hLt : Lies wr wr.heap.size (A.map (·.add fr)) ((bs.drop fr).map bv) := by
          rw [List.map_drop]; exact (hr.later hgr).from_ _
        have hlit := rlit_out _ (n - fr) (c - fr) (bs.drop fr) wr HPL.out hLt (by omega) (by omega)
        have HLIT := Lib.hid hlit
        clear hlit
        go_wp2_with fail
        refine HLIT.out.mono ?_
        rintro e w3 ⟨l, m, cl, Al, HLI, HLM, hml, rfl, hcl, hLl, hg3⟩
        have hown3 := own_later hown hg3
        have hwb3 := Nat.le_trans hwb hg3.size
        clear HLIT
        go_wp2_with (at_builtin; refine wpList_append_src _ rfl (.tmp 48) (.tmp 52) _ rfl w.heap.size 5 i0 _ 1 Try.underlying22 hi0 hz0 hz1 hz2 rfl _ out.length _ rfl hown3 _ _ _ _ (l.map bv) rfl (by rw [List.length_map]; exact HLM.out) hLl (bv_one l) (by unfold maxLen; omega) (by omega) hwb3 ?_; intro v4 w4 hown4 hg4 hat4)
        have hW4 := Wrote.app hg4 hat4
        have hB4 := hW4.below hwb3 (own_ge hown3)
        rw [← List.map_append, show out.length + m = (out ++ l).length by rw [List.length_append, HLM.out], ← HLI.out, ← HO2.out] at hown4
        go_ret
        exact ⟨_, rfl, hown4, Below.trans hgr (Below.trans (hg3.mono hwb) hB4)⟩
theorem rpack_out (A : Option Addr) (n c : Nat) (bs : List UInt8) (w : World) (hl : bs.length = n) (hr : Lies w w.heap.size A (bs.map bv)) (hc : n ≤ c) (hn : n ≤ 1000000000) :
    Calls Try.prog 20 #[.slice A n c] w fun e w' => ∃ (p : List UInt8) (pn c' : Nat) (A' : Option Addr), Hid (packOf bs = p) ∧ Hid (p.length = pn) ∧ pn ≤ n + (n + 127) / 128 ∧ e = .returned (.slice A' pn c') ∧ pn ≤ c' ∧ c' ≤ maxLen ∧ Lies w' w'.heap.size A' (p.map bv) ∧ Grows w w' := by
  refine (rpack_any A n c bs w hl hr hc hn).mono ?_
  rintro e w' ⟨v, rfl, hown, hg⟩
  obtain ⟨A', c', rfl, hc'⟩ := own_form hown
  have hpl := packOf_len bs
  rw [hl] at hpl
  have hcm : c' ≤ maxLen := by
    rcases hown.2 with ⟨e, _⟩ | ⟨g, cap, cur, e, _, _, _, h4, _⟩
    · injection e with _ _ e; omega
    · injection e with _ _ e; subst e; first | exact h4 | omega
  exact ⟨_, _, c', A', rfl, rfl, hpl, rfl, hc', hcm, Lies.of_own hown, hg⟩
end Go.Proofs.Ythnjbmaiebiehaa
