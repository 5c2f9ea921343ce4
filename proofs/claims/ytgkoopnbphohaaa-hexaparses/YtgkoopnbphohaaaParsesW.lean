/-
  The walk of the law HexaParses: the law returns true, and nothing that was there has turned.
-/
import Derived.Test.YtgkoopnbphohaaaRef
import Derived.Test.YtgkoopnbphohaaaSched
import Derived.Outline
namespace Go.Proofs.Ytgkoopnbphohaaa
open Go.RowKit
set_option linter.unusedVariables false

/-- A text as a value. -/
abbrev sv (l : List UInt8) : Value := .string ⟨l.toArray⟩
theorem sv_one (ls : List (List UInt8)) : ∀ u ∈ ls.map sv, u.oneCell' = true := fun u hu => by
  obtain ⟨b, _, rfl⟩ := List.mem_map.1 hu
  rfl
theorem str_info : (Try.prog.info? 9).map (fun i => (i.zero, i.size, i.bytes)) = some (some (.string ⟨#[]⟩), 1, 16) := by kernel_rfl

theorem below_append {w w' : World} {o : Obj} {base : Nat} {e : TypeId} {size : Nat} {v : Value} {n : Nat} {xs : List Value} (h : base ≤ w.heap.size) (hown : w.ownsRow base e size v n xs) (hg : (w.alloc o).grownBy w' v.ownBlock) : Below base w w' :=
  ((Below.refl _ w).alloc h _).grown hg (by rw [World.size_alloc]; omega) (own_ge hown)
theorem hcell_later {a b : World} {p : Addr} {u : Value} (h : a.cell? p = some u) (hb : Grows a b) : b.cell? p = some u := (hb.cell (World.block_lt_of_cell? a p h)).trans h
theorem hid_cell {B : Nat} {w w' : World} {b o : Nat} {u : Value} (hb : Below B w w') (h : b < B) (hc : Hid (w.cell? ⟨b, o, none⟩ = some u)) : w'.cell? ⟨b, o, none⟩ = some u := (hb.cell (p := ⟨b, o, none⟩) h).trans hc.out
theorem hid_frozen {B : Nat} {w w' : World} {b o : Nat} (hb : Below B w w') (h : b < B) (hc : Hid (w.frozen? ⟨b, o, none⟩ = false)) : w'.frozen? ⟨b, o, none⟩ = false := (hb.frozen (p := ⟨b, o, none⟩) h).trans hc.out

set_option maxHeartbeats 2000000 in
theorem parses_walk (s : List UInt8) (a1 : Option Addr) (len1 cap1 : Nat) (bs1 : List UInt8) (at' : Int) (c : Nat) (w : World) (hs : s.length ≤ maxLen) (hl1 : bs1.length = len1)
    (hr1 : Lies w w.heap.size a1 (bs1.map bv)) (hc1 : len1 ≤ cap1) (hm1 : cap1 ≤ maxLen) (ha : -9223372036854775808 ≤ at' ∧ at' ≤ 9223372036854775807) (hc : c < 256) :
    Calls Try.prog 4 #[.string ⟨s.toArray⟩, .slice a1 len1 cap1, .int .i64 at', .int .u8 (c : Int)] w fun e w' => e = .returned (.bool true) ∧ Below w.heap.size w w' := by
  obtain ⟨i0, hi0, hz0, hz1, hz2⟩ := info_parts str_info
  have HL1 := Lib.hid hl1
  clear hl1
  go_enter Try.func4, Try.ntmps4
  go_wp2_with fail
  refine (few_bytes a1 len1 cap1 20 bs1 w HL1.out hr1 hc1 (by omega) hm1).mono ?_
  rintro e w1 ⟨A1, c1, rfl, hk1, hown1, hL1, hb1⟩
  have hn0 : min len1 20 ≤ 20 := Nat.min_le_right _ _
  have e0 : (bs1.take 20).length = min len1 20 := by rw [List.length_take, HL1.out]; omega
  have E0 := Lib.hid e0
  clear e0 hown1
  generalize bs1.take 20 = x at *
  generalize min len1 20 = n0 at *
  go_wp2_with fail
  refine (rtext_any A1 n0 c1 x w1 E0.out hL1 (by omega)).mono ?_
  rintro e w2 ⟨rfl, hb2⟩
  have hx2 : (hexOf x).length ≤ 40 := by rw [hexOf_length, E0.out]; omega
  generalize hexOf x = L0 at *
  obtain ⟨m0, hhl⟩ : ∃ m0, L0.length = m0 := ⟨_, rfl⟩
  rw [hhl] at hx2
  obtain ⟨w3, c3, hrun3, hc3, hm3, hb3, hz3, hcl3, hfz3⟩ := run_bytes_of (P := Try.prog) 9 22 5 Try.underlying9 Try.underlying22 Try.underlying5 L0 (by unfold maxLen; omega) w2
  have HRUN := Lib.hid hrun3
  rw [hhl] at hrun3 hc3 hfz3
  have HH := Lib.hid hhl
  clear hhl HRUN
  have hL3 : Lies w3 w3.heap.size (some ⟨w2.heap.size, 0, none⟩) (L0.map bv) := fun j u hu => ⟨_, rfl, by show w2.heap.size < _; omega, by rw [add_plain, Nat.zero_add]; exact hcl3 j u hu⟩
  have hb03 := grow_trans hb1 (grow_trans hb2 hb3)
  have HZ := Lib.hid hz3
  clear hz3 hL1
  go_wp2_with fail
  clear hrun3
  refine wp_region_sched [(0, true), (2, true), (3, true), (1, false), (4, false), (5, true)] (by kernel_rfl) (by kernel_rfl) ?_
  have hs0 : Grows w3 w3.drew := (Grows.refl _).drew
  have cv3 : ∀ u, Grows w3.drew u → (convert 22 9 (.slice (some ⟨w2.heap.size, 0, none⟩) m0 c3)).run Try.prog u = .ok (.string ⟨L0.toArray⟩) u := fun u h =>
    run_string_of u 22 5 Try.underlying22 Try.underlying5 9 Try.underlying9 _ _ m0 c3 L0 HH.out (hL3.below (grow_trans hs0 h))
  repeat (first | (refine sched_take _ ?_ (by simp only [List.getElem?_cons_succ, List.getElem?_cons_zero]; rfl) (by rfl) ?_ ?_; rotate_left; (· (intro u hu0 hu; (try go_simp); (try with_reducible rfl))); try simp only [Act.put, List.setIfInBounds_toArray, List.set_cons_zero, List.set_cons_succ]) | (refine sched_skip _ (by simp only [List.getElem?_cons_succ, List.getElem?_cons_zero]; rfl) (by rfl) ?_; try simp only [Act.put, List.setIfInBounds_toArray, List.set_cons_zero, List.set_cons_succ]))
  (refine sched_move _ (by simp only [List.getElem?_cons_succ, List.getElem?_cons_zero]; rfl) (by rfl) (fun K hK => ?_); go_simp)
  refine (short_any s 40 _ hs (by omega)).mono ?_
  rintro e w' ⟨rfl, rfl⟩
  refine hK.out _ _ (Grows.refl _) ?_
  clear hK K
  (refine sched_move _ (by simp only [List.getElem?_cons_succ, List.getElem?_cons_zero]; rfl) (by rfl) (fun K hK => ?_); go_simp)
  refine hK.out _ _ (by exact (Grows.refl _).alloc (Nat.le_refl _) _) ?_
  clear hK K
  repeat (first | (refine sched_take _ ?_ (by simp only [List.getElem?_cons_succ, List.getElem?_cons_zero]; rfl) (by rfl) ?_ ?_; rotate_left; (· (intro u hu0 hu; (try go_simp); (try with_reducible rfl))); try simp only [Act.put, List.setIfInBounds_toArray, List.set_cons_zero, List.set_cons_succ]) | (refine sched_skip _ (by simp only [List.getElem?_cons_succ, List.getElem?_cons_zero]; rfl) (by rfl) ?_; try simp only [Act.put, List.setIfInBounds_toArray, List.set_cons_zero, List.set_cons_succ]))
  refine sched_done (NoPanic.normal ?_)
  have hown4 : (w3.alloc (.cells #[sv (s.take 40), sv L0, sv []] 9)).drew.ownsRow w3.heap.size 9 1 (.slice (some ⟨w3.heap.size, 0, none⟩) 3 3) 3 ([s.take 40, L0, []].map sv) :=
    World.ownsRow_lit w3 #[sv (s.take 40), sv L0, sv []] 3 (Nat.le_refl _) (by unfold maxLen; omega) rfl
  have hg4 : Grows w3 (w3.alloc (.cells #[sv (s.take 40), sv L0, sv []] 9)).drew := ((Grows.refl _).alloc (Nat.le_refl _) _).drew
  clear cv3 hs0
  generalize (w3.alloc (.cells #[sv (s.take 40), sv L0, sv []] 9)).drew = w4 at *
  have hb04 := grow_trans hb03 hg4
  have hfz4 : ∀ j, j < m0 → w4.frozen? ⟨w2.heap.size, j, none⟩ = false := fun j hj => by
    rw [hg4.frozen (p := ⟨w2.heap.size, j, none⟩) (by show w2.heap.size < _; rw [HZ.out]; omega)]
    exact hfz3 j hj
  have hL4 := hL3.later hg4
  clear hfz3 hL3 hcl3 hb3
  by_cases hm0 : m0 = 0
  · subst hm0
    have hLL := Lies.of_own hown4
    have hls : [s.take 40, L0, []].length = 3 := rfl
    have hsh : ∀ t ∈ [s.take 40, L0, []], t.length ≤ 1000000 := by
      intro t ht
      simp only [List.mem_cons, List.not_mem_nil, or_false] at ht
      rcases ht with rfl | rfl | rfl
      · rw [List.length_take]; omega
      · rw [HH.out]; omega
      · simp
    have HLS := Lib.hid hls
    clear hls hown4
    generalize [s.take 40, L0, []] = ls at *
    go_wp2
    have hLl : Lies w4 w4.heap.size (some ⟨w3.heap.size, 0, none⟩) (ls.map sv) := hLL
    clear hLL
    have hnil : ∀ u : World, (convert 22 9 (.slice none 0 0)).run Try.prog u = .ok (.string ⟨#[]⟩) u := fun u => run_convert_bytes_nil u 22 5 Try.underlying22 Try.underlying5 0 0 9 Try.underlying9
    go_loopw [12, 13, 14, 15, 16] (fun i _ _ _ _ wr => ∃ k : Nat, k ≤ 3 ∧ i = .int .i64 k ∧ Grows w4 wr) (fun i _ _ _ _ _ => 3 - (intOf i).toNat)
    case atStart => exact ⟨0, Nat.zero_le _, rfl, Grows.refl _⟩
    case round =>
      obtain ⟨k, hk, rfl, hgr⟩ := hrel
      by_cases hlt : k < 3
      · obtain ⟨t, ht⟩ : ∃ t, ls[k]? = some t := ⟨_, List.getElem?_eq_getElem (by rw [HLS.out]; exact hlt)⟩
        have htl : t.length ≤ 1000000 := hsh t (List.mem_of_getElem? ht)
        obtain ⟨ad, ead, hadB, hcell⟩ := (hLl.later hgr).at_ (j := k) (u := sv t) (by rw [List.getElem?_map, ht]; rfl)
        injection ead with ead
        subst ead
        rw [add_plain, Nat.zero_add] at hcell
        clear ht
        have k1 : (k : Int) < 3 := by omega
        cases hu : unhex t with
        | none =>
          have HU := Lib.hid hu
          clear hu
          go_wp2_with fail
          refine (parse_any t _ htl).mono ?_
          rw [HU.out]
          rintro e w1' ⟨hb1', rfl⟩
          have hcell1 := hcell_later hcell hb1'
          go_wp2_with fail
          refine (rparse_any t _ htl).mono ?_
          rw [HU.out]
          rintro e w2' ⟨hb2', rfl⟩
          go_wp2
          go_roundw
          case rel => exact ⟨k + 1, by omega, by go_num, grow_trans hgr (grow_trans hb1' hb2')⟩
          case measure => simp [intOf]; omega
        | some l =>
          have HU := Lib.hid hu
          clear hu
          go_wp2_with fail
          refine (parse_any t _ htl).mono ?_
          rw [HU.out]
          rintro e w1' ⟨hb1', v1', rfl, hown1'⟩
          obtain ⟨A1', c1', rfl, _⟩ := own_form hown1'
          have hL1' := Lies.of_own hown1'
          clear hown1'
          have hcell1 := hcell_later hcell hb1'
          go_wp2_with fail
          refine (rparse_any t _ htl).mono ?_
          rw [HU.out]
          rintro e w2' ⟨hb2', v2', rfl, hown2'⟩
          obtain ⟨A2', c2', rfl, _⟩ := own_form hown2'
          have hL2' := Lies.of_own hown2'
          have cva := run_string_of (P := Try.prog) w2' 22 5 Try.underlying22 Try.underlying5 9 Try.underlying9 _ A1' l.length c1' l rfl (hL1'.below hb2')
          have cvb := run_string_of (P := Try.prog) w2' 22 5 Try.underlying22 Try.underlying5 9 Try.underlying9 _ A2' l.length c2' l rfl hL2'
          clear hown2' hL2' hL1'
          go_wp2
          go_roundw
          case rel => exact ⟨k + 1, by omega, by go_num, grow_trans hgr (grow_trans hb1' hb2')⟩
          case measure => simp [intOf]; omega
      · go_wp2_with fail
        refine (lives_any _).mono ?_
        rintro e w9 ⟨rfl, hb9⟩
        go_wp2_with fail
        go_ret
        exact ⟨rfl, hb04.trans ((grow_trans hgr hb9).mono hb04.size)⟩
  · have hm1' : 0 < m0 := by omega
    clear hm0
    go_wp2_with fail
    refine (around_any at' m0 _ ha ⟨hm1', by omega⟩).mono ?_
    rintro e w' ⟨rfl, rfl⟩
    have hk0 := around_lt at' hm1'
    generalize around at' m0 = k0 at *
    have cvk := run_string_of (P := Try.prog) w4 22 5 Try.underlying22 Try.underlying5 9 Try.underlying9 _ (some ⟨w2.heap.size, 0, none⟩) k0 c3 (L0.take k0) (by rw [List.length_take, HH.out]; omega) (by rw [List.map_take]; exact hL4.take k0)
    have h23 : w2.heap.size < w3.heap.size := by rw [HZ.out]; omega
    obtain ⟨u0, hu0⟩ : ∃ u0, (L0.map bv)[k0]? = some u0 := ⟨_, List.getElem?_eq_getElem (by rw [List.length_map, HH.out]; exact hk0)⟩
    have hc4 : w4.cell? ⟨w2.heap.size, k0, none⟩ = some u0 := by
      obtain ⟨ad, e, _, h⟩ := hL4 k0 u0 hu0
      injection e with e
      subst e
      rwa [add_plain, Nat.zero_add] at h
    have hf4 := hfz4 k0 hk0
    have Hc4 := Lib.hid hc4
    have Hf4 := Lib.hid hf4
    clear hu0 hc4 hf4 hfz4
    go_wp2_with (at_builtin; refine wpList_append_src _ rfl (.tmp 33) (.tmp 38) _ rfl w3.heap.size 9 i0 _ 16 Try.underlying31 hi0 hz0 hz1 hz2 rfl (.slice (some ⟨w3.heap.size, 0, none⟩) 3 3) 3 _ rfl (hown4.alloc _) _ _ 1 1 [sv (L0.take k0)] rfl rfl (Lies.new w4 9 _) (by simp [Value.oneCell']) (by unfold maxLen; omega) (by omega) (by have := hg4.size; simp; omega) ?_; intro v5 w5 hown5 hg5 hat5; have hb5 : Below w3.heap.size w4 w5 := below_append hg4.size hown4 hg5; have hc5 := hid_cell hb5 h23 Hc4; have hf5 := hid_frozen hb5 h23 Hf4)
    have ebc : Value.int .u8 (c : Int) = bv (UInt8.ofNat c) := by
      have : (UInt8.ofNat c).toNat = c := by simp; omega
      simp only [bv, this]
    have h35 : w3.heap.size ≤ w5.heap.size := Nat.le_trans hg4.size hb5.size
    have hL5 : Lies w5 w3.heap.size (some ⟨w2.heap.size, 0, none⟩) (L0.map bv) := fun j u hu => by
      obtain ⟨ad, e, _, h⟩ := hL4 j u hu
      injection e with e
      subst e
      refine ⟨_, rfl, h23, ?_⟩
      rw [hb5.cell (by rw [add_block]; exact h23)]
      exact h
    have hL6 := hL5.set_ (k := k0) (u := Value.int .u8 (c : Int)) (by rw [List.length_map, HH.out]; exact hk0)
    rw [ebc, ← List.map_set, ← ebc] at hL6
    have hown6 := ownsRow_setCell_below hown5 (a := ⟨w2.heap.size, k0, none⟩) h23 (Value.int .u8 (c : Int))
    have h02 : w.heap.size ≤ w2.heap.size := Nat.le_trans hb1.size hb2.size
    have hb06 : Below w.heap.size w (w5.setCell ⟨w2.heap.size, k0, none⟩ (Value.int .u8 (c : Int))) := (hb04.trans (hb5.mono hb03.size)).setCell (p := ⟨w2.heap.size, k0, none⟩) h02 _
    have h36 : w3.heap.size ≤ (w5.setCell ⟨w2.heap.size, k0, none⟩ (Value.int .u8 (c : Int))).heap.size := by rw [show (w5.setCell ⟨w2.heap.size, k0, none⟩ (Value.int .u8 (c : Int))).heap.size = w5.heap.size from by simp [World.setCell]]; exact h35
    have hl6 : (L0.set k0 (UInt8.ofNat c)).length = m0 := by rw [List.length_set, HH.out]
    have HL6 := Lib.hid hl6
    clear hl6 hown5 hL5 hL4 hown4 hc5 hf5 hg5 hat5 hb5 cvk
    generalize L0.set k0 (UInt8.ofNat c) = L6 at *
    generalize w5.setCell ⟨w2.heap.size, k0, none⟩ (Value.int .u8 (c : Int)) = w6 at *
    have cv6 := run_string_of (P := Try.prog) w6 22 5 Try.underlying22 Try.underlying5 9 Try.underlying9 _ (some ⟨w2.heap.size, 0, none⟩) m0 c3 L6 HL6.out hL6
    rw [cv6]
    go_simp
    go_wp2_with (at_builtin; refine wpList_append_src _ rfl (.tmp 44) (.tmp 47) _ rfl w3.heap.size 9 i0 _ 16 Try.underlying31 hi0 hz0 hz1 hz2 rfl v5 4 _ rfl (hown6.alloc _) _ _ 1 1 [sv L6] rfl rfl (Lies.new w6 9 _) (by simp [Value.oneCell']) (by unfold maxLen; omega) (by omega) (by rw [World.size_alloc]; omega) ?_; intro v7 w7 hown7 hg7 hat7)
    have hown7' : w7.ownsRow w3.heap.size 9 1 v7 5 ([s.take 40, L0, [], L0.take k0, L6].map sv) := hown7
    have hb67 : Below w3.heap.size w6 w7 := below_append h36 hown6 hg7
    have hb07 : Below w.heap.size w w7 := hb06.trans (hb67.mono hb03.size)
    obtain ⟨A7, c7, rfl, _⟩ := own_form hown7'
    have hLL := Lies.of_own hown7'
    have hls : [s.take 40, L0, [], L0.take k0, L6].length = 5 := rfl
    have hsh : ∀ t ∈ [s.take 40, L0, [], L0.take k0, L6], t.length ≤ 1000000 := by
      intro t ht
      simp only [List.mem_cons, List.not_mem_nil, or_false] at ht
      rcases ht with rfl | rfl | rfl | rfl | rfl
      · rw [List.length_take]; omega
      · rw [HH.out]; omega
      · simp
      · rw [List.length_take]; omega
      · rw [HL6.out]; omega
    have HLS := Lib.hid hls
    clear hls hown7 hown7' hg7 hat7 hown6
    generalize [s.take 40, L0, [], L0.take k0, L6] = ls at *
    have hLl : Lies w7 w7.heap.size (A7) (ls.map sv) := hLL
    clear hLL
    have hnil : ∀ u : World, (convert 22 9 (.slice none 0 0)).run Try.prog u = .ok (.string ⟨#[]⟩) u := fun u => run_convert_bytes_nil u 22 5 Try.underlying22 Try.underlying5 0 0 9 Try.underlying9
    go_loopw [12, 13, 14, 15, 16] (fun i _ _ _ _ wr => ∃ k : Nat, k ≤ 5 ∧ i = .int .i64 k ∧ Grows w7 wr) (fun i _ _ _ _ _ => 5 - (intOf i).toNat)
    case atStart => exact ⟨0, Nat.zero_le _, rfl, Grows.refl _⟩
    case round =>
      obtain ⟨k, hk, rfl, hgr⟩ := hrel
      by_cases hlt : k < 5
      · obtain ⟨t, ht⟩ : ∃ t, ls[k]? = some t := ⟨_, List.getElem?_eq_getElem (by rw [HLS.out]; exact hlt)⟩
        have htl : t.length ≤ 1000000 := hsh t (List.mem_of_getElem? ht)
        obtain ⟨ad, ead, hadB, hcell⟩ := (hLl.later hgr).at_ (j := k) (u := sv t) (by rw [List.getElem?_map, ht]; rfl)
        obtain rfl := ead
        clear ht
        have k1 : (k : Int) < 5 := by omega
        cases hu : unhex t with
        | none =>
          have HU := Lib.hid hu
          clear hu
          go_wp2_with fail
          refine (parse_any t _ htl).mono ?_
          rw [HU.out]
          rintro e w1' ⟨hb1', rfl⟩
          have hcell1 := hcell_later hcell hb1'
          go_wp2_with fail
          refine (rparse_any t _ htl).mono ?_
          rw [HU.out]
          rintro e w2' ⟨hb2', rfl⟩
          go_wp2
          go_roundw
          case rel => exact ⟨k + 1, by omega, by go_num, grow_trans hgr (grow_trans hb1' hb2')⟩
          case measure => simp [intOf]; omega
        | some l =>
          have HU := Lib.hid hu
          clear hu
          go_wp2_with fail
          refine (parse_any t _ htl).mono ?_
          rw [HU.out]
          rintro e w1' ⟨hb1', v1', rfl, hown1'⟩
          obtain ⟨A1', c1', rfl, _⟩ := own_form hown1'
          have hL1' := Lies.of_own hown1'
          clear hown1'
          have hcell1 := hcell_later hcell hb1'
          go_wp2_with fail
          refine (rparse_any t _ htl).mono ?_
          rw [HU.out]
          rintro e w2' ⟨hb2', v2', rfl, hown2'⟩
          obtain ⟨A2', c2', rfl, _⟩ := own_form hown2'
          have hL2' := Lies.of_own hown2'
          have cva := run_string_of (P := Try.prog) w2' 22 5 Try.underlying22 Try.underlying5 9 Try.underlying9 _ A1' l.length c1' l rfl (hL1'.below hb2')
          have cvb := run_string_of (P := Try.prog) w2' 22 5 Try.underlying22 Try.underlying5 9 Try.underlying9 _ A2' l.length c2' l rfl hL2'
          clear hown2' hL2' hL1'
          go_wp2
          go_roundw
          case rel => exact ⟨k + 1, by omega, by go_num, grow_trans hgr (grow_trans hb1' hb2')⟩
          case measure => simp [intOf]; omega
      · go_wp2_with fail
        refine (lives_any _).mono ?_
        rintro e w9 ⟨rfl, hb9⟩
        go_wp2_with fail
        go_ret
        exact ⟨rfl, hb07.trans ((grow_trans hgr hb9).mono hb07.size)⟩
end Go.Proofs.Ytgkoopnbphohaaa
