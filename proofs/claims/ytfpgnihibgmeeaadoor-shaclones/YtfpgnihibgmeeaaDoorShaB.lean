/-
  Contract of the reference's block (layer 2): what 64 bytes make of eight words.
-/
import Derived.Test.YtfpgnihibgmeeaaDoorShaA
import Derived.StillTailTactics
namespace Go.Proofs.YtfpgnihibgmeeaaDoor
open Go.RowKit
set_option linter.unusedVariables false

theorem uv_at {w : World} {b o : Nat} {l : List Nat} (h : w.rangeAt b o (l.map uv)) (i : Nat) (hi : i < l.length) : w.cell? ⟨b, o + i, none⟩ = some (.int .u32 ((l.getD i 0 : Nat) : Int)) :=
  h i _ (by rw [List.getElem?_map]; simp [hi])
theorem uv_has {w : World} {b : Nat} {l : List Nat} (h : Has w b (l.map uv)) (i : Nat) (hi : i < l.length) : w.cell? ⟨b, i, none⟩ = some (.int .u32 ((l.getD i 0 : Nat) : Int)) :=
  h.cell (by rw [List.getElem?_map]; simp [hi])
theorem wrap_add (a b : Nat) : IntKind.u32.wrap ((a : Int) + (b : Int)) = (((a + b) % 4294967296 : Nat) : Int) := by
  rw [← Int.natCast_add]
  exact wrap32 _
theorem and_sub (e g : Nat) (he : e < 4294967296) (hg : g < 4294967296) : bits .and .u32 (4294967295 - (e : Int)) (g : Int) = (((4294967295 - e) &&& g : Nat) : Int) := by
  rw [show 4294967295 - (e : Int) = ((4294967295 - e : Nat) : Int) by omega]
  exact u32_and_nat _ _ (by omega) hg
theorem and_lt {a b : Nat} (ha : a < 4294967296) : a &&& b < 4294967296 := Nat.lt_of_le_of_lt Nat.and_le_left ha
theorem xor_lt {a b : Nat} (ha : a < 4294967296) (hb : b < 4294967296) : a ^^^ b < 4294967296 := Nat.xor_lt_two_pow (n := 32) ha hb
theorem bigE_lt {e : Nat} (he : e < 4294967296) : bigE e < 4294967296 := xor_lt (xor_lt (ror_lt (by omega) he) (ror_lt (by omega) he)) (ror_lt (by omega) he)
theorem bigA_lt {e : Nat} (he : e < 4294967296) : bigA e < 4294967296 := xor_lt (xor_lt (ror_lt (by omega) he) (ror_lt (by omega) he)) (ror_lt (by omega) he)
theorem choose_lt {e f g : Nat} (he : e < 4294967296) : choose e f g < 4294967296 := xor_lt (and_lt he) (and_lt (by omega))
theorem most_lt {a b c : Nat} (ha : a < 4294967296) (hb : b < 4294967296) : most a b c < 4294967296 := xor_lt (xor_lt (and_lt ha) (and_lt ha)) (and_lt hb)
theorem add8_at (x y : V8) (k : Nat) (hk : k < 8) : (add8 x y).list.getD k 0 = (y.list.getD k 0 + x.list.getD k 0) % 4294967296 := by
  match k, hk with
  | 0, _ => simp [add8, V8.list, Nat.add_comm]
  | 1, _ => simp [add8, V8.list, Nat.add_comm]
  | 2, _ => simp [add8, V8.list, Nat.add_comm]
  | 3, _ => simp [add8, V8.list, Nat.add_comm]
  | 4, _ => simp [add8, V8.list, Nat.add_comm]
  | 5, _ => simp [add8, V8.list, Nat.add_comm]
  | 6, _ => simp [add8, V8.list, Nat.add_comm]
  | 7, _ => simp [add8, V8.list, Nat.add_comm]
theorem getD_some {l : List Nat} {k : Nat} (h : k < l.length) : l[k]? = some (l.getD k 0) := by simp [h]
theorem mid_getD (l z : List Nat) (k : Nat) (hl : k ≤ l.length) (hz : k < z.length) : (l.take k ++ z.drop k).getD k 0 = z.getD k 0 := by
  simp [List.getElem?_append_right, List.getElem?_drop, Nat.min_eq_left hl]
theorem own_range {w : World} {base : Nat} {e : TypeId} {v : Value} {n : Nat} {vs : List Value} (h : w.ownsRow base e 1 v n vs) (hn : 0 < n) : ∃ g c, v = .slice (some ⟨g, 0, none⟩) n c ∧ n ≤ c ∧ base ≤ g ∧ Has w g vs := by
  have h0 := h
  rcases h.2 with ⟨_, h'⟩ | ⟨g, cap, cur, rfl, hb, hg, hnc, _⟩
  · omega
  · refine ⟨g, cap, rfl, hnc, hb, ?_, fun j u hu => ?_, fun j => frozen_of_row w g j cur e hg⟩
    · rcases Nat.lt_or_ge g w.heap.size with hlt | hge
      · exact hlt
      · rw [Array.getElem?_eq_none hge] at hg; cases hg
    · obtain ⟨ad, e, _, hc⟩ := Lies.of_own h0 j u hu
      injection e with e
      subst e
      rwa [add_plain] at hc
theorem spread_snoc (blk : List UInt8) (k : Nat) (x : Nat) (hx : x = if k < 16 then wordAt blk (4 * k) else nextW (spreadTo blk k) k) : (spreadTo blk (k + 1)).map uv = (spreadTo blk k).map uv ++ [uv x] := by
  rw [spreadTo, List.map_append, hx]
  rfl

set_option maxRecDepth 100000 in
set_option maxHeartbeats 1000000 in
theorem block_any (v : V8) (gh ch gb ob cb : Nat) (blk : List UInt8) (w : World) (hv : v.Ok) (hh : w.rangeAt gh 0 (v.list.map uv)) (hbl : blk.length = 64) (hb : w.rangeAt gb ob (blk.map bv)) :
    Calls Tryd.prog 20 #[.slice (some ⟨gh, 0, none⟩) 8 ch, .slice (some ⟨gb, ob, none⟩) 64 cb] w fun e w' =>
      ∃ g c, e = .returned (.slice (some ⟨g, 0, none⟩) 8 c) ∧ w'.rangeAt g 0 ((mix v blk).list.map uv) ∧ Grows w w' := by
  obtain ⟨i0, hi0, hz0, hz1, hz2⟩ := info_parts u32_info
  have HBL := Lib.hid hbl
  clear hbl
  go_enter Tryd.func20, Tryd.ntmps20
  go_wp2_with fail
  refine (roots_any w).mono ?_
  rintro e w1 ⟨rfl, hk1, hg1⟩
  have hgk : w.heap.size < w1.heap.size := World.block_lt_of_cell? w1 _ (hk1 0 (uv 1116352408) rfl)
  generalize w.heap.size = gk at hk1 hgk
  have hb1 := range_later hb hg1
  go_wp2_with fail
  go_loopw [6, 7] (fun t i wr => ∃ k : Nat, k ≤ 16 ∧ i = .int .i64 k ∧ wr.ownsRow w1.heap.size 40 1 t k ((spreadTo blk k).map uv) ∧ Grows w1 wr) (fun _ i _ => 16 - (intOf i).toNat)
  case atStart => exact ⟨0, Nat.zero_le _, rfl, World.ownsRow_nil _ _ _ _, Grows.refl _⟩
  case round =>
    obtain ⟨k, hk, rfl, hown, hgr⟩ := hrel
    by_cases hlt : k < 16
    · have hbr := range_later hb1 hgr
      have HS := Lib.hid (spread_snoc blk k (wordAt blk (4 * k)) (by rw [if_pos hlt]))
      go_wp2_with fail
      rw [show (4 : Int) * (k : Int) = ((4 * k : Nat) : Int) from by omega]
      refine (word_any gb ob 64 cb (4 * k) blk _ HBL.out hbr (by omega) (by omega)).mono ?_
      rintro e w2 ⟨rfl, m, rfl⟩
      have hown2 : (wr.drewN m).ownsRow w1.heap.size 40 1 u6 k ((spreadTo blk k).map uv) := hown
      have hgr2 : Grows w1 (wr.drewN m) := below_draws hgr
      generalize wr.drewN m = w2 at *
      clear hown hgr hbr
      have hnew := Lies.new w2 40 [uv (wordAt blk (4 * k))]
      go_wp2_with (at_builtin; refine wpList_append_src _ rfl (.tmp 24) (.tmp 29) _ rfl w1.heap.size 40 i0 _ 4 Tryd.underlying41 hi0 hz0 hz1 hz2 rfl u6 k _ rfl (hown2.alloc _) _ _ 1 1 [uv (wordAt blk (4 * k))] rfl rfl hnew (by simp [Value.oneCell']) (by unfold maxLen; omega) (by omega) (by have := hgr2.size; simp; omega) ?_; intro v' w' hown' hg' hat')
      have hb2 : Grows w1 w' := (hgr2.alloc hgr2.size _).grown hg' (by have := hgr2.size; simp; omega) (own_ge hown2)
      rw [← HS.out] at hown'
      go_roundw
      case rel => exact ⟨k + 1, by omega, by go_num, hown', hb2⟩
      case measure => simp [intOf]; omega
    · obtain rfl : k = 16 := by omega
      rw [show ((16 : Nat) : Int) = 16 from rfl]
      go_wp2_with fail
      go_loopw [6, 8] (fun t i wr => ∃ k : Nat, 16 ≤ k ∧ k ≤ 64 ∧ i = .int .i64 k ∧ wr.ownsRow w1.heap.size 40 1 t k ((spreadTo blk k).map uv) ∧ Grows w1 wr) (fun _ i _ => 64 - (intOf i).toNat)
      case atStart => exact ⟨16, by omega, by omega, rfl, hown, hgr⟩
      case round =>
        clear hown hgr
        obtain ⟨k, hk0, hk, rfl, hown, hgr⟩ := hrel
        by_cases hlt : k < 64
        · obtain ⟨g, c, rfl, hc, hgb, hhas⟩ := own_range hown (by omega)
          have hlen : (spreadTo blk k).length = k := spreadTo_len blk k
          have c15 := uv_has hhas (k - 15) (by omega)
          have c2 := uv_has hhas (k - 2) (by omega)
          have c16 := uv_has hhas (k - 16) (by omega)
          have c7 := uv_has hhas (k - 7) (by omega)
          have b15 := spreadTo_lt blk k (k - 15) hk
          have b2 := spreadTo_lt blk k (k - 2) hk
          have HS := spread_snoc blk k _ rfl
          rw [if_neg (by omega)] at HS
          unfold nextW at HS
          generalize (spreadTo blk k).getD (k - 15) 0 = x15 at *
          generalize (spreadTo blk k).getD (k - 2) 0 = x2 at *
          generalize (spreadTo blk k).getD (k - 16) 0 = x16 at *
          generalize (spreadTo blk k).getD (k - 7) 0 = x7 at *
          have e1 := u32_xor_nat (ror 7 x15) (ror 18 x15) (ror_lt (by omega) b15) (ror_lt (by omega) b15)
          have e2 : bits .xor .u32 ((ror 7 x15 ^^^ ror 18 x15 : Nat) : Int) ((x15 : Int) / 8) = (smallX x15 : Int) := u32_xor_nat _ (x15 / 8) (Nat.xor_lt_two_pow (n := 32) (ror_lt (by omega) b15) (ror_lt (by omega) b15)) (by omega)
          have e3 := u32_xor_nat (ror 17 x2) (ror 19 x2) (ror_lt (by omega) b2) (ror_lt (by omega) b2)
          have e4 : bits .xor .u32 ((ror 17 x2 ^^^ ror 19 x2 : Nat) : Int) ((x2 : Int) / 1024) = (smallY x2 : Int) := u32_xor_nat _ (x2 / 1024) (Nat.xor_lt_two_pow (n := 32) (ror_lt (by omega) b2) (ror_lt (by omega) b2)) (by omega)
          generalize (ror 7 x15 ^^^ ror 18 x15) = y1 at e1 e2
          generalize (ror 17 x2 ^^^ ror 19 x2) = y2 at e3 e4
          have s1 := wrap_add x16 (smallX x15)
          have s2 := wrap_add ((x16 + smallX x15) % 4294967296) x7
          have s3 := wrap_add (((x16 + smallX x15) % 4294967296 + x7) % 4294967296) (smallY x2)
          generalize smallX x15 = sx at *
          generalize smallY x2 = sy at *
          generalize (x16 + sx) % 4294967296 = t1 at *
          generalize (t1 + x7) % 4294967296 = t2 at *
          generalize (t2 + sy) % 4294967296 = t3 at *
          have HT := Lib.hid HS
          have HL := Lib.hid hlen
          have HO := Lib.hid hown
          clear HS hlen hown
          have q15 : IntKind.i64.wrap ((k : Int) - 15) = (k : Int) - 15 := IntWalk.i64_in _ (by omega)
          have q2 : IntKind.i64.wrap ((k : Int) - 2) = (k : Int) - 2 := IntWalk.i64_in _ (by omega)
          have q16 : IntKind.i64.wrap ((k : Int) - 16) = (k : Int) - 16 := IntWalk.i64_in _ (by omega)
          have q7 : IntKind.i64.wrap ((k : Int) - 7) = (k : Int) - 7 := IntWalk.i64_in _ (by omega)
          have p15 : 0 ≤ (k : Int) - 15 := by omega
          have p2 : 0 ≤ (k : Int) - 2 := by omega
          have p16 : 0 ≤ (k : Int) - 16 := by omega
          have p7 : 0 ≤ (k : Int) - 7 := by omega
          have n15 : ((k : Int) - 15).toNat = k - 15 := by omega
          have n2 : ((k : Int) - 2).toNat = k - 2 := by omega
          have n16 : ((k : Int) - 16).toNat = k - 16 := by omega
          have n7 : ((k : Int) - 7).toNat = k - 7 := by omega
          go_wp2_with fail
          go_quiet (((go_at_call 26; first | exact turn_quiet 7 (by rfl) b15 (by decide) | exact turn_quiet 18 (by rfl) b15 (by decide))))
          have hgr1 : Grows w1 (wr.drewN nq) := below_draws hgr
          have c2' : (wr.drewN nq).cell? ⟨g, k - 2, none⟩ = _ := c2
          have c16' : (wr.drewN nq).cell? ⟨g, k - 16, none⟩ = _ := c16
          have c7' : (wr.drewN nq).cell? ⟨g, k - 7, none⟩ = _ := c7
          have HO' := Lib.hid (own_drawn (m := nq) HO.out)
          clear c15 c2 c16 c7 HO hhas hgr e1 e2 q15 p15 n15
          generalize wr.drewN nq = w2 at *
          go_wp2_with fail
          go_quiet (((go_at_call 26; first | exact turn_quiet 17 (by rfl) b2 (by decide) | exact turn_quiet 19 (by rfl) b2 (by decide))))
          have hgr2 : Grows w1 (w2.drewN nq) := below_draws hgr1
          have c16 : (w2.drewN nq).cell? ⟨g, k - 16, none⟩ = _ := c16'
          have c7 : (w2.drewN nq).cell? ⟨g, k - 7, none⟩ = _ := c7'
          have HO := Lib.hid (own_drawn (m := nq) HO'.out)
          clear c2' c16' c7' HO' hgr1 e3 e4 q2 p2 n2
          generalize w2.drewN nq = w3 at *
          go_wp2_with fail
          refine wp_region_ord 17 [(0, true), (1, true), (2, true), (3, true), (4, true), (5, true), (6, true), (7, true), (8, true), (9, true), (10, true), (11, true), (12, true), (13, true), (14, true), (15, true), (16, false)] (by kernel_rfl) (by kernel_rfl) ?_
          have f16 : ∀ u, Grows w3.drew u → u.cell? ⟨g, k - 16, none⟩ = some (.int .u32 (x16 : Int)) := fun u h => hcell_later (a := w3.drew) c16 h
          have f7 : ∀ u, Grows w3.drew u → u.cell? ⟨g, k - 7, none⟩ = some (.int .u32 (x7 : Int)) := fun u h => hcell_later (a := w3.drew) c7 h
          have hO := Grows.refl w3.drew
          have d16 : (16 : Int) ≤ (k : Int) := by omega
          have d7 : (7 : Int) ≤ (k : Int) := by omega
          have l16 : (k : Int) - 16 < (k : Int) := by omega
          have l7 : (k : Int) - 7 < (k : Int) := by omega
          clear c16 c7
          repeat (first | (refine ord_take hO _ ?_ (by simp only [List.getElem?_cons_succ, List.getElem?_cons_zero]; rfl) (by rfl) ?_ ?_; rotate_left; (· (intro u hu0 hu; (try go_simp); (try with_reducible rfl))); try simp only [Act.put, List.setIfInBounds_toArray, List.set_cons_zero, List.set_cons_succ]) | (refine ord_skip _ (by simp only [List.getElem?_cons_succ, List.getElem?_cons_zero]; rfl) (by rfl) ?_; try simp only [Act.put, List.setIfInBounds_toArray, List.set_cons_zero, List.set_cons_succ]))
          (refine ord_move _ (by simp only [List.getElem?_cons_succ, List.getElem?_cons_zero]; rfl) (by rfl) (fun u hu K hK => ?_); go_simp)
          refine hK.out _ _ (grows_alloc _ _) ?_
          clear hK K
          have hO' := Grows.trans hu (grows_alloc u (.cells #[uv t3] 40))
          have hnew := Lies.new u 40 [uv t3]
          have hown4 := own_later (w := w3.drew) HO.out hO'
          have hgr4 := Grows.trans (below_draws (n := 1) hgr2) hO'
          clear hO HO
          have hz4 : u.heap.size + 1 = (u.alloc (.cells #[uv t3] 40)).heap.size := by simp
          have hz5 : u.heap.size < u.heap.size + 1 := Nat.lt_succ_self _
          rw [hz4] at hnew hz5
          generalize u.heap.size = gu at *
          generalize u.alloc (.cells #[uv t3] 40) = w4 at *
          clear hz4 hu f16 f7
          (refine ord_done (fun u hu => ?_); simp only [List.drop_succ_cons, List.drop_zero])
          have hnew5 := hnew.later hu
          have hown5 := own_later hown4 hu
          have hgr5 := Grows.trans hgr4 hu
          clear hnew hown4 hgr4 hu hO' hgr2
          generalize hwu : u = w5 at *
          clear hwu
          go_wp2_with (at_builtin; refine wpList_append_src _ rfl (.tmp 75) (.tmp 91) _ rfl w1.heap.size 40 i0 _ 4 Tryd.underlying41 hi0 hz0 hz1 hz2 rfl (.slice (some ⟨g, 0, none⟩) k c) k _ rfl hown5 _ _ 1 1 [uv t3] rfl rfl hnew5 (by simp [Value.oneCell']) (by unfold maxLen; omega) (by omega) hgr5.size ?_; intro v' w' hown' hg' hat')
          have hb2 : Grows w1 w' := hgr5.grown hg' hgr5.size (own_ge hown5)
          refine NoPanic.normal ?_
          go_wp2_with fail
          go_roundw
          case rel => exact ⟨k + 1, by omega, by omega, by go_num, by rw [HT.out]; exact hown', hb2⟩
          case measure => simp [intOf]; omega
        · obtain rfl : k = 64 := by omega
          rw [show ((64 : Nat) : Int) = 64 from rfl]
          obtain ⟨gw, cw, rfl, hcw, hgw, hhas⟩ := own_range hown (by omega)
          have hw5 : wr.rangeAt gw 0 ((spreadL blk).map uv) := hhas.cells
          have hk5 := range_later hk1 hgr
          have hh5 := range_later hh (Grows.trans hg1 hgr)
          have hg5 : Grows w wr := Grows.trans hg1 hgr
          have hwl := spreadL_len blk
          have hwb := spreadL_lt blk
          have HM := Lib.hid (show mix v blk = add8 v (rounds roots64 (spreadL blk) 64 v) from rfl)
          clear hown hhas hgr hk1 hh hb hb1 hgk hg1
          generalize spreadL blk = ws at *
          generalize wr = w5 at *
          have HWL := Lib.hid hwl
          have HWB := Lib.hid hwb
          clear hwl hwb
          have hLh : Lies w5 w5.heap.size (some ⟨gh, 0, none⟩) (v.list.map uv) := fun j u hu => ⟨_, rfl, World.block_lt_of_cell? w5 ⟨gh, 0 + j, none⟩ (hh5 j u hu), by rw [add_plain]; exact hh5 j u hu⟩
          go_wp2_with (at_builtin; refine wpList_append_src _ rfl (.tmp 93) (.tmp 94) _ rfl w5.heap.size 40 i0 _ 4 Tryd.underlying41 hi0 hz0 hz1 hz2 rfl (.slice none 0 0) 0 [] rfl (World.ownsRow_nil _ _ _ _) _ _ 8 ch (v.list.map uv) rfl rfl hLh (uv_one _) (by unfold maxLen; omega) (by omega) (Nat.le_refl _) ?_; intro v' w6 hown6 hg6 hat6)
          have hgr6 : Grows w5 w6 := (Grows.refl w5).grown hg6 (Nat.le_refl _) (by simp [Value.ownBlock])
          rw [Nat.zero_add, List.nil_append] at hown6
          obtain ⟨g6, c6, rfl, hc6, hgb6, hhas6⟩ := own_range hown6 (by omega)
          clear hown6 hg6 hat6 hLh
          go_loopw [11, 12] (fun t i wr => ∃ k : Nat, k ≤ 64 ∧ i = .int .i64 k ∧ ∃ g c, t = .slice (some ⟨g, 0, none⟩) 8 c ∧ w5.heap.size ≤ g ∧ Has wr g ((rounds roots64 ws k v).list.map uv) ∧ Grows w5 wr) (fun _ i _ => 64 - (intOf i).toNat)
          case atStart => exact ⟨0, by omega, rfl, g6, c6, rfl, hgb6, hhas6, hgr6⟩
          case round =>
            clear hhas6 hgr6 hgb6 hc6
            obtain ⟨k, hk, rfl, g, c, rfl, hgb, hhas, hgr⟩ := hrel
            by_cases hlt : k < 64
            · have hOk := rounds_ok hv roots64 ws k
              have HR := Lib.hid (show rounds roots64 ws (k + 1) v = rnd (rounds roots64 ws k v) (roots64.getD k 0) (ws.getD k 0) from rfl)
              generalize rounds roots64 ws k v = V at hOk HR hhas
              obtain ⟨xa, xb, xc, xd, xe, xf, xg, xh⟩ := V
              obtain ⟨ba, bb, bc, bd, be, bf, bg, bh⟩ := hOk
              simp only [] at ba bb bc bd be bf bg bh
              have hkc : ∀ u, Grows w5 u → u.cell? ⟨gk, k, none⟩ = some (.int .u32 ((roots64.getD k 0 : Nat) : Int)) := fun u h => by
                have := uv_at (range_later hk5 h) k (by rw [roots64_len]; exact hlt)
                rwa [Nat.zero_add] at this
              have hwc : ∀ u, Grows w5 u → u.cell? ⟨gw, k, none⟩ = some (.int .u32 ((ws.getD k 0 : Nat) : Int)) := fun u h => by
                have := uv_at (range_later hw5 h) k (by rw [HWL.out]; exact hlt)
                rwa [Nat.zero_add] at this
              generalize roots64.getD k 0 = kk at *
              generalize ws.getD k 0 = wk at *
              have HKC := Lib.hid hkc
              have HWC := Lib.hid hwc
              clear hkc hwc
              have k0 : (k : Int) < 64 := by omega
              -- one
              have e1 := u32_xor_nat (ror 6 xe) (ror 11 xe) (ror_lt (by omega) be) (ror_lt (by omega) be)
              have e2 : bits .xor .u32 ((ror 6 xe ^^^ ror 11 xe : Nat) : Int) (ror 25 xe : Int) = (bigE xe : Int) := u32_xor_nat _ _ (xor_lt (ror_lt (by omega) be) (ror_lt (by omega) be)) (ror_lt (by omega) be)
              generalize (ror 6 xe ^^^ ror 11 xe) = y1 at e1 e2
              have d4 := hhas.cell (k := 4) rfl
              simp only [uv] at d4
              go_wp2_with fail
              go_quiet (((go_at_call 26; first | exact turn_quiet 6 (by rfl) be (by decide) | exact turn_quiet 11 (by rfl) be (by decide) | exact turn_quiet 25 (by rfl) be (by decide))))
              have hgr1 : Grows w5 (wr.drewN nq) := below_draws hgr
              have hhas1 := hhas.drawn (m := nq)
              clear hgr hhas d4 e1 e2
              generalize wr.drewN nq = wr1 at *
              -- choose
              have e1 := u32_and_nat xe xf be bf
              have e2 := and_sub xe xg be bg
              have e3 : bits .xor .u32 ((xe &&& xf : Nat) : Int) (((4294967295 - xe) &&& xg : Nat) : Int) = (choose xe xf xg : Int) := u32_xor_nat _ _ (and_lt be) (and_lt (by omega))
              generalize (xe &&& xf) = y1 at e1 e3
              generalize ((4294967295 - xe) &&& xg) = y2 at e2 e3
              have d4 := hhas1.cell (k := 4) rfl
              have d5 := hhas1.cell (k := 5) rfl
              have d6 := hhas1.cell (k := 6) rfl
              simp only [uv] at d4 d5 d6
              go_wp2_with fail
              go_quiet (fail)
              have hgr2 : Grows w5 (wr1.drewN nq) := below_draws hgr1
              have hhas2 := hhas1.drawn (m := nq)
              clear hgr1 hhas1 d4 d5 d6 e1 e2 e3
              generalize wr1.drewN nq = wr2 at *
              -- t
              have t1 := wrap_add xh (bigE xe)
              have t2 := wrap_add ((xh + bigE xe) % 4294967296) (choose xe xf xg)
              have t3 := wrap_add (((xh + bigE xe) % 4294967296 + choose xe xf xg) % 4294967296) kk
              have t4 := wrap_add ((((xh + bigE xe) % 4294967296 + choose xe xf xg) % 4294967296 + kk) % 4294967296) wk
              have HT := Lib.hid (show tee ⟨xa, xb, xc, xd, xe, xf, xg, xh⟩ kk wk = ((((xh + bigE xe) % 4294967296 + choose xe xf xg) % 4294967296 + kk) % 4294967296 + wk) % 4294967296 from rfl)
              have d7 := hhas2.cell (k := 7) rfl
              simp only [uv] at d7
              have dk := HKC.out _ hgr2
              have dw := HWC.out _ hgr2
              generalize (xh + bigE xe) % 4294967296 = t1v at *
              generalize (t1v + choose xe xf xg) % 4294967296 = t2v at *
              generalize (t2v + kk) % 4294967296 = t3v at *
              generalize (t3v + wk) % 4294967296 = tv at *
              have HB := Lib.hid (bigE_lt be)
              generalize bigE xe = sE at *
              generalize choose xe xf xg = sC at *
              go_wp2_with fail
              go_quiet (fail)
              have hgr3 : Grows w5 (wr2.drewN nq) := below_draws hgr2
              have hhas3 := hhas2.drawn (m := nq)
              clear hgr2 hhas2 d7 dk dw t1 t2 t3 t4
              generalize wr2.drewN nq = wr3 at *
              -- two
              have e1 := u32_xor_nat (ror 2 xa) (ror 13 xa) (ror_lt (by omega) ba) (ror_lt (by omega) ba)
              have e2 : bits .xor .u32 ((ror 2 xa ^^^ ror 13 xa : Nat) : Int) (ror 22 xa : Int) = (bigA xa : Int) := u32_xor_nat _ _ (xor_lt (ror_lt (by omega) ba) (ror_lt (by omega) ba)) (ror_lt (by omega) ba)
              generalize (ror 2 xa ^^^ ror 13 xa) = y1 at e1 e2
              have d0 := hhas3.cell (k := 0) rfl
              simp only [uv] at d0
              go_wp2_with fail
              go_quiet (((go_at_call 26; first | exact turn_quiet 2 (by rfl) ba (by decide) | exact turn_quiet 13 (by rfl) ba (by decide) | exact turn_quiet 22 (by rfl) ba (by decide))))
              have hgr4 : Grows w5 (wr3.drewN nq) := below_draws hgr3
              have hhas4 := hhas3.drawn (m := nq)
              clear hgr3 hhas3 d0 e1 e2
              generalize wr3.drewN nq = wr4 at *
              -- most
              have e1 := u32_and_nat xa xb ba bb
              have e2 := u32_and_nat xa xc ba bc
              have e3 := u32_and_nat xb xc bb bc
              have e4 := u32_xor_nat (xa &&& xb) (xa &&& xc) (and_lt ba) (and_lt ba)
              have e5 : bits .xor .u32 ((((xa &&& xb) ^^^ (xa &&& xc)) : Nat) : Int) ((xb &&& xc : Nat) : Int) = (most xa xb xc : Int) := u32_xor_nat _ _ (xor_lt (and_lt ba) (and_lt ba)) (and_lt bb)
              generalize ((xa &&& xb) ^^^ (xa &&& xc)) = y4 at e4 e5
              generalize (xa &&& xb) = y1 at e1 e4
              generalize (xa &&& xc) = y2 at e2 e4
              generalize (xb &&& xc) = y3 at e3 e5
              have d0 := hhas4.cell (k := 0) rfl
              have d1 := hhas4.cell (k := 1) rfl
              have d2 := hhas4.cell (k := 2) rfl
              simp only [uv] at d0 d1 d2
              go_wp2_with fail
              go_quiet (fail)
              have hgr5 : Grows w5 (wr4.drewN nq) := below_draws hgr4
              have hhas5 := hhas4.drawn (m := nq)
              clear hgr4 hhas4 d0 d1 d2 e1 e2 e3 e4 e5
              generalize wr4.drewN nq = wr5 at *
              -- the next eight
              have HY := Lib.hid (show you ⟨xa, xb, xc, xd, xe, xf, xg, xh⟩ = (bigA xa + most xa xb xc) % 4294967296 from rfl)
              have t1 := wrap_add tv (bigA xa)
              have t2 := wrap_add ((tv + bigA xa) % 4294967296) (most xa xb xc)
              have t3 := wrap_add xd tv
              generalize bigA xa = sA at *
              generalize most xa xb xc = sM at *
              have HV : Hid ((rounds roots64 ws (k + 1) v).list = [((tv + sA) % 4294967296 + sM) % 4294967296, xa, xb, xc, (xd + tv) % 4294967296, xe, xf, xg]) := by
                show (rounds roots64 ws (k + 1) v).list = _
                rw [HR.out]
                simp only [rnd, V8.list, HT.out, HY.out]
                rw [show (tv + (sA + sM) % 4294967296) % 4294967296 = ((tv + sA) % 4294967296 + sM) % 4294967296 by omega]
              generalize (tv + sA) % 4294967296 = z1 at *
              generalize (z1 + sM) % 4294967296 = za at *
              generalize (xd + tv) % 4294967296 = ze at *
              have d0 := hhas5.cell (k := 0) rfl
              have d1 := hhas5.cell (k := 1) rfl
              have d2 := hhas5.cell (k := 2) rfl
              have d3 := hhas5.cell (k := 3) rfl
              have d4 := hhas5.cell (k := 4) rfl
              have d5 := hhas5.cell (k := 5) rfl
              have d6 := hhas5.cell (k := 6) rfl
              simp only [uv] at d0 d1 d2 d3 d4 d5 d6
              clear hhas5
              go_wp2_with fail
              go_still_tail 28, (by kernel_rfl)
              change wpList _ _ _ _ _ wr5.drew
              have hgr6 : Grows w5 wr5.drew := hgr5.drew
              clear d0 d1 d2 d3 d4 d5 d6 t1 t2 t3 hgr5
              generalize wr5.drew = wr6 at *
              have hN := Has.new wr6 40 ([za, xa, xb, xc, ze, xe, xf, xg].map uv)
              have hgN := Grows.trans hgr6 (grows_alloc wr6 (.cells ([za, xa, xb, xc, ze, xe, xf, xg].map uv).toArray 40))
              go_wp2_with fail
              go_roundw
              case rel => exact ⟨k + 1, by omega, by go_num, _, _, rfl, hgr6.size, by rw [HV.out]; exact hN, hgN⟩
              case measure => simp [intOf]; omega
            · obtain rfl : k = 64 := by omega
              rw [show ((64 : Nat) : Int) = 64 from rfl]
              have hadd := add8_at v (rounds roots64 ws 64 v)
              rw [← HM.out] at hadd
              have l1 : (mix v blk).list.length = 8 := rfl
              have l2 : (rounds roots64 ws 64 v).list.length = 8 := rfl
              have l3 : v.list.length = 8 := rfl
              clear hw5 hk5 HWL HWB HM
              generalize hml : (mix v blk).list = ml at *
              have HML := Lib.hid hml
              clear hml
              generalize (rounds roots64 ws 64 v).list = rl at *
              generalize v.list = vl at *
              have HA := Lib.hid hadd
              have L1 := Lib.hid l1
              have L2 := Lib.hid l2
              have L3 := Lib.hid l3
              clear hadd l1 l2 l3
              go_wp2_with fail
              go_loopw [18] (fun i wr => ∃ k : Nat, k ≤ 8 ∧ i = .int .i64 k ∧ Has wr g ((ml.take k ++ rl.drop k).map uv) ∧ Grows w5 wr) (fun i _ => 8 - (intOf i).toNat)
              case atStart => exact ⟨0, by omega, rfl, by simpa using hhas, hgr⟩
              case round =>
                clear hhas hgr
                obtain ⟨k, hk, rfl, hhas, hgr⟩ := hrel
                by_cases hlt : k < 8
                · have d1 := uv_has hhas k (by simp [L1.out, L2.out]; omega)
                  rw [mid_getD _ _ _ (by rw [L1.out]; omega) (by rw [L2.out]; exact hlt)] at d1
                  have d2 := uv_at (range_later hh5 hgr) k (by rw [L3.out]; exact hlt)
                  rw [Nat.zero_add] at d2
                  have t1 := wrap_add (rl.getD k 0) (vl.getD k 0)
                  rw [← HA.out k hlt] at t1
                  have hset := hhas.set_ (k := k) (by simp [L1.out, L2.out]; omega) (uv (ml.getD k 0))
                  rw [← List.map_set, mid_set ml rl k _ (getD_some (by rw [L1.out]; exact hlt)) (by rw [L2.out]; exact hlt)] at hset
                  have hfr := hhas.free k
                  have hgs := hgr.setCell (p := ⟨g, k, none⟩) hgb (uv (ml.getD k 0))
                  have hsd : ((wr.setCell ⟨g, k, none⟩ (uv (ml.getD k 0))).drew) = (wr.drew.setCell ⟨g, k, none⟩ (uv (ml.getD k 0))) := rfl
                  have hsetd := hset.drew
                  have hgsd := hgs.drew
                  rw [hsd] at hsetd hgsd
                  clear hsd hset hgs
                  generalize rl.getD k 0 = x at *
                  generalize vl.getD k 0 = y at *
                  generalize ml.getD k 0 = z at *
                  have k0 : (k : Int) < 8 := by omega
                  go_wp2_with fail
                  go_still_tail 12, (by kernel_rfl)
                  change wpList _ _ _ _ _ wr.drew
                  have hfr' : wr.drew.frozen? ⟨g, k, none⟩ = false := hfr
                  have d1' : wr.drew.cell? ⟨g, k, none⟩ = _ := d1
                  clear d1 d2 hfr hhas hgr
                  generalize wr.drew = wr2 at *
                  go_wp2_with fail
                  go_roundw
                  case rel => exact ⟨k + 1, by omega, by go_num, hsetd, hgsd⟩
                  case measure => simp [intOf]; omega
                · obtain rfl : k = 8 := by omega
                  rw [show ((8 : Nat) : Int) = 8 from rfl]
                  rw [List.take_of_length_le (by rw [L1.out]; omega), List.drop_of_length_le (by rw [L2.out]; omega), List.append_nil] at hhas
                  go_wp2_with fail
                  go_ret
                  exact ⟨g, c, rfl, by rw [HML.out]; exact hhas.cells, Grows.trans hg5 hgr⟩
end Go.Proofs.YtfpgnihibgmeeaaDoor
