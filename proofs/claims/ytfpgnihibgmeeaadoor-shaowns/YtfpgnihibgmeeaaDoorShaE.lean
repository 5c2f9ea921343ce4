/-
  Contract of sha.spread: a block's 64 words.
-/
import Derived.Test.YtfpgnihibgmeeaaDoorShaB
import Derived.IntWalk
namespace Go.Proofs.YtfpgnihibgmeeaaDoor
open Go.RowKit
set_option linter.unusedVariables false

theorem arr64_size : (Tryd.prog.info? 58).map (·.size) = some 64 := by kernel_rfl
theorem blk64_size : (Tryd.prog.info? 46).map (·.size) = some 64 := by kernel_rfl
theorem arr8_size : (Tryd.prog.info? 45).map (·.size) = some 8 := by kernel_rfl
def zeros64 : List Nat := List.replicate 64 0
theorem zeros64_len : zeros64.length = 64 := rfl
theorem bv_has {w : World} {b : Nat} {l : List UInt8} (h : Has w b (l.map bv)) (i : Nat) (hi : i < l.length) : w.cell? ⟨b, i, none⟩ = some (.int .u8 ((l.getD i 0).toNat : Int)) :=
  h.cell (by rw [List.getElem?_map]; simp [hi])
theorem or_key (a b k : Nat) (h : b < 2 ^ k) : a * 2 ^ k ||| b = a * 2 ^ k + b := by
  rw [← Nat.shiftLeft_eq, ← Nat.shiftLeft_add_eq_or_of_lt h]
theorem or24 (a b : Nat) (h : b < 16777216) : a * 16777216 ||| b = a * 16777216 + b := or_key a b 24 h
theorem or16 (a b : Nat) (h : b < 65536) : a * 65536 ||| b = a * 65536 + b := or_key a b 16 h
theorem or8 (a b : Nat) (h : b < 256) : a * 256 ||| b = a * 256 + b := or_key a b 8 h
theorem or_four (x0 x1 x2 x3 : Nat) (h0 : x0 < 256) (h1 : x1 < 256) (h2 : x2 < 256) (h3 : x3 < 256) :
    bits .or .u32 ((x0 : Int) * 16777216) ((x1 : Int) * 65536) = ((x0 * 16777216 + x1 * 65536 : Nat) : Int) ∧
    bits .or .u32 ((x0 * 16777216 + x1 * 65536 : Nat) : Int) ((x2 : Int) * 256) = ((x0 * 16777216 + x1 * 65536 + x2 * 256 : Nat) : Int) ∧
    bits .or .u32 ((x0 * 16777216 + x1 * 65536 + x2 * 256 : Nat) : Int) (x3 : Int) = ((x0 * 16777216 + x1 * 65536 + x2 * 256 + x3 : Nat) : Int) := by
  refine ⟨?_, ?_, ?_⟩
  · rw [show (x0 : Int) * 16777216 = ((x0 * 16777216 : Nat) : Int) by omega, show (x1 : Int) * 65536 = ((x1 * 65536 : Nat) : Int) by omega, u32_or_nat _ _ (by omega) (by omega), or24 x0 (x1 * 65536) (by omega)]
  · rw [show (x2 : Int) * 256 = ((x2 * 256 : Nat) : Int) by omega, u32_or_nat _ _ (by omega) (by omega), show x0 * 16777216 + x1 * 65536 = (x0 * 256 + x1) * 65536 by omega, or16 _ (x2 * 256) (by omega)]
  · rw [u32_or_nat _ _ (by omega) (by omega), show x0 * 16777216 + x1 * 65536 + x2 * 256 = (x0 * 65536 + x1 * 256 + x2) * 256 by omega, or8 _ x3 h3]
theorem three (w : World) (A B C : List Value) (ta tb tc : TypeId) :
    Has (((w.alloc (.cells A.toArray ta)).alloc (.cells B.toArray tb)).alloc (.cells C.toArray tc)) w.heap.size A ∧
    Has (((w.alloc (.cells A.toArray ta)).alloc (.cells B.toArray tb)).alloc (.cells C.toArray tc)) (w.heap.size + 1) B ∧
    Has (((w.alloc (.cells A.toArray ta)).alloc (.cells B.toArray tb)).alloc (.cells C.toArray tc)) (w.heap.size + 1 + 1) C ∧
    Grows w (((w.alloc (.cells A.toArray ta)).alloc (.cells B.toArray tb)).alloc (.cells C.toArray tc)) := by
  have h0 := Has.new w ta A
  have g0 := grows_alloc w (.cells A.toArray ta)
  have s0 : (w.alloc (.cells A.toArray ta)).heap.size = w.heap.size + 1 := by simp
  generalize w.alloc (.cells A.toArray ta) = w0 at *
  have h1 := Has.new w0 tb B
  have g1 := grows_alloc w0 (.cells B.toArray tb)
  have s1 : (w0.alloc (.cells B.toArray tb)).heap.size = w.heap.size + 1 + 1 := by simp [s0]
  rw [s0] at h1
  generalize w0.alloc (.cells B.toArray tb) = w1 at *
  have h2 := Has.new w1 tc C
  have g2 := grows_alloc w1 (.cells C.toArray tc)
  rw [s1] at h2
  exact ⟨(h0.later g1).later g2, h1.later g2, h2, Grows.trans g0 (Grows.trans g1 g2)⟩

theorem turned_grow {x : Nat} {z : Int} {u : World} (n : Nat) (hz : z = (n : Int)) (hx : x < 4294967296) (h0 : 0 < n) (hn : n < 32) :
    Calls Tryd.prog 31 #[.int .u32 (x : Int), .int .i64 z] u fun e u' => e = .returned (.int .u32 ((ror n x : Nat) : Int)) ∧ Grows u u' := by
  subst hz
  exact (turned_any x n _ hx h0 hn).mono fun _ _ ⟨he, hw⟩ => ⟨he, by rw [← hw]; exact Grows.refl _⟩

set_option maxRecDepth 100000 in
set_option maxHeartbeats 1000000 in
theorem spread_any (blk : List UInt8) (w : World) (hl : blk.length = 64) :
    Calls Tryd.prog 30 #[.agg (blk.map bv).toArray] w fun e w' => e = .returned (.agg ((spreadL blk).map uv).toArray) ∧ Grows w w' := by
  obtain ⟨hA, hR, hW, hg⟩ := three w (blk.map bv) (zeros64.map uv) (zeros64.map uv) 46 58 58
  have HL := Lib.hid hl
  clear hl
  go_enter Tryd.func30, Tryd.ntmps30
  go_wp2
  change Code.wp _ _ _ _ (((w.alloc (.cells (blk.map bv).toArray 46)).alloc (.cells (zeros64.map uv).toArray 58)).alloc (.cells (zeros64.map uv).toArray 58))
  generalize ((w.alloc (.cells (blk.map bv).toArray 46)).alloc (.cells (zeros64.map uv).toArray 58)).alloc (.cells (zeros64.map uv).toArray 58) = w3 at *
  have l01 : w.heap.size < w.heap.size + 1 + 1 := by omega
  have l12 : w.heap.size + 1 < w.heap.size + 1 + 1 := by omega
  generalize w.heap.size + 1 + 1 = b2 at *
  have l1 : w.heap.size ≤ w.heap.size + 1 := by omega
  generalize w.heap.size + 1 = b1 at *
  have hsl := spreadL_len blk
  have hsa := spreadL_at blk
  have hsb := spreadL_lt blk
  have hzl := zeros64_len
  obtain ⟨ws, hws⟩ : ∃ ws, ws = spreadL blk := ⟨_, rfl⟩
  rw [← hws] at hsl hsa hsb
  generalize zeros64 = zs at *
  have HSL := Lib.hid hsl
  have HSA := Lib.hid hsa
  have HSB := Lib.hid hsb
  have HWS := Lib.hid hws
  have HZL := Lib.hid hzl
  clear hsl hsa hws hsb hzl
  go_loopw [8] (fun i wr => ∃ k : Nat, k ≤ 16 ∧ i = .int .i64 k ∧ Has wr b2 ((ws.take k ++ zs.drop k).map uv) ∧ Below b2 w3 wr) (fun i _ => 16 - (intOf i).toNat)
  case atStart => exact ⟨0, Nat.zero_le _, rfl, hW, Below.refl _ _⟩
  case round =>
    clear hW
    obtain ⟨k, hk, rfl, hhas, hbel⟩ := hrel
    by_cases hlt : k < 16
    · have hA' := hA.below hbel l01
      have c0 := bv_has hA' (4 * k) (by rw [HL.out]; omega)
      have c1 := bv_has hA' (4 * k + 1) (by rw [HL.out]; omega)
      have c2 := bv_has hA' (4 * k + 2) (by rw [HL.out]; omega)
      have c3 := bv_has hA' (4 * k + 3) (by rw [HL.out]; omega)
      have b0 := (blk.getD (4 * k) 0).toNat_lt
      have b1' := (blk.getD (4 * k + 1) 0).toNat_lt
      have b2' := (blk.getD (4 * k + 2) 0).toNat_lt
      have b3 := (blk.getD (4 * k + 3) 0).toNat_lt
      have hat := HSA.out k (by omega)
      rw [if_pos hlt] at hat
      unfold wordAt at hat
      generalize (blk.getD (4 * k) 0).toNat = x0 at *
      generalize (blk.getD (4 * k + 1) 0).toNat = x1 at *
      generalize (blk.getD (4 * k + 2) 0).toNat = x2 at *
      generalize (blk.getD (4 * k + 3) 0).toNat = x3 at *
      obtain ⟨e1, e2, e3⟩ := or_four x0 x1 x2 x3 b0 b1' b2' b3
      obtain ⟨z3, hz3⟩ : ∃ z, z = x0 * 16777216 + x1 * 65536 + x2 * 256 + x3 := ⟨_, rfl⟩
      obtain ⟨z2, hz2⟩ : ∃ z, z = x0 * 16777216 + x1 * 65536 + x2 * 256 := ⟨_, rfl⟩
      obtain ⟨z1, hz1⟩ : ∃ z, z = x0 * 16777216 + x1 * 65536 := ⟨_, rfl⟩
      rw [← hz3] at e3 hat
      rw [← hz2] at e2 e3
      rw [← hz1] at e1 e2
      clear hz1 hz2 hz3
      have HH := Lib.hid hhas
      have HB := Lib.hid hbel
      have HAT := Lib.hid hat
      clear hhas hat
      go_wp2_with fail
      have k0 : (k : Int) < 64 := by omega
      have p0 : (4 : Int) * (k : Int) < 64 := by omega
      have p1 : (4 : Int) * (k : Int) + 1 < 64 := by omega
      have p2 : (4 : Int) * (k : Int) + 2 < 64 := by omega
      have p3 : (4 : Int) * (k : Int) + 3 < 64 := by omega
      have r0 : (0 : Int) ≤ (4 : Int) * (k : Int) := by omega
      have r1 : (0 : Int) ≤ (4 : Int) * (k : Int) + 1 := by omega
      have r2 : (0 : Int) ≤ (4 : Int) * (k : Int) + 2 := by omega
      have r3 : (0 : Int) ≤ (4 : Int) * (k : Int) + 3 := by omega
      have n0 : ((4 : Int) * (k : Int)).toNat = 4 * k := by omega
      have n1 : ((4 : Int) * (k : Int) + 1).toNat = 4 * k + 1 := by omega
      have n2 : ((4 : Int) * (k : Int) + 2).toNat = 4 * k + 2 := by omega
      have n3 : ((4 : Int) * (k : Int) + 3).toNat = 4 * k + 3 := by omega
      have q0 : IntKind.i64.wrap ((4 : Int) * (k : Int)) = 4 * (k : Int) := IntWalk.i64_in _ (by omega)
      have q1 : IntKind.i64.wrap ((4 : Int) * (k : Int) + 1) = 4 * (k : Int) + 1 := IntWalk.i64_in _ (by omega)
      have q2 : IntKind.i64.wrap ((4 : Int) * (k : Int) + 2) = 4 * (k : Int) + 2 := IntWalk.i64_in _ (by omega)
      have q3 : IntKind.i64.wrap ((4 : Int) * (k : Int) + 3) = 4 * (k : Int) + 3 := IntWalk.i64_in _ (by omega)
      have s0 : IntKind.u32.wrap (x0 : Int) = (x0 : Int) := IntWalk.u32_in _ (by omega)
      have s1 : IntKind.u32.wrap (x1 : Int) = (x1 : Int) := IntWalk.u32_in _ (by omega)
      have s2 : IntKind.u32.wrap (x2 : Int) = (x2 : Int) := IntWalk.u32_in _ (by omega)
      have s3 : IntKind.u32.wrap (x3 : Int) = (x3 : Int) := IntWalk.u32_in _ (by omega)
      have t0 : IntKind.u32.wrap ((x0 : Int) * 16777216) = (x0 : Int) * 16777216 := IntWalk.u32_in _ (by omega)
      have t1 : IntKind.u32.wrap ((x1 : Int) * 65536) = (x1 : Int) * 65536 := IntWalk.u32_in _ (by omega)
      have t2 : IntKind.u32.wrap ((x2 : Int) * 256) = (x2 : Int) * 256 := IntWalk.u32_in _ (by omega)
      refine wp_region_ord 31 [(0, true), (1, true), (2, true), (3, true), (4, true), (5, true), (6, true), (7, true), (8, true), (9, true), (10, true), (11, true), (12, true), (13, true), (14, true), (15, true), (16, true), (17, true), (18, true), (19, true), (20, true), (21, true), (22, true), (23, true), (24, true), (25, true), (26, true), (27, true), (28, true), (29, true), (30, true)] (by kernel_rfl) (by kernel_rfl) ?_
      have f0 : ∀ u, Grows wr.drew u → u.cell? ⟨w.heap.size, 4 * k, none⟩ = some (.int .u8 (x0 : Int)) := fun u h => hcell_later (a := wr.drew) c0 h
      have f1 : ∀ u, Grows wr.drew u → u.cell? ⟨w.heap.size, 4 * k + 1, none⟩ = some (.int .u8 (x1 : Int)) := fun u h => hcell_later (a := wr.drew) c1 h
      have f2 : ∀ u, Grows wr.drew u → u.cell? ⟨w.heap.size, 4 * k + 2, none⟩ = some (.int .u8 (x2 : Int)) := fun u h => hcell_later (a := wr.drew) c2 h
      have f3 : ∀ u, Grows wr.drew u → u.cell? ⟨w.heap.size, 4 * k + 3, none⟩ = some (.int .u8 (x3 : Int)) := fun u h => hcell_later (a := wr.drew) c3 h
      have hO := Grows.refl wr.drew
      clear c0 c1 c2 c3 hbel
      repeat (first | (refine ord_take hO _ ?_ (by simp only [List.getElem?_cons_succ, List.getElem?_cons_zero]; rfl) (by rfl) ?_ ?_; rotate_left; (· (intro u hu0 hu; (try go_simp); (try with_reducible rfl))); try simp only [Act.put, List.setIfInBounds_toArray, List.set_cons_zero, List.set_cons_succ]) | (refine ord_skip _ (by simp only [List.getElem?_cons_succ, List.getElem?_cons_zero]; rfl) (by rfl) ?_; try simp only [Act.put, List.setIfInBounds_toArray, List.set_cons_zero, List.set_cons_succ]))
      clear f0 f1 f2 f3 e1 e2 e3 p0 p1 p2 p3 r0 r1 r2 r3 n0 n1 n2 n3 q0 q1 q2 q3 s0 s1 s2 s3 t0 t1 t2 hO
      (refine ord_done (fun u hu => ?_); simp only [List.drop_succ_cons, List.drop_zero])
      have hhu := HH.out.drew.later hu
      have hbu : Below b2 w3 u := Below.trans HB.out.drew (hu.mono (Nat.le_of_lt HH.out.lt))
      have hset := hhu.set_ (k := k) (by simp [HSL.out, HZL.out]; omega) (uv z3)
      rw [← List.map_set, mid_set _ zs k _ HAT.out (by rw [HZL.out]; omega)] at hset
      have hbs := hbu.setCell (p := ⟨b2, k, none⟩) (Nat.le_refl _) (uv z3)
      have hfr := hhu.free k
      obtain ⟨y, hy⟩ : ∃ y, ((ws.take k ++ zs.drop k).map uv)[k]? = some y := ⟨_, List.getElem?_eq_getElem (by simp [HSL.out, HZL.out]; omega)⟩
      have hcy := hhu.cell hy
      clear hy hhu hbu hu
      go_wp2_with fail
      refine NoPanic.normal ?_
      go_wp2_with fail
      go_roundw
      case rel => exact ⟨k + 1, by omega, by go_num, hset, hbs⟩
      case measure => simp [intOf]; omega
    · obtain rfl : k = 16 := by omega
      rw [show ((16 : Nat) : Int) = 16 from rfl]
      go_wp2_with fail
      go_loopw [5] (fun i wr => ∃ k : Nat, 16 ≤ k ∧ k ≤ 64 ∧ i = .int .i64 k ∧ Has wr b2 ((ws.take k ++ zs.drop k).map uv) ∧ Below b2 w3 wr) (fun i _ => 64 - (intOf i).toNat)
      case atStart => exact ⟨16, by omega, by omega, rfl, hhas, hbel⟩
      case round =>
        clear hhas hbel
        obtain ⟨k, hk0, hk, rfl, hhas, hbel⟩ := hrel
        by_cases hlt : k < 64
        · have hlen : (ws.take k ++ zs.drop k).length = 64 := by simp [HSL.out, HZL.out]; omega
          have hgd : ∀ j, j < k → (ws.take k ++ zs.drop k).getD j 0 = ws.getD j 0 := fun j hj => by
            rw [List.getD_eq_getElem?_getD, List.getD_eq_getElem?_getD, List.getElem?_append_left (by simp [HSL.out]; omega), List.getElem?_take, if_pos hj]
          have c15 := uv_has hhas (k - 15) (by omega)
          have c2 := uv_has hhas (k - 2) (by omega)
          have c16 := uv_has hhas (k - 16) (by omega)
          have c7 := uv_has hhas (k - 7) (by omega)
          rw [hgd _ (by omega)] at c15 c2 c16 c7
          have hat := HSA.out k hlt
          rw [if_neg (by omega)] at hat
          unfold nextW at hat
          have b15 := getD_lt HSB.out (by omega) (k - 15)
          have b2' := getD_lt HSB.out (by omega) (k - 2)
          generalize ws.getD (k - 15) 0 = x15 at *
          generalize ws.getD (k - 2) 0 = x2 at *
          generalize ws.getD (k - 16) 0 = x16 at *
          generalize ws.getD (k - 7) 0 = x7 at *
          have e1 := u32_xor_nat (ror 7 x15) (ror 18 x15) (ror_lt (by omega) b15) (ror_lt (by omega) b15)
          have e2 : bits .xor .u32 ((ror 7 x15 ^^^ ror 18 x15 : Nat) : Int) ((x15 : Int) / 8) = (smallX x15 : Int) := u32_xor_nat _ (x15 / 8) (xor_lt (ror_lt (by omega) b15) (ror_lt (by omega) b15)) (by omega)
          have e3 := u32_xor_nat (ror 17 x2) (ror 19 x2) (ror_lt (by omega) b2') (ror_lt (by omega) b2')
          have e4 : bits .xor .u32 ((ror 17 x2 ^^^ ror 19 x2 : Nat) : Int) ((x2 : Int) / 1024) = (smallY x2 : Int) := u32_xor_nat _ (x2 / 1024) (xor_lt (ror_lt (by omega) b2') (ror_lt (by omega) b2')) (by omega)
          generalize (ror 7 x15 ^^^ ror 18 x15) = y1 at e1 e2
          generalize (ror 17 x2 ^^^ ror 19 x2) = y2 at e3 e4
          have s1 := wrap_add x16 (smallX x15)
          have s2 := wrap_add ((x16 + smallX x15) % 4294967296) x7
          have s3 := wrap_add (((x16 + smallX x15) % 4294967296 + x7) % 4294967296) (smallY x2)
          generalize smallX x15 = sx at *
          generalize smallY x2 = sy at *
          generalize (x16 + sx) % 4294967296 = t1 at *
          generalize (t1 + x7) % 4294967296 = t2 at *
          generalize (t2 + sy) % 4294967296 = t3 at *
          have HAT := Lib.hid hat
          have HLEN := Lib.hid hlen
          have HC16 := Lib.hid c16
          have HC7 := Lib.hid c7
          clear hat hlen hgd c16 c7
          go_wp2_with fail
          have q15 : IntKind.i64.wrap ((k : Int) - 15) = (k : Int) - 15 := IntWalk.i64_in _ (by omega)
          have q2 : IntKind.i64.wrap ((k : Int) - 2) = (k : Int) - 2 := IntWalk.i64_in _ (by omega)
          have p15 : 0 ≤ (k : Int) - 15 := by omega
          have p2 : 0 ≤ (k : Int) - 2 := by omega
          have n15 : ((k : Int) - 15).toNat = k - 15 := by omega
          have n2 : ((k : Int) - 2).toNat = k - 2 := by omega
          go_quiet (fail)
          clear q15 q2 p15 p2 n15 n2
          have hhas1 := hhas.drawn (m := nq)
          have hbel1 : Below b2 w3 (wr.drewN nq) := below_draws hbel
          have c16 : (wr.drewN nq).cell? ⟨b2, k - 16, none⟩ = _ := HC16.out
          have c7 : (wr.drewN nq).cell? ⟨b2, k - 7, none⟩ = _ := HC7.out
          clear hhas hbel c15 c2 HC16 HC7
          generalize wr.drewN nq = w5 at *
          have HH := Lib.hid hhas1
          have HB := Lib.hid hbel1
          clear hhas1 hbel1
          go_wp2_with fail
          refine wp_region_ord 29 [(0, true), (1, true), (2, true), (3, true), (4, true), (5, true), (6, true), (7, true), (8, true), (9, true), (10, true), (11, true), (12, true), (13, true), (14, true), (15, true), (16, true), (17, true), (18, true), (19, true), (20, true), (21, true), (22, true), (23, true), (24, true), (25, true), (26, true), (27, true), (28, true)] (by kernel_rfl) (by kernel_rfl) ?_
          have f16 : ∀ u, Grows w5.drew u → u.cell? ⟨b2, k - 16, none⟩ = some (.int .u32 (x16 : Int)) := fun u h => hcell_later (a := w5.drew) c16 h
          have f7 : ∀ u, Grows w5.drew u → u.cell? ⟨b2, k - 7, none⟩ = some (.int .u32 (x7 : Int)) := fun u h => hcell_later (a := w5.drew) c7 h
          have hO := Grows.refl w5.drew
          have d16 : (16 : Int) ≤ (k : Int) := by omega
          have d7 : (7 : Int) ≤ (k : Int) := by omega
          have l16 : (k : Int) - 16 < 64 := by omega
          have l7 : (k : Int) - 7 < 64 := by omega
          have k0 : (k : Int) < 64 := by omega
          have q16 : IntKind.i64.wrap ((k : Int) - 16) = (k : Int) - 16 := IntWalk.i64_in _ (by omega)
          have q7 : IntKind.i64.wrap ((k : Int) - 7) = (k : Int) - 7 := IntWalk.i64_in _ (by omega)
          have n16 : ((k : Int) - 16).toNat = k - 16 := by omega
          have n7 : ((k : Int) - 7).toNat = k - 7 := by omega
          clear c16 c7
          repeat (first | (refine ord_take hO _ ?_ (by simp only [List.getElem?_cons_succ, List.getElem?_cons_zero]; rfl) (by rfl) ?_ ?_; rotate_left; (· (intro u hu0 hu; (try go_simp); (try with_reducible rfl))); try simp only [Act.put, List.setIfInBounds_toArray, List.set_cons_zero, List.set_cons_succ]) | (refine ord_skip _ (by simp only [List.getElem?_cons_succ, List.getElem?_cons_zero]; rfl) (by rfl) ?_; try simp only [Act.put, List.setIfInBounds_toArray, List.set_cons_zero, List.set_cons_succ]) | (refine ord_call hO _ ?_ (by simp only [List.getElem?_cons_succ, List.getElem?_cons_zero]; rfl) (by rfl) ?_ ?_; rotate_left; (· (intro u hu0 hu; go_simp; (try refine quiet_enter ?_); (first | exact turned_grow 7 (by rfl) b15 (by decide) (by decide) | exact turned_grow 18 (by rfl) b15 (by decide) (by decide) | exact turned_grow 17 (by rfl) b2' (by decide) (by decide) | exact turned_grow 19 (by rfl) b2' (by decide) (by decide)))); try simp only [Act.put, List.setIfInBounds_toArray, List.set_cons_zero, List.set_cons_succ]))
          clear f16 f7 hO d16 d7 l16 l7 q16 q7 n16 n7 e1 e2 e3 e4 s1 s2 s3
          (refine ord_done (fun u hu => ?_); simp only [List.drop_succ_cons, List.drop_zero])
          have hhu := HH.out.drew.later hu
          have hbu : Below b2 w3 u := Below.trans HB.out.drew (hu.mono (Nat.le_of_lt HH.out.lt))
          have hset := hhu.set_ (k := k) (by rw [List.length_map, HLEN.out]; omega) (uv t3)
          rw [← List.map_set, mid_set _ zs k _ HAT.out (by rw [HZL.out]; omega)] at hset
          have hbs := hbu.setCell (p := ⟨b2, k, none⟩) (Nat.le_refl _) (uv t3)
          have hfr := hhu.free k
          obtain ⟨y, hy⟩ : ∃ y, ((ws.take k ++ zs.drop k).map uv)[k]? = some y := ⟨_, List.getElem?_eq_getElem (by rw [List.length_map, HLEN.out]; omega)⟩
          have hcy := hhu.cell hy
          clear hy hhu hbu hu
          go_wp2_with fail
          refine NoPanic.normal ?_
          go_wp2_with fail
          go_roundw
          case rel => exact ⟨k + 1, by omega, by omega, by go_num, hset, hbs⟩
          case measure => simp [intOf]; omega
        · obtain rfl : k = 64 := by omega
          rw [List.take_of_length_le (by rw [HSL.out]; omega), List.drop_of_length_le (by rw [HZL.out]; omega), List.append_nil] at hhas
          have hld := hhas.load Tryd.underlying58 rfl (by rw [List.length_map, HSL.out]; exact arr64_size)
          have hRb := hR.below hbel l12
          go_wp2_with (first | (with_reducible refine wpList_loads rfl 58 (.tmp 3) rfl _ rfl _ hld ?_) | (refine wpList_storev rfl 58 (.tmp 2) (.tmp 84) rfl b1 (zs.map uv) (ws.map uv) 64 rfl rfl hRb (by rw [List.length_map, HZL.out]) (by rw [List.length_map, HSL.out]) arr64_size (uv_one ws) ?_; intro w6 hbox6 hbel6))
          have hfin := hbel6 _ _ l1 (Below.trans hg (hbel.mono (Nat.le_of_lt l01)))
          rw [HWS.out] at hbox6
          refine bodyPost_ret (v := .agg ((spreadL blk).map uv).toArray) (res_has Tryd.results30 _ rfl Tryd.underlying58 rfl (by rw [List.length_map, spreadL_len]; exact arr64_size) hbox6) rfl ⟨rfl, hfin⟩
end Go.Proofs.YtfpgnihibgmeeaaDoor
