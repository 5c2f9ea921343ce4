/-
  Contracts, joined (ShaE ShaF ShaC ShaD).
-/
import Derived.Test.YtbcldknecdbemaaGreatDoorQ7
import Derived.IntWalk
import Derived.Deep.OwnRows

/-
  Contract of sha.spread: a block's 64 words.
-/
namespace Go.Proofs.YtbcldknecdbemaaGreatDoor
open Go.RowKit
set_option linter.unusedVariables false
set_option maxRecDepth 20000

theorem arr64_size : (Tryz.prog.info? 208).map (·.size) = some 64 := by kernel_rfl
theorem blk64_size : (Tryz.prog.info? 171).map (·.size) = some 64 := by kernel_rfl
theorem arr8_size : (Tryz.prog.info? 170).map (·.size) = some 8 := by kernel_rfl
def zeros64 : List Nat := List.replicate 64 0
theorem zeros64_len : zeros64.length = 64 := rfl
theorem bv_has {w : World} {b : Nat} {l : List UInt8} (h : Has w b (l.map bv)) (i : Nat) (hi : i < l.length) : w.cell? ⟨b, i, none⟩ = some (.int .u8 ((l.getD i 0).toNat : Int)) :=
  h.cell (by rw [List.getElem?_map]; simp [hi])
theorem or_key (a b k : Nat) (h : b < 2 ^ k) : a * 2 ^ k ||| b = a * 2 ^ k + b := by
  rw [← Nat.shiftLeft_eq, ← Nat.shiftLeft_add_eq_or_of_lt h]
theorem or24 (a b : Nat) (h : b < 16777216) : a * 16777216 ||| b = a * 16777216 + b := or_key a b 24 h
theorem or16 (a b : Nat) (h : b < 65536) : a * 65536 ||| b = a * 65536 + b := or_key a b 16 h
theorem or8 (a b : Nat) (h : b < 256) : a * 256 ||| b = a * 256 + b := or_key a b 8 h
theorem or_four (x0 x1 x2 x3 : Nat) (h0 : x0 < 256) (h1 : x1 < 256) (h2 : x2 < 256) (h3 : x3 < 256) :
    bits .or .u32 ((x0 : Int) * 16777216) ((x1 : Int) * 65536) = ((x0 * 16777216 + x1 * 65536 : Nat) : Int) ∧
    bits .or .u32 ((x0 * 16777216 + x1 * 65536 : Nat) : Int) ((x2 : Int) * 256) = ((x0 * 16777216 + x1 * 65536 + x2 * 256 : Nat) : Int) ∧
    bits .or .u32 ((x0 * 16777216 + x1 * 65536 + x2 * 256 : Nat) : Int) (x3 : Int) = ((x0 * 16777216 + x1 * 65536 + x2 * 256 + x3 : Nat) : Int) := by
  refine ⟨?_, ?_, ?_⟩
  · rw [show (x0 : Int) * 16777216 = ((x0 * 16777216 : Nat) : Int) by omega, show (x1 : Int) * 65536 = ((x1 * 65536 : Nat) : Int) by omega, u32_or_nat _ _ (by omega) (by omega), or24 x0 (x1 * 65536) (by omega)]
  · rw [show (x2 : Int) * 256 = ((x2 * 256 : Nat) : Int) by omega, u32_or_nat _ _ (by omega) (by omega), show x0 * 16777216 + x1 * 65536 = (x0 * 256 + x1) * 65536 by omega, or16 _ (x2 * 256) (by omega)]
  · rw [u32_or_nat _ _ (by omega) (by omega), show x0 * 16777216 + x1 * 65536 + x2 * 256 = (x0 * 65536 + x1 * 256 + x2) * 256 by omega, or8 _ x3 h3]
theorem three (w : World) (A B C : List Value) (ta tb tc : TypeId) :
    Has (((w.alloc (.cells A.toArray ta)).alloc (.cells B.toArray tb)).alloc (.cells C.toArray tc)) w.heap.size A ∧
    Has (((w.alloc (.cells A.toArray ta)).alloc (.cells B.toArray tb)).alloc (.cells C.toArray tc)) (w.heap.size + 1) B ∧
    Has (((w.alloc (.cells A.toArray ta)).alloc (.cells B.toArray tb)).alloc (.cells C.toArray tc)) (w.heap.size + 1 + 1) C ∧
    Grows w (((w.alloc (.cells A.toArray ta)).alloc (.cells B.toArray tb)).alloc (.cells C.toArray tc)) := by
  have h0 := Has.new w ta A
  have g0 := grows_alloc w (.cells A.toArray ta)
  have s0 : (w.alloc (.cells A.toArray ta)).heap.size = w.heap.size + 1 := by simp
  generalize w.alloc (.cells A.toArray ta) = w0 at *
  have h1 := Has.new w0 tb B
  have g1 := grows_alloc w0 (.cells B.toArray tb)
  have s1 : (w0.alloc (.cells B.toArray tb)).heap.size = w.heap.size + 1 + 1 := by simp [s0]
  rw [s0] at h1
  generalize w0.alloc (.cells B.toArray tb) = w1 at *
  have h2 := Has.new w1 tc C
  have g2 := grows_alloc w1 (.cells C.toArray tc)
  rw [s1] at h2
  exact ⟨(h0.later g1).later g2, h1.later g2, h2, Grows.trans g0 (Grows.trans g1 g2)⟩

theorem turned_grow {x : Nat} {z : Int} {u : World} (n : Nat) (hz : z = (n : Int)) (hx : x < 4294967296) (h0 : 0 < n) (hn : n < 32) :
    Calls Tryz.prog 177 #[.int .u32 (x : Int), .int .i64 z] u fun e u' => e = .returned (.int .u32 ((ror n x : Nat) : Int)) ∧ Grows u u' := by
  subst hz
  exact (turned_any x n _ hx h0 hn).mono fun _ _ ⟨he, hw⟩ => ⟨he, by rw [← hw]; exact Grows.refl _⟩

set_option maxRecDepth 100000 in
set_option maxHeartbeats 1000000 in
theorem spread_any (blk : List UInt8) (w : World) (hl : blk.length = 64) :
    Calls Tryz.prog 164 #[.agg (blk.map bv).toArray] w fun e w' => e = .returned (.agg ((spreadL blk).map uv).toArray) ∧ Grows w w' := by
  obtain ⟨hA, hR, hW, hg⟩ := three w (blk.map bv) (zeros64.map uv) (zeros64.map uv) 171 208 208
  have HL := Lib.hid hl
  clear hl
  go_enter Tryz.func164, Tryz.ntmps164
  go_wp2
  change Code.wp _ _ _ _ (((w.alloc (.cells (blk.map bv).toArray 171)).alloc (.cells (zeros64.map uv).toArray 208)).alloc (.cells (zeros64.map uv).toArray 208))
  generalize ((w.alloc (.cells (blk.map bv).toArray 171)).alloc (.cells (zeros64.map uv).toArray 208)).alloc (.cells (zeros64.map uv).toArray 208) = w3 at *
  have l01 : w.heap.size < w.heap.size + 1 + 1 := by omega
  have l12 : w.heap.size + 1 < w.heap.size + 1 + 1 := by omega
  generalize w.heap.size + 1 + 1 = b2 at *
  have l1 : w.heap.size ≤ w.heap.size + 1 := by omega
  generalize w.heap.size + 1 = b1 at *
  have hsl := spreadL_len blk
  have hsa := spreadL_at blk
  have hsb := spreadL_lt blk
  have hzl := zeros64_len
  obtain ⟨ws, hws⟩ : ∃ ws, ws = spreadL blk := ⟨_, rfl⟩
  rw [← hws] at hsl hsa hsb
  generalize zeros64 = zs at *
  have HSL := Lib.hid hsl
  have HSA := Lib.hid hsa
  have HSB := Lib.hid hsb
  have HWS := Lib.hid hws
  have HZL := Lib.hid hzl
  clear hsl hsa hws hsb hzl
  go_loopw [8] (fun i wr => ∃ k : Nat, k ≤ 16 ∧ i = .int .i64 k ∧ Has wr b2 ((ws.take k ++ zs.drop k).map uv) ∧ Below b2 w3 wr) (fun i _ => 16 - (intOf i).toNat)
  case atStart => exact ⟨0, Nat.zero_le _, rfl, hW, Below.refl _ _⟩
  case round =>
    clear hW
    obtain ⟨k, hk, rfl, hhas, hbel⟩ := hrel
    by_cases hlt : k < 16
    · have hA' := hA.below hbel l01
      have c0 := bv_has hA' (4 * k) (by rw [HL.out]; omega)
      have c1 := bv_has hA' (4 * k + 1) (by rw [HL.out]; omega)
      have c2 := bv_has hA' (4 * k + 2) (by rw [HL.out]; omega)
      have c3 := bv_has hA' (4 * k + 3) (by rw [HL.out]; omega)
      have b0 := (blk.getD (4 * k) 0).toNat_lt
      have b1' := (blk.getD (4 * k + 1) 0).toNat_lt
      have b2' := (blk.getD (4 * k + 2) 0).toNat_lt
      have b3 := (blk.getD (4 * k + 3) 0).toNat_lt
      have hat := HSA.out k (by omega)
      rw [if_pos hlt] at hat
      unfold wordAt at hat
      generalize (blk.getD (4 * k) 0).toNat = x0 at *
      generalize (blk.getD (4 * k + 1) 0).toNat = x1 at *
      generalize (blk.getD (4 * k + 2) 0).toNat = x2 at *
      generalize (blk.getD (4 * k + 3) 0).toNat = x3 at *
      obtain ⟨e1, e2, e3⟩ := or_four x0 x1 x2 x3 b0 b1' b2' b3
      obtain ⟨z3, hz3⟩ : ∃ z, z = x0 * 16777216 + x1 * 65536 + x2 * 256 + x3 := ⟨_, rfl⟩
      obtain ⟨z2, hz2⟩ : ∃ z, z = x0 * 16777216 + x1 * 65536 + x2 * 256 := ⟨_, rfl⟩
      obtain ⟨z1, hz1⟩ : ∃ z, z = x0 * 16777216 + x1 * 65536 := ⟨_, rfl⟩
      rw [← hz3] at e3 hat
      rw [← hz2] at e2 e3
      rw [← hz1] at e1 e2
      clear hz1 hz2 hz3
      have HH := Lib.hid hhas
      have HB := Lib.hid hbel
      have HAT := Lib.hid hat
      clear hhas hat
      go_wp2_with fail
      have k0 : (k : Int) < 64 := by omega
      have p0 : (4 : Int) * (k : Int) < 64 := by omega
      have p1 : (4 : Int) * (k : Int) + 1 < 64 := by omega
      have p2 : (4 : Int) * (k : Int) + 2 < 64 := by omega
      have p3 : (4 : Int) * (k : Int) + 3 < 64 := by omega
      have r0 : (0 : Int) ≤ (4 : Int) * (k : Int) := by omega
      have r1 : (0 : Int) ≤ (4 : Int) * (k : Int) + 1 := by omega
      have r2 : (0 : Int) ≤ (4 : Int) * (k : Int) + 2 := by omega
      have r3 : (0 : Int) ≤ (4 : Int) * (k : Int) + 3 := by omega
      have n0 : ((4 : Int) * (k : Int)).toNat = 4 * k := by omega
      have n1 : ((4 : Int) * (k : Int) + 1).toNat = 4 * k + 1 := by omega
      have n2 : ((4 : Int) * (k : Int) + 2).toNat = 4 * k + 2 := by omega
      have n3 : ((4 : Int) * (k : Int) + 3).toNat = 4 * k + 3 := by omega
      have q0 : IntKind.i64.wrap ((4 : Int) * (k : Int)) = 4 * (k : Int) := IntWalk.i64_in _ (by omega)
      have q1 : IntKind.i64.wrap ((4 : Int) * (k : Int) + 1) = 4 * (k : Int) + 1 := IntWalk.i64_in _ (by omega)
      have q2 : IntKind.i64.wrap ((4 : Int) * (k : Int) + 2) = 4 * (k : Int) + 2 := IntWalk.i64_in _ (by omega)
      have q3 : IntKind.i64.wrap ((4 : Int) * (k : Int) + 3) = 4 * (k : Int) + 3 := IntWalk.i64_in _ (by omega)
      have s0 : IntKind.u32.wrap (x0 : Int) = (x0 : Int) := IntWalk.u32_in _ (by omega)
      have s1 : IntKind.u32.wrap (x1 : Int) = (x1 : Int) := IntWalk.u32_in _ (by omega)
      have s2 : IntKind.u32.wrap (x2 : Int) = (x2 : Int) := IntWalk.u32_in _ (by omega)
      have s3 : IntKind.u32.wrap (x3 : Int) = (x3 : Int) := IntWalk.u32_in _ (by omega)
      have t0 : IntKind.u32.wrap ((x0 : Int) * 16777216) = (x0 : Int) * 16777216 := IntWalk.u32_in _ (by omega)
      have t1 : IntKind.u32.wrap ((x1 : Int) * 65536) = (x1 : Int) * 65536 := IntWalk.u32_in _ (by omega)
      have t2 : IntKind.u32.wrap ((x2 : Int) * 256) = (x2 : Int) * 256 := IntWalk.u32_in _ (by omega)
      refine wp_region_ord 31 [(0, true), (1, true), (2, true), (3, true), (4, true), (5, true), (6, true), (7, true), (8, true), (9, true), (10, true), (11, true), (12, true), (13, true), (14, true), (15, true), (16, true), (17, true), (18, true), (19, true), (20, true), (21, true), (22, true), (23, true), (24, true), (25, true), (26, true), (27, true), (28, true), (29, true), (30, true)] (by kernel_rfl) (by kernel_rfl) ?_
      have f0 : ∀ u, Grows wr.drew u → u.cell? ⟨w.heap.size, 4 * k, none⟩ = some (.int .u8 (x0 : Int)) := fun u h => hcell_later (a := wr.drew) c0 h
      have f1 : ∀ u, Grows wr.drew u → u.cell? ⟨w.heap.size, 4 * k + 1, none⟩ = some (.int .u8 (x1 : Int)) := fun u h => hcell_later (a := wr.drew) c1 h
      have f2 : ∀ u, Grows wr.drew u → u.cell? ⟨w.heap.size, 4 * k + 2, none⟩ = some (.int .u8 (x2 : Int)) := fun u h => hcell_later (a := wr.drew) c2 h
      have f3 : ∀ u, Grows wr.drew u → u.cell? ⟨w.heap.size, 4 * k + 3, none⟩ = some (.int .u8 (x3 : Int)) := fun u h => hcell_later (a := wr.drew) c3 h
      have hO := Grows.refl wr.drew
      clear c0 c1 c2 c3 hbel
      repeat (first | (refine ord_take hO _ ?_ (by simp only [List.getElem?_cons_succ, List.getElem?_cons_zero]; rfl) (by rfl) ?_ ?_; rotate_left; (· (intro u hu0 hu; (try go_simp); (try with_reducible rfl))); try simp only [Act.put, List.setIfInBounds_toArray, List.set_cons_zero, List.set_cons_succ]) | (refine ord_skip _ (by simp only [List.getElem?_cons_succ, List.getElem?_cons_zero]; rfl) (by rfl) ?_; try simp only [Act.put, List.setIfInBounds_toArray, List.set_cons_zero, List.set_cons_succ]))
      clear f0 f1 f2 f3 e1 e2 e3 p0 p1 p2 p3 r0 r1 r2 r3 n0 n1 n2 n3 q0 q1 q2 q3 s0 s1 s2 s3 t0 t1 t2 hO
      (refine ord_done (fun u hu => ?_); simp only [List.drop_succ_cons, List.drop_zero])
      have hhu := HH.out.drew.later hu
      have hbu : Below b2 w3 u := Below.trans HB.out.drew (hu.mono (Nat.le_of_lt HH.out.lt))
      have hset := hhu.set_ (k := k) (by simp [HSL.out, HZL.out]; omega) (uv z3)
      rw [← List.map_set, mid_set _ zs k _ HAT.out (by rw [HZL.out]; omega)] at hset
      have hbs := hbu.setCell (p := ⟨b2, k, none⟩) (Nat.le_refl _) (uv z3)
      have hfr := hhu.free k
      obtain ⟨y, hy⟩ : ∃ y, ((ws.take k ++ zs.drop k).map uv)[k]? = some y := ⟨_, List.getElem?_eq_getElem (by simp [HSL.out, HZL.out]; omega)⟩
      have hcy := hhu.cell hy
      clear hy hhu hbu hu
      go_wp2_with fail
      refine NoPanic.normal ?_
      go_wp2_with fail
      go_roundw
      case rel => exact ⟨k + 1, by omega, by go_num, hset, hbs⟩
      case measure => simp [intOf]; omega
    · obtain rfl : k = 16 := by omega
      rw [show ((16 : Nat) : Int) = 16 from rfl]
      go_wp2_with fail
      go_loopw [5] (fun i wr => ∃ k : Nat, 16 ≤ k ∧ k ≤ 64 ∧ i = .int .i64 k ∧ Has wr b2 ((ws.take k ++ zs.drop k).map uv) ∧ Below b2 w3 wr) (fun i _ => 64 - (intOf i).toNat)
      case atStart => exact ⟨16, by omega, by omega, rfl, hhas, hbel⟩
      case round =>
        clear hhas hbel
        obtain ⟨k, hk0, hk, rfl, hhas, hbel⟩ := hrel
        by_cases hlt : k < 64
        · have hlen : (ws.take k ++ zs.drop k).length = 64 := by simp [HSL.out, HZL.out]; omega
          have hgd : ∀ j, j < k → (ws.take k ++ zs.drop k).getD j 0 = ws.getD j 0 := fun j hj => by
            rw [List.getD_eq_getElem?_getD, List.getD_eq_getElem?_getD, List.getElem?_append_left (by simp [HSL.out]; omega), List.getElem?_take, if_pos hj]
          have c15 := uv_has hhas (k - 15) (by omega)
          have c2 := uv_has hhas (k - 2) (by omega)
          have c16 := uv_has hhas (k - 16) (by omega)
          have c7 := uv_has hhas (k - 7) (by omega)
          rw [hgd _ (by omega)] at c15 c2 c16 c7
          have hat := HSA.out k hlt
          rw [if_neg (by omega)] at hat
          unfold nextW at hat
          have b15 := getD_lt HSB.out (by omega) (k - 15)
          have b2' := getD_lt HSB.out (by omega) (k - 2)
          generalize ws.getD (k - 15) 0 = x15 at *
          generalize ws.getD (k - 2) 0 = x2 at *
          generalize ws.getD (k - 16) 0 = x16 at *
          generalize ws.getD (k - 7) 0 = x7 at *
          have e1 := u32_xor_nat (ror 7 x15) (ror 18 x15) (ror_lt (by omega) b15) (ror_lt (by omega) b15)
          have e2 : bits .xor .u32 ((ror 7 x15 ^^^ ror 18 x15 : Nat) : Int) ((x15 : Int) / 8) = (smallX x15 : Int) := u32_xor_nat _ (x15 / 8) (xor_lt (ror_lt (by omega) b15) (ror_lt (by omega) b15)) (by omega)
          have e3 := u32_xor_nat (ror 17 x2) (ror 19 x2) (ror_lt (by omega) b2') (ror_lt (by omega) b2')
          have e4 : bits .xor .u32 ((ror 17 x2 ^^^ ror 19 x2 : Nat) : Int) ((x2 : Int) / 1024) = (smallY x2 : Int) := u32_xor_nat _ (x2 / 1024) (xor_lt (ror_lt (by omega) b2') (ror_lt (by omega) b2')) (by omega)
          generalize (ror 7 x15 ^^^ ror 18 x15) = y1 at e1 e2
          generalize (ror 17 x2 ^^^ ror 19 x2) = y2 at e3 e4
          have s1 := wrap_add x16 (smallX x15)
          have s2 := wrap_add ((x16 + smallX x15) % 4294967296) x7
          have s3 := wrap_add (((x16 + smallX x15) % 4294967296 + x7) % 4294967296) (smallY x2)
          generalize smallX x15 = sx at *
          generalize smallY x2 = sy at *
          generalize (x16 + sx) % 4294967296 = t1 at *
          generalize (t1 + x7) % 4294967296 = t2 at *
          generalize (t2 + sy) % 4294967296 = t3 at *
          have HAT := Lib.hid hat
          have HLEN := Lib.hid hlen
          have HC16 := Lib.hid c16
          have HC7 := Lib.hid c7
          clear hat hlen hgd c16 c7
          go_wp2_with fail
          have q15 : IntKind.i64.wrap ((k : Int) - 15) = (k : Int) - 15 := IntWalk.i64_in _ (by omega)
          have q2 : IntKind.i64.wrap ((k : Int) - 2) = (k : Int) - 2 := IntWalk.i64_in _ (by omega)
          have p15 : 0 ≤ (k : Int) - 15 := by omega
          have p2 : 0 ≤ (k : Int) - 2 := by omega
          have n15 : ((k : Int) - 15).toNat = k - 15 := by omega
          have n2 : ((k : Int) - 2).toNat = k - 2 := by omega
          go_quiet (fail)
          clear q15 q2 p15 p2 n15 n2
          have hhas1 := hhas.drawn (m := nq)
          have hbel1 : Below b2 w3 (wr.drewN nq) := below_draws hbel
          have c16 : (wr.drewN nq).cell? ⟨b2, k - 16, none⟩ = _ := HC16.out
          have c7 : (wr.drewN nq).cell? ⟨b2, k - 7, none⟩ = _ := HC7.out
          clear hhas hbel c15 c2 HC16 HC7
          generalize wr.drewN nq = w5 at *
          have HH := Lib.hid hhas1
          have HB := Lib.hid hbel1
          clear hhas1 hbel1
          go_wp2_with fail
          refine wp_region_ord 29 [(0, true), (1, true), (2, true), (3, true), (4, true), (5, true), (6, true), (7, true), (8, true), (9, true), (10, true), (11, true), (12, true), (13, true), (14, true), (15, true), (16, true), (17, true), (18, true), (19, true), (20, true), (21, true), (22, true), (23, true), (24, true), (25, true), (26, true), (27, true), (28, true)] (by kernel_rfl) (by kernel_rfl) ?_
          have f16 : ∀ u, Grows w5.drew u → u.cell? ⟨b2, k - 16, none⟩ = some (.int .u32 (x16 : Int)) := fun u h => hcell_later (a := w5.drew) c16 h
          have f7 : ∀ u, Grows w5.drew u → u.cell? ⟨b2, k - 7, none⟩ = some (.int .u32 (x7 : Int)) := fun u h => hcell_later (a := w5.drew) c7 h
          have hO := Grows.refl w5.drew
          have d16 : (16 : Int) ≤ (k : Int) := by omega
          have d7 : (7 : Int) ≤ (k : Int) := by omega
          have l16 : (k : Int) - 16 < 64 := by omega
          have l7 : (k : Int) - 7 < 64 := by omega
          have k0 : (k : Int) < 64 := by omega
          have q16 : IntKind.i64.wrap ((k : Int) - 16) = (k : Int) - 16 := IntWalk.i64_in _ (by omega)
          have q7 : IntKind.i64.wrap ((k : Int) - 7) = (k : Int) - 7 := IntWalk.i64_in _ (by omega)
          have n16 : ((k : Int) - 16).toNat = k - 16 := by omega
          have n7 : ((k : Int) - 7).toNat = k - 7 := by omega
          clear c16 c7
          repeat (first | (refine ord_take hO _ ?_ (by simp only [List.getElem?_cons_succ, List.getElem?_cons_zero]; rfl) (by rfl) ?_ ?_; rotate_left; (· (intro u hu0 hu; (try go_simp); (try with_reducible rfl))); try simp only [Act.put, List.setIfInBounds_toArray, List.set_cons_zero, List.set_cons_succ]) | (refine ord_skip _ (by simp only [List.getElem?_cons_succ, List.getElem?_cons_zero]; rfl) (by rfl) ?_; try simp only [Act.put, List.setIfInBounds_toArray, List.set_cons_zero, List.set_cons_succ]) | (refine ord_call hO _ ?_ (by simp only [List.getElem?_cons_succ, List.getElem?_cons_zero]; rfl) (by rfl) ?_ ?_; rotate_left; (· (intro u hu0 hu; go_simp; (try refine quiet_enter ?_); (first | exact turned_grow 7 (by rfl) b15 (by decide) (by decide) | exact turned_grow 18 (by rfl) b15 (by decide) (by decide) | exact turned_grow 17 (by rfl) b2' (by decide) (by decide) | exact turned_grow 19 (by rfl) b2' (by decide) (by decide)))); try simp only [Act.put, List.setIfInBounds_toArray, List.set_cons_zero, List.set_cons_succ]))
          clear f16 f7 hO d16 d7 l16 l7 q16 q7 n16 n7 e1 e2 e3 e4 s1 s2 s3
          (refine ord_done (fun u hu => ?_); simp only [List.drop_succ_cons, List.drop_zero])
          have hhu := HH.out.drew.later hu
          have hbu : Below b2 w3 u := Below.trans HB.out.drew (hu.mono (Nat.le_of_lt HH.out.lt))
          have hset := hhu.set_ (k := k) (by rw [List.length_map, HLEN.out]; omega) (uv t3)
          rw [← List.map_set, mid_set _ zs k _ HAT.out (by rw [HZL.out]; omega)] at hset
          have hbs := hbu.setCell (p := ⟨b2, k, none⟩) (Nat.le_refl _) (uv t3)
          have hfr := hhu.free k
          obtain ⟨y, hy⟩ : ∃ y, ((ws.take k ++ zs.drop k).map uv)[k]? = some y := ⟨_, List.getElem?_eq_getElem (by rw [List.length_map, HLEN.out]; omega)⟩
          have hcy := hhu.cell hy
          clear hy hhu hbu hu
          go_wp2_with fail
          refine NoPanic.normal ?_
          go_wp2_with fail
          go_roundw
          case rel => exact ⟨k + 1, by omega, by omega, by go_num, hset, hbs⟩
          case measure => simp [intOf]; omega
        · obtain rfl : k = 64 := by omega
          rw [List.take_of_length_le (by rw [HSL.out]; omega), List.drop_of_length_le (by rw [HZL.out]; omega), List.append_nil] at hhas
          have hld := hhas.load Tryz.underlying208 rfl (by rw [List.length_map, HSL.out]; exact arr64_size)
          have hRb := hR.below hbel l12
          go_wp2_with (first | (with_reducible refine wpList_loads rfl 208 (.tmp 3) rfl _ rfl _ hld ?_) | (refine wpList_storev rfl 208 (.tmp 2) (.tmp 84) rfl b1 (zs.map uv) (ws.map uv) 64 rfl rfl hRb (by rw [List.length_map, HZL.out]) (by rw [List.length_map, HSL.out]) arr64_size (uv_one ws) ?_; intro w6 hbox6 hbel6))
          have hfin := hbel6 _ _ l1 (Below.trans hg (hbel.mono (Nat.le_of_lt l01)))
          rw [HWS.out] at hbox6
          refine bodyPost_ret (v := .agg ((spreadL blk).map uv).toArray) (res_has Tryz.results164 _ rfl Tryz.underlying208 rfl (by rw [List.length_map, spreadL_len]; exact arr64_size) hbox6) rfl ⟨rfl, hfin⟩
end Go.Proofs.YtbcldknecdbemaaGreatDoor

/-
  Contract of sha.mixed: what a block's 64 words make of eight. Condition: the table keys holds the document's numbers.
-/
namespace Go.Proofs.YtbcldknecdbemaaGreatDoor
open Go.RowKit
set_option linter.unusedVariables false
set_option maxRecDepth 20000

/-- The table keys holds the document's numbers. -/
def Keys (w : World) : Prop := w.rangeAt 1 0 (roots64.map uv)
theorem Keys.later {w w' : World} (h : Keys w) (hg : Grows w w') : Keys w' := range_later h hg
theorem Keys.pos {w : World} (h : Keys w) : 1 < w.heap.size := World.block_lt_of_cell? w ⟨1, 0 + 0, none⟩ (h 0 _ rfl)
theorem Keys.below {w w' : World} {B : Nat} (h : Keys w) (hb : Below B w w') (hB : 1 < B) : Keys w' := range_below h hb hB
theorem Keys.at_ {w : World} (h : Keys w) (i : Nat) (hi : i < 64) : w.cell? ⟨1, i, none⟩ = some (.int .u32 ((roots64.getD i 0 : Nat) : Int)) := by
  have := uv_at h i (by rw [roots64_len]; exact hi)
  rwa [Nat.zero_add] at this

theorem run_index_words {P : Program} {t e : TypeId} {n : Nat} (ht : P.underlying t = some (.array n e)) (he : P.underlying e = some (.int .u32)) (hse : (P.info? e).map (·.size) = some 1) (l : List Nat) (hl : l.length = n) (i : Nat) (hi : i < n) (w : World) :
    (Instr.index t (.agg (l.map uv).toArray) (.int .i64 (i : Int))).run P w = .ok (.int .u32 ((l.getD i 0 : Nat) : Int)) w := by
  have h1 : (0 : Int) ≤ (i : Int) ∧ (i : Int) < (n : Int) := by omega
  obtain ⟨inf, hinf, hsz⟩ := Option.map_eq_some_iff.1 hse
  simp [Instr.index, run_underlying ht, asIntOf, h1, sizeOf, typeInfo, hinf, hsz, part, isAgg, run_underlying he, hl, hi]

theorem u32_not (a : Nat) (ha : a < 4294967296) : bits .xor .u32 (if IntKind.u32.signed = true then -1 else IntKind.u32.max) (a : Int) = ((4294967295 - a : Nat) : Int) := by
  show IntKind.u32.wrap ((BitVec.ofInt 32 (if IntKind.u32.signed = true then -1 else IntKind.u32.max) ^^^ BitVec.ofInt 32 (a : Int)).toNat : Int) = _
  have h1 : BitVec.ofInt 32 (if IntKind.u32.signed = true then -1 else IntKind.u32.max) = BitVec.allOnes 32 := by decide
  rw [h1, BitVec.allOnes_xor, BitVec.toNat_not, ofInt_u32 a ha, IntKind.wrap_u32']
  omega

def zeros8 : List Nat := List.replicate 8 0
theorem zeros8_len : zeros8.length = 8 := rfl
theorem u32_one : (Tryz.prog.info? 100).map (·.size) = some 1 := by kernel_rfl

theorem turned_lit {x : Nat} {z : Int} {u : World} (n : Nat) (hz : z = (n : Int)) (hx : x < 4294967296) (h0 : 0 < n) (hn : n < 32) :
    Calls Tryz.prog 177 #[.int .u32 (x : Int), .int .i64 z] u fun e u' => e = .returned (.int .u32 ((ror n x : Nat) : Int)) ∧ u = u' := by
  subst hz
  exact turned_any x n _ hx h0 hn

set_option maxRecDepth 100000 in
set_option maxHeartbeats 1000000 in
theorem mixed_any (v : V8) (ws : List Nat) (w : World) (hv : v.Ok) (hl : ws.length = 64) (hk : Keys w) :
    Calls Tryz.prog 163 #[.agg (v.list.map uv).toArray, .agg (ws.map uv).toArray] w fun e w' => e = .returned (.agg ((add8 v (rounds roots64 ws 64 v)).list.map uv).toArray) ∧ Grows w w' := by
  obtain ⟨hA, hW, hR, hg⟩ := three w (v.list.map uv) (ws.map uv) (zeros8.map uv) 170 208 170
  have HL := Lib.hid hl
  clear hl
  have hk3 := hk.later hg
  have hk0 := hk.pos
  go_enter Tryz.func163, Tryz.ntmps163
  go_wp2_with fail
  change Code.wp _ _ _ _ (((w.alloc (.cells (v.list.map uv).toArray 170)).alloc (.cells (ws.map uv).toArray 208)).alloc (.cells (zeros8.map uv).toArray 170))
  generalize ((w.alloc (.cells (v.list.map uv).toArray 170)).alloc (.cells (ws.map uv).toArray 208)).alloc (.cells (zeros8.map uv).toArray 170) = w3 at *
  have l01 : w.heap.size < w.heap.size + 1 + 1 := by omega
  have l12 : w.heap.size + 1 < w.heap.size + 1 + 1 := by omega
  generalize w.heap.size + 1 + 1 = b2 at *
  have l1 : w.heap.size ≤ w.heap.size + 1 := by omega
  generalize w.heap.size + 1 = b1 at *
  have hzl := zeros8_len
  generalize zeros8 = zs at *
  have HZL := Lib.hid hzl
  have HR0 := Lib.hid (show rounds roots64 ws 0 v = v from rfl)
  clear hzl
  have d0 := hA.cell (k := 0) rfl
  have d1 := hA.cell (k := 1) rfl
  have d2 := hA.cell (k := 2) rfl
  have d3 := hA.cell (k := 3) rfl
  have d4 := hA.cell (k := 4) rfl
  have d5 := hA.cell (k := 5) rfl
  have d6 := hA.cell (k := 6) rfl
  have d7 := hA.cell (k := 7) rfl
  simp only [uv] at d0 d1 d2 d3 d4 d5 d6 d7
  go_quiet (fail)
  clear d0 d1 d2 d3 d4 d5 d6 d7
  have hA4 := hA.drawn (m := nq)
  have hW4 := hW.drawn (m := nq)
  have hR4 := hR.drawn (m := nq)
  have hk4 : Keys (w3.drewN nq) := hk3
  have hg4 : Grows w (w3.drewN nq) := below_draws hg
  clear hA hW hR hk3 hg
  generalize w3.drewN nq = w4 at *
  go_wp2_with fail
  go_loopw [5, 6, 7, 8, 9, 10, 11, 12, 34] (fun a b c d e f g h i wr => ∃ (k : Nat) (V : V8), k ≤ 64 ∧ V = rounds roots64 ws k v ∧ V.Ok ∧ i = .int .i64 k ∧ a = uv V.a ∧ b = uv V.b ∧ c = uv V.c ∧ d = uv V.d ∧ e = uv V.e ∧ f = uv V.f ∧ g = uv V.g ∧ h = uv V.h ∧ Grows w4 wr) (fun _ _ _ _ _ _ _ _ i _ => 64 - (intOf i).toNat)
  case atStart => exact ⟨0, v, Nat.zero_le _, rfl, hv, rfl, rfl, rfl, rfl, rfl, rfl, rfl, rfl, rfl, Grows.refl _⟩
  case round =>
    obtain ⟨k, V, hk, hV, hOk, rfl, rfl, rfl, rfl, rfl, rfl, rfl, rfl, rfl, hgr⟩ := hrel
    by_cases hlt : k < 64
    · have HR := Lib.hid (show rounds roots64 ws (k + 1) v = rnd (rounds roots64 ws k v) (roots64.getD k 0) (ws.getD k 0) from rfl)
      rw [← hV] at HR
      have HV := Lib.hid hV
      clear hV
      obtain ⟨xa, xb, xc, xd, xe, xf, xg, xh⟩ := V
      obtain ⟨ba, bb, bc, bd, be, bf, bg, bh⟩ := hOk
      simp only [] at ba bb bc bd be bf bg bh
      have hkc := (hk4.later hgr).at_ k hlt
      have hwc := uv_has (hW4.later hgr) k (by rw [HL.out]; exact hlt)
      generalize roots64.getD k 0 = kk at *
      generalize ws.getD k 0 = wk at *
      have k0 : (k : Int) < 64 := by omega
      have e1 := u32_xor_nat (ror 6 xe) (ror 11 xe) (ror_lt (by omega) be) (ror_lt (by omega) be)
      have e2 : bits .xor .u32 ((ror 6 xe ^^^ ror 11 xe : Nat) : Int) (ror 25 xe : Int) = (bigE xe : Int) := u32_xor_nat _ _ (xor_lt (ror_lt (by omega) be) (ror_lt (by omega) be)) (ror_lt (by omega) be)
      generalize (ror 6 xe ^^^ ror 11 xe) = y1 at e1 e2
      have e3 := u32_and_nat xe xf be bf
      have e0 := u32_not xe be
      have e4 := u32_and_nat (4294967295 - xe) xg (by omega) bg
      have e5 : bits .xor .u32 ((xe &&& xf : Nat) : Int) (((4294967295 - xe) &&& xg : Nat) : Int) = (choose xe xf xg : Int) := u32_xor_nat _ _ (and_lt be) (and_lt (by omega))
      generalize (xe &&& xf) = y2 at e3 e5
      generalize ((4294967295 - xe) &&& xg) = y3 at e4 e5
      generalize (4294967295 - xe) = y6 at e0 e4
      have t1 := wrap_add xh (bigE xe)
      have t2 := wrap_add ((xh + bigE xe) % 4294967296) (choose xe xf xg)
      have t3 := wrap_add (((xh + bigE xe) % 4294967296 + choose xe xf xg) % 4294967296) kk
      have t4 := wrap_add ((((xh + bigE xe) % 4294967296 + choose xe xf xg) % 4294967296 + kk) % 4294967296) wk
      have HT := Lib.hid (show tee ⟨xa, xb, xc, xd, xe, xf, xg, xh⟩ kk wk = ((((xh + bigE xe) % 4294967296 + choose xe xf xg) % 4294967296 + kk) % 4294967296 + wk) % 4294967296 from rfl)
      generalize (xh + bigE xe) % 4294967296 = t1v at *
      generalize (t1v + choose xe xf xg) % 4294967296 = t2v at *
      generalize (t2v + kk) % 4294967296 = t3v at *
      generalize (t3v + wk) % 4294967296 = tv at *
      generalize bigE xe = sE at *
      generalize choose xe xf xg = sC at *
      simp only [uv]
      go_wp2_with fail
      go_quiet (((go_at_call 177; first | exact turned_quiet 6 (by rfl) be (by decide) (by decide) | exact turned_quiet 11 (by rfl) be (by decide) (by decide) | exact turned_quiet 25 (by rfl) be (by decide) (by decide))))
      have hgr1 : Grows w4 (wr.drewN nq) := below_draws hgr
      clear hgr hkc hwc e0 e1 e2 e3 e4 e5 t1 t2 t3 t4
      generalize wr.drewN nq = w5 at *
      have e1 := u32_xor_nat (ror 2 xa) (ror 13 xa) (ror_lt (by omega) ba) (ror_lt (by omega) ba)
      have e2 : bits .xor .u32 ((ror 2 xa ^^^ ror 13 xa : Nat) : Int) (ror 22 xa : Int) = (bigA xa : Int) := u32_xor_nat _ _ (xor_lt (ror_lt (by omega) ba) (ror_lt (by omega) ba)) (ror_lt (by omega) ba)
      generalize (ror 2 xa ^^^ ror 13 xa) = y1 at e1 e2
      have e3 := u32_and_nat xa xb ba bb
      have e4 := u32_and_nat xa xc ba bc
      have e5 := u32_and_nat xb xc bb bc
      have e6 := u32_xor_nat (xa &&& xb) (xa &&& xc) (and_lt ba) (and_lt ba)
      have e7 : bits .xor .u32 ((((xa &&& xb) ^^^ (xa &&& xc)) : Nat) : Int) ((xb &&& xc : Nat) : Int) = (most xa xb xc : Int) := u32_xor_nat _ _ (xor_lt (and_lt ba) (and_lt ba)) (and_lt bb)
      generalize ((xa &&& xb) ^^^ (xa &&& xc)) = y4 at e6 e7
      generalize (xa &&& xb) = y1 at e3 e6
      generalize (xa &&& xc) = y2 at e4 e6
      generalize (xb &&& xc) = y3 at e5 e7
      have HY := Lib.hid (show you ⟨xa, xb, xc, xd, xe, xf, xg, xh⟩ = (bigA xa + most xa xb xc) % 4294967296 from rfl)
      have t1 := wrap_add (bigA xa) (most xa xb xc)
      have t2 := wrap_add tv ((bigA xa + most xa xb xc) % 4294967296)
      have t3 := wrap_add xd tv
      have HV2 : Hid (rounds roots64 ws (k + 1) v = ⟨(tv + (bigA xa + most xa xb xc) % 4294967296) % 4294967296, xa, xb, xc, (xd + tv) % 4294967296, xe, xf, xg⟩) := by
        show rounds roots64 ws (k + 1) v = _
        rw [HR.out]
        simp only [rnd, HT.out, HY.out]
      generalize bigA xa = sA at *
      generalize most xa xb xc = sM at *
      generalize (sA + sM) % 4294967296 = uu at *
      have ha' : (tv + uu) % 4294967296 < 4294967296 := Nat.mod_lt _ (by decide)
      have he' : (xd + tv) % 4294967296 < 4294967296 := Nat.mod_lt _ (by decide)
      generalize (tv + uu) % 4294967296 = za at *
      generalize (xd + tv) % 4294967296 = ze at *
      go_wp2_with (go_at_call 177; first
        | (refine (turned_lit 2 (by rfl) ba (by decide) (by decide)).mono ?_; rintro e w' ⟨rfl, rfl⟩)
        | (refine (turned_lit 13 (by rfl) ba (by decide) (by decide)).mono ?_; rintro e w' ⟨rfl, rfl⟩)
        | (refine (turned_lit 22 (by rfl) ba (by decide) (by decide)).mono ?_; rintro e w' ⟨rfl, rfl⟩))
      go_roundw
      case rel => exact ⟨k + 1, _, by omega, HV2.out.symm, ⟨ha', ba, bb, bc, he', be, bf, bg⟩, by go_num, rfl, rfl, rfl, rfl, rfl, rfl, rfl, rfl, hgr1⟩
      case measure => simp [intOf]; omega
    · obtain rfl : k = 64 := by omega
      have hA5 := hA4.later hgr
      have hR5 := hR4.later hgr
      have hg5 := Grows.trans hg4 hgr
      have hadd := add8_at v V
      have hml : (add8 v V).list = (add8 v (rounds roots64 ws 64 v)).list := by rw [hV]
      have hix : ∀ k : Nat, k < 8 → ∀ w, (Instr.index 170 (.agg #[.int .u32 (V.a : Int), .int .u32 (V.b : Int), .int .u32 (V.c : Int), .int .u32 (V.d : Int), .int .u32 (V.e : Int), .int .u32 (V.f : Int), .int .u32 (V.g : Int), .int .u32 (V.h : Int)]) (.int .i64 (k : Int))).run Tryz.prog w = .ok (.int .u32 ((V.list.getD k 0 : Nat) : Int)) w := run_index_words (P := Tryz.prog) Tryz.underlying170 Tryz.underlying100 u32_one V.list rfl
      have l8 : (add8 v V).list.length = 8 := rfl
      have l8' : v.list.length = 8 := rfl
      have HML := Lib.hid hml
      have HIX := Lib.hid hix
      clear hml hA4 hW4 hR4 hg4 hV hgr hk4 hix hOk
      go_wp2_with fail
      generalize (add8 v V).list = ml at *
      generalize v.list = vl at *
      generalize V.list = rl at *
      have HA := Lib.hid hadd
      have L1 := Lib.hid l8
      have L2 := Lib.hid l8'
      clear hadd l8 l8'
      go_loopw [106] (fun i wr => ∃ k : Nat, k ≤ 8 ∧ i = .int .i64 k ∧ Has wr w.heap.size ((ml.take k ++ vl.drop k).map uv) ∧ Has wr b2 (zs.map uv) ∧ Grows w wr) (fun i _ => 8 - (intOf i).toNat)
      case atStart => exact ⟨0, by omega, rfl, by simpa using hA5, hR5, hg5⟩
      case round =>
        clear hA5 hR5 hg5
        obtain ⟨k, hk, rfl, hhas, hR, hgr⟩ := hrel
        by_cases hlt : k < 8
        · have hix := HIX.out k hlt
          have d1 := uv_has hhas k (by simp [L1.out, L2.out]; omega)
          rw [mid_getD _ _ _ (by rw [L1.out]; omega) (by rw [L2.out]; exact hlt)] at d1
          have t1 := wrap_add (vl.getD k 0) (rl.getD k 0)
          rw [Nat.add_comm (vl.getD k 0), ← HA.out k hlt] at t1
          have hset := hhas.set_ (k := k) (by simp [L1.out, L2.out]; omega) (uv (ml.getD k 0))
          rw [← List.map_set, mid_set ml vl k _ (getD_some (by rw [L1.out]; exact hlt)) (by rw [L2.out]; exact hlt)] at hset
          have hfr := hhas.free k
          have hgs := hgr.setCell (p := ⟨w.heap.size, k, none⟩) (Nat.le_refl _) (uv (ml.getD k 0))
          have hRs : Has (wr.setCell ⟨w.heap.size, k, none⟩ (uv (ml.getD k 0))) b2 (zs.map uv) := ⟨by simpa [World.setCell] using hR.lt, fun j u hu => by
            rw [World.cell?_setCell_other wr _ _ _ (by intro e; injection e with e; omega)]; exact hR.cells j u hu, fun j => by simpa using hR.free j⟩
          clear hhas hgr hR
          generalize rl.getD k 0 = x at *
          generalize vl.getD k 0 = y at *
          generalize ml.getD k 0 = z at *
          have k0 : (k : Int) < 8 := by omega
          go_wp2_with fail
          go_roundw
          case rel => exact ⟨k + 1, by omega, by go_num, hset, hRs, hgs⟩
          case measure => simp [intOf]; omega
        · obtain rfl : k = 8 := by omega
          rw [List.take_of_length_le (by rw [L1.out]; omega), List.drop_of_length_le (by rw [L2.out]; omega), List.append_nil] at hhas
          have hld := hhas.load Tryz.underlying170 rfl (by rw [List.length_map, L1.out]; exact arr8_size)
          go_wp2_with (first | (with_reducible refine wpList_loads rfl 170 (.tmp 2) rfl _ rfl _ hld ?_) | (refine wpList_storev rfl 170 (.tmp 4) (.tmp 117) rfl b2 (zs.map uv) (ml.map uv) 8 rfl rfl hR (by rw [List.length_map, HZL.out]) (by rw [List.length_map, L1.out]) arr8_size (uv_one ml) ?_; intro w6 hbox6 hbel6))
          have hfin := hbel6 _ _ (Nat.le_of_lt l01) hgr
          rw [HML.out] at hbox6
          refine bodyPost_ret (v := .agg ((add8 v (rounds roots64 ws 64 v)).list.map uv).toArray) (res_has Tryz.results163 _ rfl Tryz.underlying170 rfl (by rw [List.length_map]; exact arr8_size) hbox6) rfl ⟨rfl, hfin⟩
end Go.Proofs.YtbcldknecdbemaaGreatDoor

/-
  Contracts of the reference's whole and Sum (layer 2): the bytes with what stands behind them, and their digest. Condition: at most a million bytes.
-/
namespace Go.Proofs.YtbcldknecdbemaaGreatDoor
open Go.RowKit
set_option linter.unusedVariables false
set_option maxRecDepth 20000

theorem byte_info2 : (Tryz.prog.info? 5).map (fun i => (i.zero, i.size, i.bytes)) = some (some (.int .u8 0), 1, 1) := by kernel_rfl
def shaLenV : Value → Nat
  | .slice _ n _ => n
  | _ => 0
theorem made_bytes (n : Nat) : ((List.replicate n (0 : UInt8)).map bv).toArray = madeCells #[.int .u8 0] n := by
  apply Array.ext'
  rw [toList_madeCells_one]
  simp [bv]
theorem gap_lt (n : Nat) : gap n < 64 := Nat.mod_lt _ (by decide)
theorem eight_at (N j : Nat) (h0 : 0 < j) (hj : j ≤ 8) : (eight N)[j - 1]? = some (UInt8.ofNat (N / 256 ^ (8 - j) % 256)) := by
  match j, h0, hj with
  | 1, _, _ => rfl
  | 2, _, _ => rfl
  | 3, _, _ => rfl
  | 4, _, _ => rfl
  | 5, _, _ => rfl
  | 6, _, _ => rfl
  | 7, _, _ => rfl
  | 8, _, _ => simp [eight]
theorem back_set {α : Type} (z e : List α) (j : Nat) (x : α) (h0 : 0 < j) (hx : e[j - 1]? = some x) (hz : j ≤ z.length) : (z.take j ++ e.drop j).set (j - 1) x = z.take (j - 1) ++ e.drop (j - 1) := by
  obtain ⟨i, rfl⟩ : ∃ i, j = i + 1 := ⟨j - 1, by omega⟩
  simp only [Nat.add_sub_cancel] at *
  have hi : i < e.length := (List.getElem?_eq_some_iff.1 hx).1
  have ex : x = e[i] := by rw [List.getElem?_eq_getElem hi] at hx; injection hx with hx; exact hx.symm
  rw [List.set_append_left _ _ (by simp; omega), List.take_succ_eq_append_getElem (by omega), List.set_append_right _ _ (by simp; omega), List.drop_eq_getElem_cons hi, ex]
  simp [Nat.min_eq_left (show i ≤ z.length by omega)]

set_option maxHeartbeats 1000000 in
theorem whole_any (A : Option Addr) (n c : Nat) (bs : List UInt8) (w : World) (hl : bs.length = n) (hr : Lies w w.heap.size A (bs.map bv)) (hn : n ≤ 1000000) :
    Calls Tryz.prog 62 #[.slice A n c] w fun e w' => ∃ g c', e = .returned (.slice (some ⟨g, 0, none⟩) (padded bs).length c') ∧ (padded bs).length ≤ c' ∧ w'.rangeAt g 0 ((padded bs).map bv) ∧ Grows w w' := by
  obtain ⟨i0, hi0, hz0, hz1, hz2⟩ := info_parts byte_info2
  have HL := Lib.hid hl
  clear hl
  go_enter Tryz.func62, Tryz.ntmps62
  go_wp2_with (at_builtin; (first
    | (refine wpList_append_src _ rfl (.tmp 7) (.tmp 8) _ rfl w.heap.size 5 i0 _ 1 Tryz.underlying27 hi0 hz0 hz1 hz2 rfl (.slice none 0 0) 0 [] rfl (World.ownsRow_nil _ _ _ _) w.heap.size A n c (bs.map bv) rfl (by rw [List.length_map]; exact HL.out) hr (bv_one bs) (by unfold maxLen; omega) (by omega) (Nat.le_refl _) ?_; intro v1 w1 hown1 hg1 hat1; rw [Nat.zero_add, List.nil_append] at hown1; have hb1 : Grows w w1 := (Grows.refl w).grown hg1 (Nat.le_refl _) (by simp [Value.ownBlock]))
    | (refine wpList_append_src _ rfl (.tmp 10) (.tmp 11) _ rfl w.heap.size 5 i0 _ 1 Tryz.underlying27 hi0 hz0 hz1 hz2 rfl v1 n _ rfl (hown1.alloc _) _ _ 1 1 [bv 128] rfl rfl (Lies.new w1 5 [bv 128]) (by simp [Value.oneCell']) (by unfold maxLen; omega) (by omega) (by have := hb1.size; simp; omega) ?_; intro v2 w2 hown2 hg2 hat2)))
  have hb2 : Grows w w2 := (hb1.alloc hb1.size _).grown hg2 (by have := hb1.size; simp; omega) (own_ge hown1)
  rw [show [bv 128] = [(128 : UInt8)].map bv from rfl, ← List.map_append] at hown2
  clear hown1 hg1 hat1 hb1 hg2 hat2
  go_loopw [3] (fun t wr => ∃ j m : Nat, j ≤ gap n ∧ m = n + 1 + j ∧ wr.ownsRow w.heap.size 5 1 t m ((bs ++ [128] ++ List.replicate j 0).map bv) ∧ Grows w wr) (fun t _ => n + 1 + gap n - shaLenV t)
  case atStart => exact ⟨0, n + 1, Nat.zero_le _, rfl, by simpa using hown2, hb2⟩
  case round =>
    clear hown2 hb2
    obtain ⟨j, m, hj, hm, hown, hbel⟩ := hrel
    obtain ⟨A', c', rfl, hmc⟩ := own_form hown
    have hgl := gap_lt n
    by_cases hlt : j < gap n
    · have o1 : ((m : Int) % 64 == 56) = false := by simp; unfold gap at hlt; omega
      have o2 : ((m : Int) % 64 != 56) = true := by simp; unfold gap at hlt; omega
      have HM := Lib.hid hm
      have hm1 : m ≤ 2000000 := by omega
      clear hm
      go_wp2_with (at_builtin; refine wpList_append_src _ rfl (.tmp 17) (.tmp 18) _ rfl w.heap.size 5 i0 _ 1 Tryz.underlying27 hi0 hz0 hz1 hz2 rfl (.slice A' m c') m _ rfl (hown.alloc _) _ _ 1 1 [bv 0] rfl rfl (Lies.new wr 5 [bv 0]) (by simp [Value.oneCell']) (by unfold maxLen; omega) (by omega) (by have := hbel.size; simp; omega) ?_; intro v2 w2 hown2 hg2 hat2)
      have hb2 : Grows w w2 := (hbel.alloc hbel.size _).grown hg2 (by have := hbel.size; simp; omega) (own_ge hown)
      rw [show [bv 0] = [(0 : UInt8)].map bv from rfl, ← List.map_append, List.append_assoc, ← List.replicate_succ'] at hown2
      obtain ⟨A2, c2, rfl, hmc2⟩ := own_form hown2
      go_roundw
      case rel => exact ⟨j + 1, m + 1, by omega, by have := HM.out; omega, hown2, hb2⟩
      case measure => have := HM.out; simp [shaLenV]; omega
    · obtain rfl : j = gap n := by omega
      have o1 : ((m : Int) % 64 == 56) = true := by simp; unfold gap at hm; omega
      have o2 : ((m : Int) % 64 != 56) = false := by simp; unfold gap at hm; omega
      have HM := Lib.hid hm
      have hm1 : m ≤ 2000000 := by omega
      clear hm hlt
      have hN := Has.new wr 5 ((List.replicate 8 0).map bv)
      have hgN := grows_alloc wr (.cells ((List.replicate 8 0).map bv).toArray 5)
      have hownN : ∀ w', Below wr.heap.size (wr.alloc (.cells ((List.replicate 8 0).map bv).toArray 5)) w' → w'.ownsRow w.heap.size 5 1 (.slice A' m c') m ((bs ++ [128] ++ List.replicate (gap n) 0).map bv) := fun w' h => own_later hown (Below.trans hgN h)
      have hrN : ∀ w', Below wr.heap.size (wr.alloc (.cells ((List.replicate 8 0).map bv).toArray 5)) w' → Grows w w' := fun w' h => Grows.trans hbel (Below.trans hgN h)
      have hz8 : wr.heap.size < (wr.alloc (.cells ((List.replicate 8 0).map bv).toArray 5)).heap.size := by simp
      have hg8 : w.heap.size ≤ wr.heap.size := hbel.size
      rw [made_bytes 8] at hN hownN hrN hz8
      go_wp2_with (at_make; (refine wpList_make_row _ rfl _ _ _ rfl 5 i0 _ Tryz.underlying27 hi0 hz0 hz1 rfl .i64 .i64 8 rfl rfl (by rw [hz2]; omega) (by omega) ?_))
      clear hown hbel hgN
      generalize wr.alloc (.cells (madeCells #[.int .u8 0] 8) 5) = w5 at *
      generalize wr.heap.size = g5 at *
      have HO := Lib.hid hownN
      have HG := Lib.hid hrN
      clear hownN hrN
      go_loopw [4, 6] (fun t i wr => ∃ j : Nat, j ≤ 8 ∧ i = .int .i64 ((j : Int) - 1) ∧ t = .int .i64 ((8 * n / 256 ^ (8 - j) : Nat) : Int) ∧ Has wr g5 (((List.replicate 8 0).take j ++ (eight (8 * n)).drop j).map bv) ∧ Below g5 w5 wr ∧ wr.heap.size = w5.heap.size) (fun _ i _ => (intOf i + 1).toNat)
      case atStart => exact ⟨8, by omega, rfl, by simp, hN, Below.refl _ _, rfl⟩
      case round =>
        clear hN
        obtain ⟨j, hj, rfl, rfl, hhas, hbel, hsz⟩ := hrel
        by_cases hlt : 0 < j
        · have he := eight_at (8 * n) j hlt hj
          have hset := hhas.set_ (k := j - 1) (by simp [eight_len]; omega) (bv (UInt8.ofNat (8 * n / 256 ^ (8 - j) % 256)))
          rw [← List.map_set, back_set _ _ j _ hlt he (by simp; omega)] at hset
          have hbx : bv (UInt8.ofNat (8 * n / 256 ^ (8 - j) % 256)) = .int .u8 (((8 * n / 256 ^ (8 - j) : Nat) : Int) % 256) := by
            have : (UInt8.ofNat (8 * n / 256 ^ (8 - j) % 256)).toNat = 8 * n / 256 ^ (8 - j) % 256 := by simp
            simp only [bv, this]
            congr 1
          rw [hbx] at hset
          have hdv : 8 * n / 256 ^ (8 - j) / 256 = 8 * n / 256 ^ (8 - (j - 1)) := by
            rw [Nat.div_div_eq_div_mul, ← Nat.pow_succ, show (8 - j).succ = 8 - (j - 1) by omega]
          have hxb : 8 * n / 256 ^ (8 - j) ≤ 8000000 := Nat.le_trans (Nat.div_le_self _ _) (by omega)
          have hfr := hhas.free (j - 1)
          obtain ⟨y, hy⟩ : ∃ y, (((List.replicate 8 0).take j ++ (eight (8 * n)).drop j).map bv)[j - 1]? = some y := ⟨_, List.getElem?_eq_getElem (by simp [eight_len]; omega)⟩
          have hcy := hhas.cell hy
          have hbs := hbel.setCell (p := ⟨g5, j - 1, none⟩) (Nat.le_refl _) (.int .u8 (((8 * n / 256 ^ (8 - j) : Nat) : Int) % 256))
          have hss : (wr.setCell ⟨g5, j - 1, none⟩ (.int .u8 (((8 * n / 256 ^ (8 - j) : Nat) : Int) % 256))).heap.size = w5.heap.size := by rw [← hsz]; simp [World.setCell]
          have HD := Lib.hid hdv
          have HS := Lib.hid hss
          clear hy hbx hdv hhas hss he hsz
          generalize 8 * n / 256 ^ (8 - j) = x at *
          have j1 : (1 : Int) ≤ (j : Int) := by omega
          have j2 : (j : Int) - 1 < 8 := by omega
          have j3 : ((j : Int) - 1).toNat = j - 1 := by omega
          go_wp2_with fail
          go_roundw
          case rel => exact ⟨j - 1, by omega, by rw [show ((j - 1 : Nat) : Int) = (j : Int) - 1 by omega], by rw [← HD.out]; rfl, hset, hbs, HS.out⟩
          case measure => simp [intOf]; omega
        · obtain rfl : j = 0 := by omega
          have hown6 := HO.out _ hbel
          have hg6 := HG.out _ hbel
          simp only [List.take_zero, List.nil_append, List.drop_zero] at hhas
          go_wp2_with (at_builtin; (refine wpList_append_src _ rfl (.tmp 36) (.tmp 37) _ rfl w.heap.size 5 i0 _ 1 Tryz.underlying27 hi0 hz0 hz1 hz2 rfl (.slice A' m c') m _ rfl hown6 _ _ 8 8 ((eight (8 * n)).map bv) rfl rfl hhas.lies (bv_one _) (by unfold maxLen; omega) (by omega) hg6.size ?_; intro v7 w7 hown7 hg7 hat7))
          have hb7 : Grows w w7 := hg6.grown hg7 hg6.size (own_ge hown6)
          rw [← List.map_append] at hown7
          have HP : padded bs = bs ++ [128] ++ List.replicate (gap n) 0 ++ eight (8 * n) := by unfold padded; rw [HL.out]
          rw [← HP] at hown7
          have HN : m + 8 = (padded bs).length := by rw [padded_len, HL.out, HM.out]; omega
          rw [HN] at hown7
          obtain ⟨g, c7, rfl, hc7, hgb, hh⟩ := own_range hown7 (by rw [← HN]; omega)
          go_ret
          exact ⟨g, c7, rfl, hc7, hh.cells, hb7⟩
end Go.Proofs.YtbcldknecdbemaaGreatDoor

/-
  Contract of the reference's Sum (layer 2): the digest of bytes. Condition: at most a million bytes.
-/
namespace Go.Proofs.YtbcldknecdbemaaGreatDoor
open Go.RowKit
set_option linter.unusedVariables false
set_option maxRecDepth 20000

theorem bytesOf_at (v : V8) (i : Nat) (hi : i < 32) : (bytesOf v)[i]? = some (UInt8.ofNat (v.list.getD (i / 4) 0 / 256 ^ (3 - i % 4) % 256)) := by
  match i, hi with
  | 0, _ => simp [bytesOf, V8.list, four]
  | 1, _ => simp [bytesOf, V8.list, four]
  | 2, _ => simp [bytesOf, V8.list, four]
  | 3, _ => simp [bytesOf, V8.list, four]
  | 4, _ => simp [bytesOf, V8.list, four]
  | 5, _ => simp [bytesOf, V8.list, four]
  | 6, _ => simp [bytesOf, V8.list, four]
  | 7, _ => simp [bytesOf, V8.list, four]
  | 8, _ => simp [bytesOf, V8.list, four]
  | 9, _ => simp [bytesOf, V8.list, four]
  | 10, _ => simp [bytesOf, V8.list, four]
  | 11, _ => simp [bytesOf, V8.list, four]
  | 12, _ => simp [bytesOf, V8.list, four]
  | 13, _ => simp [bytesOf, V8.list, four]
  | 14, _ => simp [bytesOf, V8.list, four]
  | 15, _ => simp [bytesOf, V8.list, four]
  | 16, _ => simp [bytesOf, V8.list, four]
  | 17, _ => simp [bytesOf, V8.list, four]
  | 18, _ => simp [bytesOf, V8.list, four]
  | 19, _ => simp [bytesOf, V8.list, four]
  | 20, _ => simp [bytesOf, V8.list, four]
  | 21, _ => simp [bytesOf, V8.list, four]
  | 22, _ => simp [bytesOf, V8.list, four]
  | 23, _ => simp [bytesOf, V8.list, four]
  | 24, _ => simp [bytesOf, V8.list, four]
  | 25, _ => simp [bytesOf, V8.list, four]
  | 26, _ => simp [bytesOf, V8.list, four]
  | 27, _ => simp [bytesOf, V8.list, four]
  | 28, _ => simp [bytesOf, V8.list, four]
  | 29, _ => simp [bytesOf, V8.list, four]
  | 30, _ => simp [bytesOf, V8.list, four]
  | 31, _ => simp [bytesOf, V8.list, four]
  | i + 32, hi => omega
theorem dig_size2 : (Tryz.prog.info? 46).map (·.size) = some 32 := by kernel_rfl
def zeros32 : List UInt8 := List.replicate 32 0
theorem zeros32_len : zeros32.length = 32 := rfl

set_option maxHeartbeats 1000000 in
theorem rsum_any (A : Option Addr) (n c : Nat) (bs : List UInt8) (w : World) (hl : bs.length = n) (hr : Lies w w.heap.size A (bs.map bv)) (hn : n ≤ 1000000) :
    Calls Tryz.prog 18 #[.slice A n c] w fun e w' => e = .returned (dv (shaOf bs)) ∧ Grows w w' := by
  have HL := Lib.hid hl
  clear hl
  have hbox := Has.new w 46 (zeros32.map bv)
  have hg0 := grows_alloc w (.cells (zeros32.map bv).toArray 46)
  have hr0 := hr.later hg0
  have hsz0 : (w.alloc (.cells (zeros32.map bv).toArray 46)).heap.size = w.heap.size + 1 := by simp
  have hH := Has.new (w.alloc (.cells (zeros32.map bv).toArray 46)) 100 (start8.list.map uv)
  have hg1 := grows_alloc (w.alloc (.cells (zeros32.map bv).toArray 46)) (.cells (start8.list.map uv).toArray 100)
  have hr1 := hr0.later hg1
  have hbox1 := hbox.later hg1
  have hg01 := Grows.trans hg0 hg1
  rw [hsz0] at hH
  clear hr hbox hr0 hg0 hg1 hsz0
  go_enter Tryz.func18, Tryz.ntmps18
  go_wp2_with fail
  change Calls _ _ _ ((w.alloc (.cells (zeros32.map bv).toArray 46)).alloc (.cells (start8.list.map uv).toArray 100)) _
  generalize (w.alloc (.cells (zeros32.map bv).toArray 46)).alloc (.cells (start8.list.map uv).toArray 100) = w1 at *
  refine (whole_any A n c bs w1 HL.out hr1 hn).mono ?_
  rintro e w2 ⟨g0, c0, rfl, hc0, hP, hg2⟩
  have hbox2 := hbox1.later hg2
  have hH2 := hH.cells
  have hH3 := range_later hH2 hg2
  have hg02 := Grows.trans hg01 hg2
  have HS := Lib.hid (show shaOf bs = bytesOf (through (padded bs) ((padded bs).length / 64)) from rfl)
  have hmod := padded_mod bs
  have hle := padded_len bs
  have hgl := gap_lt bs.length
  rw [HL.out] at hle hgl
  obtain ⟨K, hK⟩ : ∃ K, (padded bs).length = 64 * K := ⟨(padded bs).length / 64, by omega⟩
  rw [show (padded bs).length / 64 = K by omega] at HS
  have hK1 : K ≤ 100000 := by omega
  have HK := Lib.hid hK
  rw [hK] at hc0 ⊢
  clear hH hH2 hbox1 hr1 hg2 hg01 hmod hle hgl hK
  generalize padded bs = pd at *
  go_wp2_with fail
  go_loopw [3, 5] (fun t i wr => ∃ k : Nat, k ≤ K ∧ i = .int .i64 (64 * (k : Int)) ∧ ∃ g c, t = .slice (some ⟨g, 0, none⟩) 8 c ∧ wr.rangeAt g 0 ((through pd k).list.map uv) ∧ Grows w2 wr) (fun _ i _ => 64 * K - (intOf i).toNat)
  case atStart => exact ⟨0, Nat.zero_le _, rfl, _, _, rfl, hH3, Grows.refl _⟩
  case round =>
    clear hH3
    obtain ⟨k, hk, rfl, g, cg, rfl, hh, hgr⟩ := hrel
    by_cases hlt : k < K
    · have hPk : wr.rangeAt g0 (64 * k) (((pd.drop (64 * k)).take 64).map bv) := by
        have h1 := range_later hP hgr
        intro j u hu
        have h2 := h1 (64 * k + j) u (by
          rw [List.map_take, List.getElem?_take] at hu
          split at hu
          · rw [List.map_drop, List.getElem?_drop] at hu
            exact hu
          · cases hu)
        rwa [Nat.zero_add] at h2
      have HBL : Hid (((pd.drop (64 * k)).take 64).length = 64) := by
        show _ = _
        rw [List.length_take, List.length_drop, HK.out]
        omega
      have HT := Lib.hid (show through pd (k + 1) = mix (through pd k) ((pd.drop (64 * k)).take 64) from rfl)
      have hOk := through_ok pd k
      have k1 : (64 : Int) * (k : Int) + 64 ≤ (c0 : Int) := by omega
      have k2 : (64 : Int) * (k : Int) < 64 * (K : Int) := by omega
      go_wp2_with fail
      refine (block_any (through pd k) g cg g0 (64 * k) _ _ wr hOk hh HBL.out hPk).mono ?_
      rintro e w3 ⟨g', c', rfl, hh', hg'⟩
      rw [← HT.out] at hh'
      clear hPk hOk
      go_wp2_with fail
      go_roundw
      case rel => exact ⟨k + 1, by omega, by first | (congr 1; done) | (congr 1; omega), g', c', rfl, hh', Grows.trans hgr hg'⟩
      case measure => simp [intOf]; omega
    · obtain rfl : k = K := by omega
      have hbox3 := hbox2.later hgr
      have hg03 := Grows.trans hg02 hgr
      have hOk := through_ok pd k
      clear hbox2 hg02 hP hgr
      have hN := Has.new wr 46 (zeros32.map bv)
      have hgN := grows_alloc wr (.cells (zeros32.map bv).toArray 46)
      have hszN : wr.heap.size < (wr.alloc (.cells (zeros32.map bv).toArray 46)).heap.size := by simp
      have hhN := range_later hh hgN
      have hboxN := hbox3.later hgN
      have hg0N := Grows.trans hg03 hgN
      have hwlt : w.heap.size < wr.heap.size := hbox3.lt
      have hglt : g < wr.heap.size := World.block_lt_of_cell? wr ⟨g, 0 + 0, none⟩ (hh 0 _ rfl)
      have hD := bytesOf_at (through pd k)
      have hDl := bytesOf_len (through pd k)
      have hVl : (through pd k).list.length = 8 := rfl
      have hVb : ∀ x ∈ (through pd k).list, x < 4294967296 := by
        intro x hx
        simp only [V8.list, List.mem_cons, List.not_mem_nil, or_false] at hx
        obtain ⟨a1, a2, a3, a4, a5, a6, a7, a8⟩ := hOk
        rcases hx with rfl | rfl | rfl | rfl | rfl | rfl | rfl | rfl <;> assumption
      go_wp2_with fail
      change Code.wp _ _ _ _ (wr.alloc (.cells (zeros32.map bv).toArray 46))
      clear hh hbox3 hg03 hgN hOk
      generalize wr.alloc (.cells (zeros32.map bv).toArray 46) = w4 at *
      generalize wr.heap.size = gd at *
      generalize bytesOf (through pd k) = dg at *
      generalize (through pd k).list = vl at *
      have HD := Lib.hid hD
      have HDL := Lib.hid hDl
      have HVL := Lib.hid hVl
      have HVB := Lib.hid hVb
      clear hD hDl hVl hVb
      go_loopw [7] (fun i wr => ∃ i' : Nat, i' ≤ 32 ∧ i = .int .i64 i' ∧ Has wr gd ((dg.take i' ++ zeros32.drop i').map bv) ∧ Below gd w4 wr) (fun i _ => 32 - (intOf i).toNat)
      case atStart => exact ⟨0, Nat.zero_le _, rfl, hN, Below.refl _ _⟩
      case round =>
        clear hN
        obtain ⟨i, hi, rfl, hhas, hbel⟩ := hrel
        by_cases hlt : i < 32
        · have hcx := uv_at (range_below hhN hbel hglt) (i / 4) (by rw [HVL.out]; omega)
          rw [Nat.zero_add] at hcx
          have hxb := getD_lt HVB.out (by omega) (i / 4)
          have hd := HD.out i hlt
          have hset := hhas.set_ (k := i) (by simp [HDL.out, zeros32_len]; omega) (bv (UInt8.ofNat (vl.getD (i / 4) 0 / 256 ^ (3 - i % 4) % 256)))
          rw [← List.map_set, mid_set dg zeros32 i _ hd (by rw [zeros32_len]; exact hlt)] at hset
          have hbx : bv (UInt8.ofNat (vl.getD (i / 4) 0 / 256 ^ (3 - i % 4) % 256)) = .int .u8 (((vl.getD (i / 4) 0 / 256 ^ (3 - i % 4) : Nat) : Int) % 256) := by
            have : (UInt8.ofNat (vl.getD (i / 4) 0 / 256 ^ (3 - i % 4) % 256)).toNat = vl.getD (i / 4) 0 / 256 ^ (3 - i % 4) % 256 := by simp
            simp only [bv, this]
            congr 1
          rw [hbx] at hset
          have hfr := hhas.free i
          obtain ⟨y, hy⟩ : ∃ y, ((dg.take i ++ zeros32.drop i).map bv)[i]? = some y := ⟨_, List.getElem?_eq_getElem (by simp [HDL.out, zeros32_len]; omega)⟩
          have hcy := hhas.cell hy
          have hbs := hbel.setCell (p := ⟨gd, i, none⟩) (Nat.le_refl _) (.int .u8 (((vl.getD (i / 4) 0 / 256 ^ (3 - i % 4) : Nat) : Int) % 256))
          clear hy hbx hd hhas hbel
          generalize vl.getD (i / 4) 0 = X at *
          have i1 : (i : Int) / 4 < 8 := by omega
          have i2 : ((i : Int) / 4).toNat = i / 4 := by omega
          have i3 : (i : Int) < 32 := by omega
          go_wp2_with fail
          go_loopw [8, 9] (fun x j wr' => ∃ j' : Nat, i % 4 ≤ j' ∧ j' ≤ 3 ∧ j = .int .i64 j' ∧ x = .int .u32 ((X / 256 ^ (j' - i % 4) : Nat) : Int) ∧ wr' = wr) (fun _ j _ => 3 - (intOf j).toNat)
          case atStart => exact ⟨i % 4, by omega, by omega, by rfl, by simp, rfl⟩
          case round =>
            obtain ⟨j, hj0, hj1, rfl, rfl, rfl⟩ := hrel
            by_cases hj : j < 3
            · have HX := Lib.hid (show X / 256 ^ (j - i % 4) / 256 = X / 256 ^ (j + 1 - i % 4) by rw [Nat.div_div_eq_div_mul, ← Nat.pow_succ, show (j - i % 4).succ = j + 1 - i % 4 by omega])
              have hxb' : X / 256 ^ (j - i % 4) < 4294967296 := Nat.lt_of_le_of_lt (Nat.div_le_self _ _) hxb
              generalize X / 256 ^ (j - i % 4) = x at *
              go_wp2_with fail
              go_roundw
              case rel => exact ⟨j + 1, by omega, by omega, by go_num, by rw [← HX.out]; rfl, by trivial⟩
              case measure => simp [intOf]; omega
            · obtain rfl : j = 3 := by omega
              rw [show ((3 : Nat) : Int) = 3 from rfl]
              have hxb' : X / 256 ^ (3 - i % 4) < 4294967296 := Nat.lt_of_le_of_lt (Nat.div_le_self _ _) hxb
              generalize X / 256 ^ (3 - i % 4) = x at *
              go_wp2_with fail
              go_roundw
              case rel => exact ⟨i + 1, by omega, by go_num, hset, hbs⟩
              case measure => simp [intOf]; omega
        · obtain rfl : i = 32 := by omega
          rw [List.take_of_length_le (by rw [HDL.out]; omega), List.drop_of_length_le (by rw [zeros32_len]; omega), List.append_nil] at hhas
          have hld := hhas.load Tryz.underlying46 rfl (by rw [List.length_map, HDL.out]; exact dig_size2)
          have hboxZ := hboxN.below hbel hwlt
          go_wp2_with (first | (with_reducible refine wpList_loads rfl 46 (.tmp 6) rfl _ rfl _ hld ?_) | (refine wpList_storev rfl 46 (.tmp 2) (.tmp 48) rfl w.heap.size (zeros32.map bv) (dg.map bv) 32 rfl rfl hboxZ (by rw [List.length_map]; rfl) (by rw [List.length_map]; exact HDL.out) dig_size2 (bv_one dg) ?_; intro w6 hbox6 hbel6))
          have hfin := hbel6 _ _ (Nat.le_refl _) (Below.trans hg0N (hbel.mono (Nat.le_of_lt hwlt)))
          rw [← HS.out] at hbox6
          refine bodyPost_ret (v := dv (shaOf bs)) (res_has Tryz.results18 _ rfl Tryz.underlying46 rfl (by rw [List.length_map, shaOf_len]; exact dig_size2) hbox6) rfl ⟨rfl, hfin⟩
end Go.Proofs.YtbcldknecdbemaaGreatDoor
