/-
  Contracts, joined (ShaE ShaF ShaG ShaH ShaJ ShaC ShaD ShaI ShaK CrcD).
-/
import Derived.Test.YtbcldknecdbemaaDoorP5
import Derived.IntWalk
import Derived.Maps.AppendAt
import Derived.Maps.Range
import Derived.Deep.AppendLies
import Derived.Deep.OwnRows
import Derived.Deep.LoopGhost
import Derived.Test.YtbcldknecdbemaaDoorP2

/-
  Contract of sha.spread: a block's 64 words.
-/
namespace Go.Proofs.YtbcldknecdbemaaDoor
open Go.RowKit
set_option linter.unusedVariables false
set_option maxRecDepth 20000

theorem arr64_size : (Tryd.prog.info? 205).map (·.size) = some 64 := by kernel_rfl
theorem blk64_size : (Tryd.prog.info? 165).map (·.size) = some 64 := by kernel_rfl
theorem arr8_size : (Tryd.prog.info? 164).map (·.size) = some 8 := by kernel_rfl
def zeros64 : List Nat := List.replicate 64 0
theorem zeros64_len : zeros64.length = 64 := rfl
theorem bv_has {w : World} {b : Nat} {l : List UInt8} (h : Has w b (l.map bv)) (i : Nat) (hi : i < l.length) : w.cell? ⟨b, i, none⟩ = some (.int .u8 ((l.getD i 0).toNat : Int)) :=
  h.cell (by rw [List.getElem?_map]; simp [hi])
theorem or_key (a b k : Nat) (h : b < 2 ^ k) : a * 2 ^ k ||| b = a * 2 ^ k + b := by
  rw [← Nat.shiftLeft_eq, ← Nat.shiftLeft_add_eq_or_of_lt h]
theorem or24 (a b : Nat) (h : b < 16777216) : a * 16777216 ||| b = a * 16777216 + b := or_key a b 24 h
theorem or16 (a b : Nat) (h : b < 65536) : a * 65536 ||| b = a * 65536 + b := or_key a b 16 h
theorem or8 (a b : Nat) (h : b < 256) : a * 256 ||| b = a * 256 + b := or_key a b 8 h
theorem or_four (x0 x1 x2 x3 : Nat) (h0 : x0 < 256) (h1 : x1 < 256) (h2 : x2 < 256) (h3 : x3 < 256) :
    bits .or .u32 ((x0 : Int) * 16777216) ((x1 : Int) * 65536) = ((x0 * 16777216 + x1 * 65536 : Nat) : Int) ∧
    bits .or .u32 ((x0 * 16777216 + x1 * 65536 : Nat) : Int) ((x2 : Int) * 256) = ((x0 * 16777216 + x1 * 65536 + x2 * 256 : Nat) : Int) ∧
    bits .or .u32 ((x0 * 16777216 + x1 * 65536 + x2 * 256 : Nat) : Int) (x3 : Int) = ((x0 * 16777216 + x1 * 65536 + x2 * 256 + x3 : Nat) : Int) := by
  refine ⟨?_, ?_, ?_⟩
  · rw [show (x0 : Int) * 16777216 = ((x0 * 16777216 : Nat) : Int) by omega, show (x1 : Int) * 65536 = ((x1 * 65536 : Nat) : Int) by omega, u32_or_nat _ _ (by omega) (by omega), or24 x0 (x1 * 65536) (by omega)]
  · rw [show (x2 : Int) * 256 = ((x2 * 256 : Nat) : Int) by omega, u32_or_nat _ _ (by omega) (by omega), show x0 * 16777216 + x1 * 65536 = (x0 * 256 + x1) * 65536 by omega, or16 _ (x2 * 256) (by omega)]
  · rw [u32_or_nat _ _ (by omega) (by omega), show x0 * 16777216 + x1 * 65536 + x2 * 256 = (x0 * 65536 + x1 * 256 + x2) * 256 by omega, or8 _ x3 h3]
theorem three (w : World) (A B C : List Value) (ta tb tc : TypeId) :
    Has (((w.alloc (.cells A.toArray ta)).alloc (.cells B.toArray tb)).alloc (.cells C.toArray tc)) w.heap.size A ∧
    Has (((w.alloc (.cells A.toArray ta)).alloc (.cells B.toArray tb)).alloc (.cells C.toArray tc)) (w.heap.size + 1) B ∧
    Has (((w.alloc (.cells A.toArray ta)).alloc (.cells B.toArray tb)).alloc (.cells C.toArray tc)) (w.heap.size + 1 + 1) C ∧
    Grows w (((w.alloc (.cells A.toArray ta)).alloc (.cells B.toArray tb)).alloc (.cells C.toArray tc)) := by
  have h0 := Has.new w ta A
  have g0 := grows_alloc w (.cells A.toArray ta)
  have s0 : (w.alloc (.cells A.toArray ta)).heap.size = w.heap.size + 1 := by simp
  generalize w.alloc (.cells A.toArray ta) = w0 at *
  have h1 := Has.new w0 tb B
  have g1 := grows_alloc w0 (.cells B.toArray tb)
  have s1 : (w0.alloc (.cells B.toArray tb)).heap.size = w.heap.size + 1 + 1 := by simp [s0]
  rw [s0] at h1
  generalize w0.alloc (.cells B.toArray tb) = w1 at *
  have h2 := Has.new w1 tc C
  have g2 := grows_alloc w1 (.cells C.toArray tc)
  rw [s1] at h2
  exact ⟨(h0.later g1).later g2, h1.later g2, h2, Grows.trans g0 (Grows.trans g1 g2)⟩

theorem turned_grow {x : Nat} {z : Int} {u : World} (n : Nat) (hz : z = (n : Int)) (hx : x < 4294967296) (h0 : 0 < n) (hn : n < 32) :
    Calls Tryd.prog 152 #[.int .u32 (x : Int), .int .i64 z] u fun e u' => e = .returned (.int .u32 ((ror n x : Nat) : Int)) ∧ Grows u u' := by
  subst hz
  exact (turned_any x n _ hx h0 hn).mono fun _ _ ⟨he, hw⟩ => ⟨he, by rw [← hw]; exact Grows.refl _⟩

set_option maxRecDepth 100000 in
set_option maxHeartbeats 1000000 in
theorem spread_any (blk : List UInt8) (w : World) (hl : blk.length = 64) :
    Calls Tryd.prog 142 #[.agg (blk.map bv).toArray] w fun e w' => e = .returned (.agg ((spreadL blk).map uv).toArray) ∧ Grows w w' := by
  obtain ⟨hA, hR, hW, hg⟩ := three w (blk.map bv) (zeros64.map uv) (zeros64.map uv) 165 205 205
  have HL := Lib.hid hl
  clear hl
  go_enter Tryd.func142, Tryd.ntmps142
  go_wp2
  change Code.wp _ _ _ _ (((w.alloc (.cells (blk.map bv).toArray 165)).alloc (.cells (zeros64.map uv).toArray 205)).alloc (.cells (zeros64.map uv).toArray 205))
  generalize ((w.alloc (.cells (blk.map bv).toArray 165)).alloc (.cells (zeros64.map uv).toArray 205)).alloc (.cells (zeros64.map uv).toArray 205) = w3 at *
  have l01 : w.heap.size < w.heap.size + 1 + 1 := by omega
  have l12 : w.heap.size + 1 < w.heap.size + 1 + 1 := by omega
  generalize w.heap.size + 1 + 1 = b2 at *
  have l1 : w.heap.size ≤ w.heap.size + 1 := by omega
  generalize w.heap.size + 1 = b1 at *
  have hsl := spreadL_len blk
  have hsa := spreadL_at blk
  have hsb := spreadL_lt blk
  have hzl := zeros64_len
  obtain ⟨ws, hws⟩ : ∃ ws, ws = spreadL blk := ⟨_, rfl⟩
  rw [← hws] at hsl hsa hsb
  generalize zeros64 = zs at *
  have HSL := Lib.hid hsl
  have HSA := Lib.hid hsa
  have HSB := Lib.hid hsb
  have HWS := Lib.hid hws
  have HZL := Lib.hid hzl
  clear hsl hsa hws hsb hzl
  go_loopw [8] (fun i wr => ∃ k : Nat, k ≤ 16 ∧ i = .int .i64 k ∧ Has wr b2 ((ws.take k ++ zs.drop k).map uv) ∧ Below b2 w3 wr) (fun i _ => 16 - (intOf i).toNat)
  case atStart => exact ⟨0, Nat.zero_le _, rfl, hW, Below.refl _ _⟩
  case round =>
    clear hW
    obtain ⟨k, hk, rfl, hhas, hbel⟩ := hrel
    by_cases hlt : k < 16
    · have hA' := hA.below hbel l01
      have c0 := bv_has hA' (4 * k) (by rw [HL.out]; omega)
      have c1 := bv_has hA' (4 * k + 1) (by rw [HL.out]; omega)
      have c2 := bv_has hA' (4 * k + 2) (by rw [HL.out]; omega)
      have c3 := bv_has hA' (4 * k + 3) (by rw [HL.out]; omega)
      have b0 := (blk.getD (4 * k) 0).toNat_lt
      have b1' := (blk.getD (4 * k + 1) 0).toNat_lt
      have b2' := (blk.getD (4 * k + 2) 0).toNat_lt
      have b3 := (blk.getD (4 * k + 3) 0).toNat_lt
      have hat := HSA.out k (by omega)
      rw [if_pos hlt] at hat
      unfold wordAt at hat
      generalize (blk.getD (4 * k) 0).toNat = x0 at *
      generalize (blk.getD (4 * k + 1) 0).toNat = x1 at *
      generalize (blk.getD (4 * k + 2) 0).toNat = x2 at *
      generalize (blk.getD (4 * k + 3) 0).toNat = x3 at *
      obtain ⟨e1, e2, e3⟩ := or_four x0 x1 x2 x3 b0 b1' b2' b3
      obtain ⟨z3, hz3⟩ : ∃ z, z = x0 * 16777216 + x1 * 65536 + x2 * 256 + x3 := ⟨_, rfl⟩
      obtain ⟨z2, hz2⟩ : ∃ z, z = x0 * 16777216 + x1 * 65536 + x2 * 256 := ⟨_, rfl⟩
      obtain ⟨z1, hz1⟩ : ∃ z, z = x0 * 16777216 + x1 * 65536 := ⟨_, rfl⟩
      rw [← hz3] at e3 hat
      rw [← hz2] at e2 e3
      rw [← hz1] at e1 e2
      clear hz1 hz2 hz3
      have HH := Lib.hid hhas
      have HB := Lib.hid hbel
      have HAT := Lib.hid hat
      clear hhas hat
      go_wp2_with fail
      have k0 : (k : Int) < 64 := by omega
      have p0 : (4 : Int) * (k : Int) < 64 := by omega
      have p1 : (4 : Int) * (k : Int) + 1 < 64 := by omega
      have p2 : (4 : Int) * (k : Int) + 2 < 64 := by omega
      have p3 : (4 : Int) * (k : Int) + 3 < 64 := by omega
      have r0 : (0 : Int) ≤ (4 : Int) * (k : Int) := by omega
      have r1 : (0 : Int) ≤ (4 : Int) * (k : Int) + 1 := by omega
      have r2 : (0 : Int) ≤ (4 : Int) * (k : Int) + 2 := by omega
      have r3 : (0 : Int) ≤ (4 : Int) * (k : Int) + 3 := by omega
      have n0 : ((4 : Int) * (k : Int)).toNat = 4 * k := by omega
      have n1 : ((4 : Int) * (k : Int) + 1).toNat = 4 * k + 1 := by omega
      have n2 : ((4 : Int) * (k : Int) + 2).toNat = 4 * k + 2 := by omega
      have n3 : ((4 : Int) * (k : Int) + 3).toNat = 4 * k + 3 := by omega
      have q0 : IntKind.i64.wrap ((4 : Int) * (k : Int)) = 4 * (k : Int) := IntWalk.i64_in _ (by omega)
      have q1 : IntKind.i64.wrap ((4 : Int) * (k : Int) + 1) = 4 * (k : Int) + 1 := IntWalk.i64_in _ (by omega)
      have q2 : IntKind.i64.wrap ((4 : Int) * (k : Int) + 2) = 4 * (k : Int) + 2 := IntWalk.i64_in _ (by omega)
      have q3 : IntKind.i64.wrap ((4 : Int) * (k : Int) + 3) = 4 * (k : Int) + 3 := IntWalk.i64_in _ (by omega)
      have s0 : IntKind.u32.wrap (x0 : Int) = (x0 : Int) := IntWalk.u32_in _ (by omega)
      have s1 : IntKind.u32.wrap (x1 : Int) = (x1 : Int) := IntWalk.u32_in _ (by omega)
      have s2 : IntKind.u32.wrap (x2 : Int) = (x2 : Int) := IntWalk.u32_in _ (by omega)
      have s3 : IntKind.u32.wrap (x3 : Int) = (x3 : Int) := IntWalk.u32_in _ (by omega)
      have t0 : IntKind.u32.wrap ((x0 : Int) * 16777216) = (x0 : Int) * 16777216 := IntWalk.u32_in _ (by omega)
      have t1 : IntKind.u32.wrap ((x1 : Int) * 65536) = (x1 : Int) * 65536 := IntWalk.u32_in _ (by omega)
      have t2 : IntKind.u32.wrap ((x2 : Int) * 256) = (x2 : Int) * 256 := IntWalk.u32_in _ (by omega)
      refine wp_region_ord 31 [(0, true), (1, true), (2, true), (3, true), (4, true), (5, true), (6, true), (7, true), (8, true), (9, true), (10, true), (11, true), (12, true), (13, true), (14, true), (15, true), (16, true), (17, true), (18, true), (19, true), (20, true), (21, true), (22, true), (23, true), (24, true), (25, true), (26, true), (27, true), (28, true), (29, true), (30, true)] (by kernel_rfl) (by kernel_rfl) ?_
      have f0 : ∀ u, Grows wr.drew u → u.cell? ⟨w.heap.size, 4 * k, none⟩ = some (.int .u8 (x0 : Int)) := fun u h => hcell_later (a := wr.drew) c0 h
      have f1 : ∀ u, Grows wr.drew u → u.cell? ⟨w.heap.size, 4 * k + 1, none⟩ = some (.int .u8 (x1 : Int)) := fun u h => hcell_later (a := wr.drew) c1 h
      have f2 : ∀ u, Grows wr.drew u → u.cell? ⟨w.heap.size, 4 * k + 2, none⟩ = some (.int .u8 (x2 : Int)) := fun u h => hcell_later (a := wr.drew) c2 h
      have f3 : ∀ u, Grows wr.drew u → u.cell? ⟨w.heap.size, 4 * k + 3, none⟩ = some (.int .u8 (x3 : Int)) := fun u h => hcell_later (a := wr.drew) c3 h
      have hO := Grows.refl wr.drew
      clear c0 c1 c2 c3 hbel
      repeat (first | (refine ord_take hO _ ?_ (by simp only [List.getElem?_cons_succ, List.getElem?_cons_zero]; rfl) (by rfl) ?_ ?_; rotate_left; (· (intro u hu0 hu; (try go_simp); (try with_reducible rfl))); try simp only [Act.put, List.setIfInBounds_toArray, List.set_cons_zero, List.set_cons_succ]) | (refine ord_skip _ (by simp only [List.getElem?_cons_succ, List.getElem?_cons_zero]; rfl) (by rfl) ?_; try simp only [Act.put, List.setIfInBounds_toArray, List.set_cons_zero, List.set_cons_succ]))
      clear f0 f1 f2 f3 e1 e2 e3 p0 p1 p2 p3 r0 r1 r2 r3 n0 n1 n2 n3 q0 q1 q2 q3 s0 s1 s2 s3 t0 t1 t2 hO
      (refine ord_done (fun u hu => ?_); simp only [List.drop_succ_cons, List.drop_zero])
      have hhu := HH.out.drew.later hu
      have hbu : Below b2 w3 u := Below.trans HB.out.drew (hu.mono (Nat.le_of_lt HH.out.lt))
      have hset := hhu.set_ (k := k) (by simp [HSL.out, HZL.out]; omega) (uv z3)
      rw [← List.map_set, mid_set _ zs k _ HAT.out (by rw [HZL.out]; omega)] at hset
      have hbs := hbu.setCell (p := ⟨b2, k, none⟩) (Nat.le_refl _) (uv z3)
      have hfr := hhu.free k
      obtain ⟨y, hy⟩ : ∃ y, ((ws.take k ++ zs.drop k).map uv)[k]? = some y := ⟨_, List.getElem?_eq_getElem (by simp [HSL.out, HZL.out]; omega)⟩
      have hcy := hhu.cell hy
      clear hy hhu hbu hu
      go_wp2_with fail
      refine NoPanic.normal ?_
      go_wp2_with fail
      go_roundw
      case rel => exact ⟨k + 1, by omega, by go_num, hset, hbs⟩
      case measure => simp [intOf]; omega
    · obtain rfl : k = 16 := by omega
      rw [show ((16 : Nat) : Int) = 16 from rfl]
      go_wp2_with fail
      go_loopw [5] (fun i wr => ∃ k : Nat, 16 ≤ k ∧ k ≤ 64 ∧ i = .int .i64 k ∧ Has wr b2 ((ws.take k ++ zs.drop k).map uv) ∧ Below b2 w3 wr) (fun i _ => 64 - (intOf i).toNat)
      case atStart => exact ⟨16, by omega, by omega, rfl, hhas, hbel⟩
      case round =>
        clear hhas hbel
        obtain ⟨k, hk0, hk, rfl, hhas, hbel⟩ := hrel
        by_cases hlt : k < 64
        · have hlen : (ws.take k ++ zs.drop k).length = 64 := by simp [HSL.out, HZL.out]; omega
          have hgd : ∀ j, j < k → (ws.take k ++ zs.drop k).getD j 0 = ws.getD j 0 := fun j hj => by
            rw [List.getD_eq_getElem?_getD, List.getD_eq_getElem?_getD, List.getElem?_append_left (by simp [HSL.out]; omega), List.getElem?_take, if_pos hj]
          have c15 := uv_has hhas (k - 15) (by omega)
          have c2 := uv_has hhas (k - 2) (by omega)
          have c16 := uv_has hhas (k - 16) (by omega)
          have c7 := uv_has hhas (k - 7) (by omega)
          rw [hgd _ (by omega)] at c15 c2 c16 c7
          have hat := HSA.out k hlt
          rw [if_neg (by omega)] at hat
          unfold nextW at hat
          have b15 := getD_lt HSB.out (by omega) (k - 15)
          have b2' := getD_lt HSB.out (by omega) (k - 2)
          generalize ws.getD (k - 15) 0 = x15 at *
          generalize ws.getD (k - 2) 0 = x2 at *
          generalize ws.getD (k - 16) 0 = x16 at *
          generalize ws.getD (k - 7) 0 = x7 at *
          have e1 := u32_xor_nat (ror 7 x15) (ror 18 x15) (ror_lt (by omega) b15) (ror_lt (by omega) b15)
          have e2 : bits .xor .u32 ((ror 7 x15 ^^^ ror 18 x15 : Nat) : Int) ((x15 : Int) / 8) = (smallX x15 : Int) := u32_xor_nat _ (x15 / 8) (xor_lt (ror_lt (by omega) b15) (ror_lt (by omega) b15)) (by omega)
          have e3 := u32_xor_nat (ror 17 x2) (ror 19 x2) (ror_lt (by omega) b2') (ror_lt (by omega) b2')
          have e4 : bits .xor .u32 ((ror 17 x2 ^^^ ror 19 x2 : Nat) : Int) ((x2 : Int) / 1024) = (smallY x2 : Int) := u32_xor_nat _ (x2 / 1024) (xor_lt (ror_lt (by omega) b2') (ror_lt (by omega) b2')) (by omega)
          generalize (ror 7 x15 ^^^ ror 18 x15) = y1 at e1 e2
          generalize (ror 17 x2 ^^^ ror 19 x2) = y2 at e3 e4
          have s1 := wrap_add x16 (smallX x15)
          have s2 := wrap_add ((x16 + smallX x15) % 4294967296) x7
          have s3 := wrap_add (((x16 + smallX x15) % 4294967296 + x7) % 4294967296) (smallY x2)
          generalize smallX x15 = sx at *
          generalize smallY x2 = sy at *
          generalize (x16 + sx) % 4294967296 = t1 at *
          generalize (t1 + x7) % 4294967296 = t2 at *
          generalize (t2 + sy) % 4294967296 = t3 at *
          have HAT := Lib.hid hat
          have HLEN := Lib.hid hlen
          have HC16 := Lib.hid c16
          have HC7 := Lib.hid c7
          clear hat hlen hgd c16 c7
          go_wp2_with fail
          have q15 : IntKind.i64.wrap ((k : Int) - 15) = (k : Int) - 15 := IntWalk.i64_in _ (by omega)
          have q2 : IntKind.i64.wrap ((k : Int) - 2) = (k : Int) - 2 := IntWalk.i64_in _ (by omega)
          have p15 : 0 ≤ (k : Int) - 15 := by omega
          have p2 : 0 ≤ (k : Int) - 2 := by omega
          have n15 : ((k : Int) - 15).toNat = k - 15 := by omega
          have n2 : ((k : Int) - 2).toNat = k - 2 := by omega
          go_quiet (fail)
          clear q15 q2 p15 p2 n15 n2
          have hhas1 := hhas.drawn (m := nq)
          have hbel1 : Below b2 w3 (wr.drewN nq) := below_draws hbel
          have c16 : (wr.drewN nq).cell? ⟨b2, k - 16, none⟩ = _ := HC16.out
          have c7 : (wr.drewN nq).cell? ⟨b2, k - 7, none⟩ = _ := HC7.out
          clear hhas hbel c15 c2 HC16 HC7
          generalize wr.drewN nq = w5 at *
          have HH := Lib.hid hhas1
          have HB := Lib.hid hbel1
          clear hhas1 hbel1
          go_wp2_with fail
          refine wp_region_ord 29 [(0, true), (1, true), (2, true), (3, true), (4, true), (5, true), (6, true), (7, true), (8, true), (9, true), (10, true), (11, true), (12, true), (13, true), (14, true), (15, true), (16, true), (17, true), (18, true), (19, true), (20, true), (21, true), (22, true), (23, true), (24, true), (25, true), (26, true), (27, true), (28, true)] (by kernel_rfl) (by kernel_rfl) ?_
          have f16 : ∀ u, Grows w5.drew u → u.cell? ⟨b2, k - 16, none⟩ = some (.int .u32 (x16 : Int)) := fun u h => hcell_later (a := w5.drew) c16 h
          have f7 : ∀ u, Grows w5.drew u → u.cell? ⟨b2, k - 7, none⟩ = some (.int .u32 (x7 : Int)) := fun u h => hcell_later (a := w5.drew) c7 h
          have hO := Grows.refl w5.drew
          have d16 : (16 : Int) ≤ (k : Int) := by omega
          have d7 : (7 : Int) ≤ (k : Int) := by omega
          have l16 : (k : Int) - 16 < 64 := by omega
          have l7 : (k : Int) - 7 < 64 := by omega
          have k0 : (k : Int) < 64 := by omega
          have q16 : IntKind.i64.wrap ((k : Int) - 16) = (k : Int) - 16 := IntWalk.i64_in _ (by omega)
          have q7 : IntKind.i64.wrap ((k : Int) - 7) = (k : Int) - 7 := IntWalk.i64_in _ (by omega)
          have n16 : ((k : Int) - 16).toNat = k - 16 := by omega
          have n7 : ((k : Int) - 7).toNat = k - 7 := by omega
          clear c16 c7
          repeat (first | (refine ord_take hO _ ?_ (by simp only [List.getElem?_cons_succ, List.getElem?_cons_zero]; rfl) (by rfl) ?_ ?_; rotate_left; (· (intro u hu0 hu; (try go_simp); (try with_reducible rfl))); try simp only [Act.put, List.setIfInBounds_toArray, List.set_cons_zero, List.set_cons_succ]) | (refine ord_skip _ (by simp only [List.getElem?_cons_succ, List.getElem?_cons_zero]; rfl) (by rfl) ?_; try simp only [Act.put, List.setIfInBounds_toArray, List.set_cons_zero, List.set_cons_succ]) | (refine ord_call hO _ ?_ (by simp only [List.getElem?_cons_succ, List.getElem?_cons_zero]; rfl) (by rfl) ?_ ?_; rotate_left; (· (intro u hu0 hu; go_simp; (try refine quiet_enter ?_); (first | exact turned_grow 7 (by rfl) b15 (by decide) (by decide) | exact turned_grow 18 (by rfl) b15 (by decide) (by decide) | exact turned_grow 17 (by rfl) b2' (by decide) (by decide) | exact turned_grow 19 (by rfl) b2' (by decide) (by decide)))); try simp only [Act.put, List.setIfInBounds_toArray, List.set_cons_zero, List.set_cons_succ]))
          clear f16 f7 hO d16 d7 l16 l7 q16 q7 n16 n7 e1 e2 e3 e4 s1 s2 s3
          (refine ord_done (fun u hu => ?_); simp only [List.drop_succ_cons, List.drop_zero])
          have hhu := HH.out.drew.later hu
          have hbu : Below b2 w3 u := Below.trans HB.out.drew (hu.mono (Nat.le_of_lt HH.out.lt))
          have hset := hhu.set_ (k := k) (by rw [List.length_map, HLEN.out]; omega) (uv t3)
          rw [← List.map_set, mid_set _ zs k _ HAT.out (by rw [HZL.out]; omega)] at hset
          have hbs := hbu.setCell (p := ⟨b2, k, none⟩) (Nat.le_refl _) (uv t3)
          have hfr := hhu.free k
          obtain ⟨y, hy⟩ : ∃ y, ((ws.take k ++ zs.drop k).map uv)[k]? = some y := ⟨_, List.getElem?_eq_getElem (by rw [List.length_map, HLEN.out]; omega)⟩
          have hcy := hhu.cell hy
          clear hy hhu hbu hu
          go_wp2_with fail
          refine NoPanic.normal ?_
          go_wp2_with fail
          go_roundw
          case rel => exact ⟨k + 1, by omega, by omega, by go_num, hset, hbs⟩
          case measure => simp [intOf]; omega
        · obtain rfl : k = 64 := by omega
          rw [List.take_of_length_le (by rw [HSL.out]; omega), List.drop_of_length_le (by rw [HZL.out]; omega), List.append_nil] at hhas
          have hld := hhas.load Tryd.underlying205 rfl (by rw [List.length_map, HSL.out]; exact arr64_size)
          have hRb := hR.below hbel l12
          go_wp2_with (first | (with_reducible refine wpList_loads rfl 205 (.tmp 3) rfl _ rfl _ hld ?_) | (refine wpList_storev rfl 205 (.tmp 2) (.tmp 84) rfl b1 (zs.map uv) (ws.map uv) 64 rfl rfl hRb (by rw [List.length_map, HZL.out]) (by rw [List.length_map, HSL.out]) arr64_size (uv_one ws) ?_; intro w6 hbox6 hbel6))
          have hfin := hbel6 _ _ l1 (Below.trans hg (hbel.mono (Nat.le_of_lt l01)))
          rw [HWS.out] at hbox6
          refine bodyPost_ret (v := .agg ((spreadL blk).map uv).toArray) (res_has Tryd.results142 _ rfl Tryd.underlying205 rfl (by rw [List.length_map, spreadL_len]; exact arr64_size) hbox6) rfl ⟨rfl, hfin⟩
end Go.Proofs.YtbcldknecdbemaaDoor

/-
  Contract of sha.mixed: what a block's 64 words make of eight. Condition: the table keys holds the document's numbers.
-/
namespace Go.Proofs.YtbcldknecdbemaaDoor
open Go.RowKit
set_option linter.unusedVariables false
set_option maxRecDepth 20000

/-- The table keys holds the document's numbers. -/
def Keys (w : World) : Prop := w.rangeAt 0 0 (roots64.map uv)
theorem Keys.later {w w' : World} (h : Keys w) (hg : Grows w w') : Keys w' := range_later h hg
theorem Keys.pos {w : World} (h : Keys w) : 0 < w.heap.size := World.block_lt_of_cell? w ⟨0, 0 + 0, none⟩ (h 0 _ rfl)
theorem Keys.below {w w' : World} {B : Nat} (h : Keys w) (hb : Below B w w') (hB : 0 < B) : Keys w' := range_below h hb hB
theorem Keys.at_ {w : World} (h : Keys w) (i : Nat) (hi : i < 64) : w.cell? ⟨0, i, none⟩ = some (.int .u32 ((roots64.getD i 0 : Nat) : Int)) := by
  have := uv_at h i (by rw [roots64_len]; exact hi)
  rwa [Nat.zero_add] at this

theorem run_index_words {P : Program} {t e : TypeId} {n : Nat} (ht : P.underlying t = some (.array n e)) (he : P.underlying e = some (.int .u32)) (hse : (P.info? e).map (·.size) = some 1) (l : List Nat) (hl : l.length = n) (i : Nat) (hi : i < n) (w : World) :
    (Instr.index t (.agg (l.map uv).toArray) (.int .i64 (i : Int))).run P w = .ok (.int .u32 ((l.getD i 0 : Nat) : Int)) w := by
  have h1 : (0 : Int) ≤ (i : Int) ∧ (i : Int) < (n : Int) := by omega
  obtain ⟨inf, hinf, hsz⟩ := Option.map_eq_some_iff.1 hse
  simp [Instr.index, run_underlying ht, asIntOf, h1, sizeOf, typeInfo, hinf, hsz, part, isAgg, run_underlying he, hl, hi]

theorem u32_not (a : Nat) (ha : a < 4294967296) : bits .xor .u32 (if IntKind.u32.signed = true then -1 else IntKind.u32.max) (a : Int) = ((4294967295 - a : Nat) : Int) := by
  show IntKind.u32.wrap ((BitVec.ofInt 32 (if IntKind.u32.signed = true then -1 else IntKind.u32.max) ^^^ BitVec.ofInt 32 (a : Int)).toNat : Int) = _
  have h1 : BitVec.ofInt 32 (if IntKind.u32.signed = true then -1 else IntKind.u32.max) = BitVec.allOnes 32 := by decide
  rw [h1, BitVec.allOnes_xor, BitVec.toNat_not, ofInt_u32 a ha, IntKind.wrap_u32']
  omega

def zeros8 : List Nat := List.replicate 8 0
theorem zeros8_len : zeros8.length = 8 := rfl
theorem u32_one : (Tryd.prog.info? 62).map (·.size) = some 1 := by kernel_rfl

theorem turned_lit {x : Nat} {z : Int} {u : World} (n : Nat) (hz : z = (n : Int)) (hx : x < 4294967296) (h0 : 0 < n) (hn : n < 32) :
    Calls Tryd.prog 152 #[.int .u32 (x : Int), .int .i64 z] u fun e u' => e = .returned (.int .u32 ((ror n x : Nat) : Int)) ∧ u = u' := by
  subst hz
  exact turned_any x n _ hx h0 hn

set_option maxRecDepth 100000 in
set_option maxHeartbeats 1000000 in
theorem mixed_any (v : V8) (ws : List Nat) (w : World) (hv : v.Ok) (hl : ws.length = 64) (hk : Keys w) :
    Calls Tryd.prog 141 #[.agg (v.list.map uv).toArray, .agg (ws.map uv).toArray] w fun e w' => e = .returned (.agg ((add8 v (rounds roots64 ws 64 v)).list.map uv).toArray) ∧ Grows w w' := by
  obtain ⟨hA, hW, hR, hg⟩ := three w (v.list.map uv) (ws.map uv) (zeros8.map uv) 164 205 164
  have HL := Lib.hid hl
  clear hl
  have hk3 := hk.later hg
  have hk0 := hk.pos
  go_enter Tryd.func141, Tryd.ntmps141
  go_wp2_with fail
  change Code.wp _ _ _ _ (((w.alloc (.cells (v.list.map uv).toArray 164)).alloc (.cells (ws.map uv).toArray 205)).alloc (.cells (zeros8.map uv).toArray 164))
  generalize ((w.alloc (.cells (v.list.map uv).toArray 164)).alloc (.cells (ws.map uv).toArray 205)).alloc (.cells (zeros8.map uv).toArray 164) = w3 at *
  have l01 : w.heap.size < w.heap.size + 1 + 1 := by omega
  have l12 : w.heap.size + 1 < w.heap.size + 1 + 1 := by omega
  generalize w.heap.size + 1 + 1 = b2 at *
  have l1 : w.heap.size ≤ w.heap.size + 1 := by omega
  generalize w.heap.size + 1 = b1 at *
  have hzl := zeros8_len
  generalize zeros8 = zs at *
  have HZL := Lib.hid hzl
  have HR0 := Lib.hid (show rounds roots64 ws 0 v = v from rfl)
  clear hzl
  have d0 := hA.cell (k := 0) rfl
  have d1 := hA.cell (k := 1) rfl
  have d2 := hA.cell (k := 2) rfl
  have d3 := hA.cell (k := 3) rfl
  have d4 := hA.cell (k := 4) rfl
  have d5 := hA.cell (k := 5) rfl
  have d6 := hA.cell (k := 6) rfl
  have d7 := hA.cell (k := 7) rfl
  simp only [uv] at d0 d1 d2 d3 d4 d5 d6 d7
  go_quiet (fail)
  clear d0 d1 d2 d3 d4 d5 d6 d7
  have hA4 := hA.drawn (m := nq)
  have hW4 := hW.drawn (m := nq)
  have hR4 := hR.drawn (m := nq)
  have hk4 : Keys (w3.drewN nq) := hk3
  have hg4 : Grows w (w3.drewN nq) := below_draws hg
  clear hA hW hR hk3 hg
  generalize w3.drewN nq = w4 at *
  go_wp2_with fail
  go_loopw [5, 6, 7, 8, 9, 10, 11, 12, 34] (fun a b c d e f g h i wr => ∃ (k : Nat) (V : V8), k ≤ 64 ∧ V = rounds roots64 ws k v ∧ V.Ok ∧ i = .int .i64 k ∧ a = uv V.a ∧ b = uv V.b ∧ c = uv V.c ∧ d = uv V.d ∧ e = uv V.e ∧ f = uv V.f ∧ g = uv V.g ∧ h = uv V.h ∧ Grows w4 wr) (fun _ _ _ _ _ _ _ _ i _ => 64 - (intOf i).toNat)
  case atStart => exact ⟨0, v, Nat.zero_le _, rfl, hv, rfl, rfl, rfl, rfl, rfl, rfl, rfl, rfl, rfl, Grows.refl _⟩
  case round =>
    obtain ⟨k, V, hk, hV, hOk, rfl, rfl, rfl, rfl, rfl, rfl, rfl, rfl, rfl, hgr⟩ := hrel
    by_cases hlt : k < 64
    · have HR := Lib.hid (show rounds roots64 ws (k + 1) v = rnd (rounds roots64 ws k v) (roots64.getD k 0) (ws.getD k 0) from rfl)
      rw [← hV] at HR
      have HV := Lib.hid hV
      clear hV
      obtain ⟨xa, xb, xc, xd, xe, xf, xg, xh⟩ := V
      obtain ⟨ba, bb, bc, bd, be, bf, bg, bh⟩ := hOk
      simp only [] at ba bb bc bd be bf bg bh
      have hkc := (hk4.later hgr).at_ k hlt
      have hwc := uv_has (hW4.later hgr) k (by rw [HL.out]; exact hlt)
      generalize roots64.getD k 0 = kk at *
      generalize ws.getD k 0 = wk at *
      have k0 : (k : Int) < 64 := by omega
      have e1 := u32_xor_nat (ror 6 xe) (ror 11 xe) (ror_lt (by omega) be) (ror_lt (by omega) be)
      have e2 : bits .xor .u32 ((ror 6 xe ^^^ ror 11 xe : Nat) : Int) (ror 25 xe : Int) = (bigE xe : Int) := u32_xor_nat _ _ (xor_lt (ror_lt (by omega) be) (ror_lt (by omega) be)) (ror_lt (by omega) be)
      generalize (ror 6 xe ^^^ ror 11 xe) = y1 at e1 e2
      have e3 := u32_and_nat xe xf be bf
      have e0 := u32_not xe be
      have e4 := u32_and_nat (4294967295 - xe) xg (by omega) bg
      have e5 : bits .xor .u32 ((xe &&& xf : Nat) : Int) (((4294967295 - xe) &&& xg : Nat) : Int) = (choose xe xf xg : Int) := u32_xor_nat _ _ (and_lt be) (and_lt (by omega))
      generalize (xe &&& xf) = y2 at e3 e5
      generalize ((4294967295 - xe) &&& xg) = y3 at e4 e5
      generalize (4294967295 - xe) = y6 at e0 e4
      have t1 := wrap_add xh (bigE xe)
      have t2 := wrap_add ((xh + bigE xe) % 4294967296) (choose xe xf xg)
      have t3 := wrap_add (((xh + bigE xe) % 4294967296 + choose xe xf xg) % 4294967296) kk
      have t4 := wrap_add ((((xh + bigE xe) % 4294967296 + choose xe xf xg) % 4294967296 + kk) % 4294967296) wk
      have HT := Lib.hid (show tee ⟨xa, xb, xc, xd, xe, xf, xg, xh⟩ kk wk = ((((xh + bigE xe) % 4294967296 + choose xe xf xg) % 4294967296 + kk) % 4294967296 + wk) % 4294967296 from rfl)
      generalize (xh + bigE xe) % 4294967296 = t1v at *
      generalize (t1v + choose xe xf xg) % 4294967296 = t2v at *
      generalize (t2v + kk) % 4294967296 = t3v at *
      generalize (t3v + wk) % 4294967296 = tv at *
      generalize bigE xe = sE at *
      generalize choose xe xf xg = sC at *
      simp only [uv]
      go_wp2_with fail
      go_quiet (((go_at_call 152; first | exact turned_quiet 6 (by rfl) be (by decide) (by decide) | exact turned_quiet 11 (by rfl) be (by decide) (by decide) | exact turned_quiet 25 (by rfl) be (by decide) (by decide))))
      have hgr1 : Grows w4 (wr.drewN nq) := below_draws hgr
      clear hgr hkc hwc e0 e1 e2 e3 e4 e5 t1 t2 t3 t4
      generalize wr.drewN nq = w5 at *
      have e1 := u32_xor_nat (ror 2 xa) (ror 13 xa) (ror_lt (by omega) ba) (ror_lt (by omega) ba)
      have e2 : bits .xor .u32 ((ror 2 xa ^^^ ror 13 xa : Nat) : Int) (ror 22 xa : Int) = (bigA xa : Int) := u32_xor_nat _ _ (xor_lt (ror_lt (by omega) ba) (ror_lt (by omega) ba)) (ror_lt (by omega) ba)
      generalize (ror 2 xa ^^^ ror 13 xa) = y1 at e1 e2
      have e3 := u32_and_nat xa xb ba bb
      have e4 := u32_and_nat xa xc ba bc
      have e5 := u32_and_nat xb xc bb bc
      have e6 := u32_xor_nat (xa &&& xb) (xa &&& xc) (and_lt ba) (and_lt ba)
      have e7 : bits .xor .u32 ((((xa &&& xb) ^^^ (xa &&& xc)) : Nat) : Int) ((xb &&& xc : Nat) : Int) = (most xa xb xc : Int) := u32_xor_nat _ _ (xor_lt (and_lt ba) (and_lt ba)) (and_lt bb)
      generalize ((xa &&& xb) ^^^ (xa &&& xc)) = y4 at e6 e7
      generalize (xa &&& xb) = y1 at e3 e6
      generalize (xa &&& xc) = y2 at e4 e6
      generalize (xb &&& xc) = y3 at e5 e7
      have HY := Lib.hid (show you ⟨xa, xb, xc, xd, xe, xf, xg, xh⟩ = (bigA xa + most xa xb xc) % 4294967296 from rfl)
      have t1 := wrap_add (bigA xa) (most xa xb xc)
      have t2 := wrap_add tv ((bigA xa + most xa xb xc) % 4294967296)
      have t3 := wrap_add xd tv
      have HV2 : Hid (rounds roots64 ws (k + 1) v = ⟨(tv + (bigA xa + most xa xb xc) % 4294967296) % 4294967296, xa, xb, xc, (xd + tv) % 4294967296, xe, xf, xg⟩) := by
        show rounds roots64 ws (k + 1) v = _
        rw [HR.out]
        simp only [rnd, HT.out, HY.out]
      generalize bigA xa = sA at *
      generalize most xa xb xc = sM at *
      generalize (sA + sM) % 4294967296 = uu at *
      have ha' : (tv + uu) % 4294967296 < 4294967296 := Nat.mod_lt _ (by decide)
      have he' : (xd + tv) % 4294967296 < 4294967296 := Nat.mod_lt _ (by decide)
      generalize (tv + uu) % 4294967296 = za at *
      generalize (xd + tv) % 4294967296 = ze at *
      go_wp2_with (go_at_call 152; first
        | (refine (turned_lit 2 (by rfl) ba (by decide) (by decide)).mono ?_; rintro e w' ⟨rfl, rfl⟩)
        | (refine (turned_lit 13 (by rfl) ba (by decide) (by decide)).mono ?_; rintro e w' ⟨rfl, rfl⟩)
        | (refine (turned_lit 22 (by rfl) ba (by decide) (by decide)).mono ?_; rintro e w' ⟨rfl, rfl⟩))
      go_roundw
      case rel => exact ⟨k + 1, _, by omega, HV2.out.symm, ⟨ha', ba, bb, bc, he', be, bf, bg⟩, by go_num, rfl, rfl, rfl, rfl, rfl, rfl, rfl, rfl, hgr1⟩
      case measure => simp [intOf]; omega
    · obtain rfl : k = 64 := by omega
      have hA5 := hA4.later hgr
      have hR5 := hR4.later hgr
      have hg5 := Grows.trans hg4 hgr
      have hadd := add8_at v V
      have hml : (add8 v V).list = (add8 v (rounds roots64 ws 64 v)).list := by rw [hV]
      have hix : ∀ k : Nat, k < 8 → ∀ w, (Instr.index 164 (.agg #[.int .u32 (V.a : Int), .int .u32 (V.b : Int), .int .u32 (V.c : Int), .int .u32 (V.d : Int), .int .u32 (V.e : Int), .int .u32 (V.f : Int), .int .u32 (V.g : Int), .int .u32 (V.h : Int)]) (.int .i64 (k : Int))).run Tryd.prog w = .ok (.int .u32 ((V.list.getD k 0 : Nat) : Int)) w := run_index_words (P := Tryd.prog) Tryd.underlying164 Tryd.underlying62 u32_one V.list rfl
      have l8 : (add8 v V).list.length = 8 := rfl
      have l8' : v.list.length = 8 := rfl
      have HML := Lib.hid hml
      have HIX := Lib.hid hix
      clear hml hA4 hW4 hR4 hg4 hV hgr hk4 hix hOk
      go_wp2_with fail
      generalize (add8 v V).list = ml at *
      generalize v.list = vl at *
      generalize V.list = rl at *
      have HA := Lib.hid hadd
      have L1 := Lib.hid l8
      have L2 := Lib.hid l8'
      clear hadd l8 l8'
      go_loopw [106] (fun i wr => ∃ k : Nat, k ≤ 8 ∧ i = .int .i64 k ∧ Has wr w.heap.size ((ml.take k ++ vl.drop k).map uv) ∧ Has wr b2 (zs.map uv) ∧ Grows w wr) (fun i _ => 8 - (intOf i).toNat)
      case atStart => exact ⟨0, by omega, rfl, by simpa using hA5, hR5, hg5⟩
      case round =>
        clear hA5 hR5 hg5
        obtain ⟨k, hk, rfl, hhas, hR, hgr⟩ := hrel
        by_cases hlt : k < 8
        · have hix := HIX.out k hlt
          have d1 := uv_has hhas k (by simp [L1.out, L2.out]; omega)
          rw [mid_getD _ _ _ (by rw [L1.out]; omega) (by rw [L2.out]; exact hlt)] at d1
          have t1 := wrap_add (vl.getD k 0) (rl.getD k 0)
          rw [Nat.add_comm (vl.getD k 0), ← HA.out k hlt] at t1
          have hset := hhas.set_ (k := k) (by simp [L1.out, L2.out]; omega) (uv (ml.getD k 0))
          rw [← List.map_set, mid_set ml vl k _ (getD_some (by rw [L1.out]; exact hlt)) (by rw [L2.out]; exact hlt)] at hset
          have hfr := hhas.free k
          have hgs := hgr.setCell (p := ⟨w.heap.size, k, none⟩) (Nat.le_refl _) (uv (ml.getD k 0))
          have hRs : Has (wr.setCell ⟨w.heap.size, k, none⟩ (uv (ml.getD k 0))) b2 (zs.map uv) := ⟨by simpa [World.setCell] using hR.lt, fun j u hu => by
            rw [World.cell?_setCell_other wr _ _ _ (by intro e; injection e with e; omega)]; exact hR.cells j u hu, fun j => by simpa using hR.free j⟩
          clear hhas hgr hR
          generalize rl.getD k 0 = x at *
          generalize vl.getD k 0 = y at *
          generalize ml.getD k 0 = z at *
          have k0 : (k : Int) < 8 := by omega
          go_wp2_with fail
          go_roundw
          case rel => exact ⟨k + 1, by omega, by go_num, hset, hRs, hgs⟩
          case measure => simp [intOf]; omega
        · obtain rfl : k = 8 := by omega
          rw [List.take_of_length_le (by rw [L1.out]; omega), List.drop_of_length_le (by rw [L2.out]; omega), List.append_nil] at hhas
          have hld := hhas.load Tryd.underlying164 rfl (by rw [List.length_map, L1.out]; exact arr8_size)
          go_wp2_with (first | (with_reducible refine wpList_loads rfl 164 (.tmp 2) rfl _ rfl _ hld ?_) | (refine wpList_storev rfl 164 (.tmp 4) (.tmp 117) rfl b2 (zs.map uv) (ml.map uv) 8 rfl rfl hR (by rw [List.length_map, HZL.out]) (by rw [List.length_map, L1.out]) arr8_size (uv_one ml) ?_; intro w6 hbox6 hbel6))
          have hfin := hbel6 _ _ (Nat.le_of_lt l01) hgr
          rw [HML.out] at hbox6
          refine bodyPost_ret (v := .agg ((add8 v (rounds roots64 ws 64 v)).list.map uv).toArray) (res_has Tryd.results141 _ rfl Tryd.underlying164 rfl (by rw [List.length_map]; exact arr8_size) hbox6) rfl ⟨rfl, hfin⟩
end Go.Proofs.YtbcldknecdbemaaDoor

/-
  Contracts of sha's State: New, put, Write, Clone, Len, Sum, and of sha.Sum and sha.digest. Conditions: the table keys holds the document's numbers; the state lies in a block of its own.
-/
namespace Go.Proofs.YtbcldknecdbemaaDoor
open Go.RowKit
set_option linter.unusedVariables false
set_option maxRecDepth 20000

/-- Nothing that was there has turned but block b. -/
abbrev But (b : Nat) (w w' : World) : Prop := w.grownBy w' (some b)
section
variable {b b' : Nat} {w w' w'' : World} {vs : List Value}
theorem But.refl (b : Nat) (w : World) : But b w w := World.grownBy.refl w _
theorem But.of_grows (h : Grows w w') : But b w w' := ⟨h.os, h.tape, h.output, h.size, fun i hi _ => h.block i hi⟩
theorem But.of_set (w : World) (b o : Nat) (u : Value) : But b w (w.setCell ⟨b, o, none⟩ u) :=
  ⟨rfl, rfl, rfl, by simp [World.setCell], fun i hi hne => Below.heap_setCell w _ u i (fun e => hne (by rw [e]))⟩
theorem But.setCells (b : Nat) : ∀ (vs : List Value) (o : Nat) (w : World), But b w (w.setCells b o vs)
  | [], _, w => But.refl b w
  | v :: r, o, w => World.grownBy.trans (But.of_set w b o v) (But.setCells b r (o + 1) _)
theorem Has.but (h : Has w b' vs) (hb : But b w w') (hne : b' ≠ b) : Has w' b' vs :=
  ⟨Nat.lt_of_lt_of_le h.lt hb.size, fun j u hu => hb.cell (h.cells j u hu) (fun e => hne (Option.some.inj e)), fun j => (hb.frozen_far ⟨b', j, none⟩ h.lt (fun e => hne (Option.some.inj e))).trans (h.free j)⟩
theorem Keys.but (h : Keys w) (hb : But b w w') (hne : 0 < b) : Keys w' := fun j u hu => hb.cell (h j u hu) (fun e => absurd (Option.some.inj e) (by show 0 ≠ b; omega))
theorem Lies.but {A : Option Addr} (h : Lies w b A vs) (hb : But b w w') : Lies w' b A vs := fun j u hu => by
  obtain ⟨ad, e, hlt, hc⟩ := h j u hu
  exact ⟨ad, e, hlt, hb.cell hc (fun e => by rw [add_block] at e; have := Option.some.inj e; omega)⟩
end

theorem state_size : (Tryd.prog.info? 167).map (·.size) = some 73 := by kernel_rfl
theorem v8_len (v : V8) : v.list.length = 8 := rfl
theorem uv8_len (v : V8) : (v.list.map uv).length = 8 := rfl

/-- The state in block b: the words v, the last bytes blk, n bytes in all. -/
structure St (w : World) (b : Nat) (v : V8) (blk : List UInt8) (n : Nat) : Prop where
  has : Has w b (v.list.map uv ++ (blk.map bv ++ [.int .i64 (n : Int)]))
  blen : blk.length = 64
section
variable {b n : Nat} {w w' : World} {v : V8} {blk : List UInt8}
theorem St.words (h : St w b v blk n) : w.rangeAt b 0 (v.list.map uv) := h.has.part 0 (fun j u hu => by
  rw [Nat.zero_add, List.getElem?_append_left (List.getElem?_eq_some_iff.1 hu).1]; exact hu)
theorem St.block (h : St w b v blk n) : w.rangeAt b 8 (blk.map bv) := h.has.part 8 (fun j u hu => by
  rw [List.getElem?_append_right (by rw [uv8_len]; omega), uv8_len, Nat.add_sub_cancel_left, List.getElem?_append_left (List.getElem?_eq_some_iff.1 hu).1]; exact hu)
theorem St.size (h : St w b v blk n) : w.cell? ⟨b, 72, none⟩ = some (.int .i64 (n : Int)) := h.has.cell (by
  rw [List.getElem?_append_right (by rw [uv8_len]; omega), uv8_len, List.getElem?_append_right (by rw [List.length_map, h.blen]; omega), List.length_map, h.blen]; rfl)
theorem St.setSize (h : St w b v blk n) (m : Nat) : St (w.setCell ⟨b, 72, none⟩ (.int .i64 (m : Int))) b v blk m := by
  refine ⟨?_, h.blen⟩
  have := h.has.set_ (k := 72) (by simp [v8_len, h.blen]) (.int .i64 (m : Int))
  rwa [List.set_append_right _ _ (by rw [uv8_len]; omega), uv8_len, List.set_append_right _ _ (by rw [List.length_map, h.blen]; omega), List.length_map, h.blen] at this
theorem St.setByte (h : St w b v blk n) (k : Nat) (hk : k < 64) (c : UInt8) : St (w.setCell ⟨b, 8 + k, none⟩ (bv c)) b v (blk.set k c) n := by
  refine ⟨?_, by rw [List.length_set]; exact h.blen⟩
  have := h.has.set_ (k := 8 + k) (by simp [v8_len, h.blen]; omega) (bv c)
  rwa [List.set_append_right _ _ (by rw [uv8_len]; omega), uv8_len, Nat.add_sub_cancel_left, List.set_append_left _ _ (by rw [List.length_map, h.blen]; exact hk), ← List.map_set] at this
theorem St.setWords (h : St w b v blk n) (v' : V8) : St (w.setCells b 0 (v'.list.map uv)) b v' blk n := by
  have ht : w.there b 0 (v'.list.map uv).length := by
    have := there_of h.words h.has.free
    rwa [uv8_len] at this
  refine ⟨⟨by rw [size_setCells]; exact h.has.lt, ?_, fun j => by rw [World.frozen?_setCells]; exact h.has.free j⟩, h.blen⟩
  intro j u hu
  rcases Nat.lt_or_ge j 8 with hj | hj
  · rw [List.getElem?_append_left (by rw [uv8_len]; exact hj)] at hu
    exact World.rangeAt_setCells_same w b 0 _ ht j u hu
  · have h1 : (v.list.map uv ++ (blk.map bv ++ [.int .i64 (n : Int)]))[j]? = some u := by
      rw [List.getElem?_append_right (by rw [uv8_len]; exact hj), uv8_len] at hu ⊢
      exact hu
    rw [World.cell?_setCells_out b _ 0 w ⟨b, 0 + j, none⟩ (fun _ _ => .inr (by rw [uv8_len]; show 0 + 8 ≤ 0 + j; omega))]
    exact h.has.cells j u h1
theorem St.later (h : St w b v blk n) (hg : Grows w w') : St w' b v blk n := ⟨h.has.later hg, h.blen⟩
theorem St.but {b' : Nat} (h : St w b v blk n) (hb : But b' w w') (hne : b ≠ b') : St w' b v blk n := ⟨h.has.but hb hne, h.blen⟩
end

/-- The state in block b holds the bytes l. -/
def Hold (w : World) (b : Nat) (l : List UInt8) : Prop := ∃ blk, St w b (through l (l.length / 64)) blk l.length ∧ blk.take (l.length % 64) = l.drop (64 * (l.length / 64))
theorem Hold.later {w w' : World} {b : Nat} {l : List UInt8} (h : Hold w b l) (hg : Grows w w') : Hold w' b l := h.imp fun _ ⟨h1, h2⟩ => ⟨h1.later hg, h2⟩
theorem Hold.but {w w' : World} {b b' : Nat} {l : List UInt8} (h : Hold w b l) (hb : But b' w w') (hne : b ≠ b') : Hold w' b l := h.imp fun _ ⟨h1, h2⟩ => ⟨h1.but hb hne, h2⟩

/-- The last byte fills the block. -/
theorem fill_full {l blk : List UInt8} {c : UInt8} (hb : blk.length = 64) (hp : blk.take (l.length % 64) = l.drop (64 * (l.length / 64))) (h : (l.length + 1) % 64 = 0) :
    through (l ++ [c]) ((l ++ [c]).length / 64) = mix (through l (l.length / 64)) (blk.set (l.length % 64) c) ∧ (l ++ [c]).length % 64 = 0 ∧ (l ++ [c]).drop (64 * ((l ++ [c]).length / 64)) = [] := by
  have e1 : (l ++ [c]).length = l.length + 1 := by simp
  have e2 : (l.length + 1) / 64 = l.length / 64 + 1 := by omega
  rw [e1, e2]
  refine ⟨?_, h, List.drop_of_length_le (by rw [e1]; omega)⟩
  rw [through, through_append l [c] _ (by omega)]
  congr 1
  have h63 : l.length % 64 = 63 := by omega
  rw [h63] at hp ⊢
  rw [List.drop_append_of_le_length (by omega), ← hp]
  apply List.ext_getElem?
  intro i
  rcases Nat.lt_or_ge i 63 with hi | hi
  · rw [List.getElem?_take, if_pos (by omega), List.getElem?_append_left (by simp [hb]; omega), List.getElem?_take, if_pos hi, List.getElem?_set_ne (by omega)]
  · rcases Nat.lt_or_ge 63 i with hi' | hi'
    · rw [List.getElem?_eq_none (by simp [hb]; omega), List.getElem?_eq_none (by simp [hb]; omega)]
    · obtain rfl : i = 63 := by omega
      rw [List.getElem?_take, if_pos (by omega), List.getElem?_append_right (by simp [hb]), List.getElem?_set_self (by omega)]
      simp [hb]
theorem fill_part {l blk : List UInt8} {c : UInt8} (hb : blk.length = 64) (hp : blk.take (l.length % 64) = l.drop (64 * (l.length / 64))) (h : (l.length + 1) % 64 ≠ 0) :
    through (l ++ [c]) ((l ++ [c]).length / 64) = through l (l.length / 64) ∧ (blk.set (l.length % 64) c).take ((l ++ [c]).length % 64) = (l ++ [c]).drop (64 * ((l ++ [c]).length / 64)) := by
  have e1 : (l ++ [c]).length = l.length + 1 := by simp
  have e2 : (l.length + 1) / 64 = l.length / 64 := by omega
  have e3 : (l.length + 1) % 64 = l.length % 64 + 1 := by omega
  rw [e1, e2, e3]
  refine ⟨through_append l [c] _ (by omega), ?_⟩
  rw [List.drop_append_of_le_length (by omega), ← hp, List.take_succ_eq_append_getElem (by rw [List.length_set, hb]; omega)]
  simp
  rw [List.take_set, List.set_eq_of_length_le (by simp; omega)]
end Go.Proofs.YtbcldknecdbemaaDoor

/-
  Contracts of sha's State, by the memory's own words: put, New, Clone, Len, Write.
-/
namespace Go.Proofs.YtbcldknecdbemaaDoor
open Go.RowKit
set_option linter.unusedVariables false
set_option maxRecDepth 20000

set_option maxRecDepth 100000 in
set_option maxHeartbeats 1000000 in
theorem put_any (b : Nat) (l : List UInt8) (c : UInt8) (w : World) (hk : Keys w) (hb0 : 0 < b) (hh : Hold w b l) (hn : l.length ≤ 1000000000) :
    Calls Tryd.prog 112 #[.pointer (some ⟨b, 0, none⟩), .int .u8 (c.toNat : Int)] w fun e w' => e = .returned (.tuple #[]) ∧ Hold w' b (l ++ [c]) ∧ But b w w' := by
  obtain ⟨blk, hst, hp⟩ := hh
  have hv := through_ok l (l.length / 64)
  have f1 : (l.length + 1) % 64 = 0 → _ := fun h => fill_full (c := c) hst.blen hp h
  have f2 : (l.length + 1) % 64 ≠ 0 → _ := fun h => fill_part (c := c) hst.blen hp h
  have hlen : (l ++ [c]).length = l.length + 1 := by simp
  have HF1 := Lib.hid f1
  have HF2 := Lib.hid f2
  have HLEN := Lib.hid hlen
  clear f1 f2 hlen hp
  generalize through l (l.length / 64) = v at *
  generalize l.length = n at *
  have hsz := hst.size
  have hbl := hst.blen
  have hm64 : n % 64 < 64 := by omega
  have tm : (n : Int).tmod 64 = ((n % 64 : Nat) : Int) := by rw [Int.tmod_eq_emod_of_nonneg (by omega)]; rfl
  generalize n % 64 = m at *
  have HST := Lib.hid hst
  have HK := Lib.hid hk
  clear hst hk
  have n2 : (m : Int) < 64 := by omega
  go_enter Tryd.func112, Tryd.ntmps112
  go_wp2_with fail
  refine wp_region_ord 10 [(0, true), (1, true), (2, true), (3, true), (4, true), (5, true), (6, true), (7, true), (8, true), (9, true)] (by kernel_rfl) (by kernel_rfl) ?_
  have f0 : ∀ u, Grows w.drew u → u.cell? ⟨b, 72, none⟩ = some (.int .i64 (n : Int)) := fun u h => hcell_later (a := w.drew) hsz h
  have hO := Grows.refl w.drew
  repeat (first | (refine ord_take hO _ ?_ (by simp only [List.getElem?_cons_succ, List.getElem?_cons_zero]; rfl) (by rfl) ?_ ?_; rotate_left; (· (intro u hu0 hu; (try go_simp); (try with_reducible rfl))); try simp only [Act.put, List.setIfInBounds_toArray, List.set_cons_zero, List.set_cons_succ]) | (refine ord_skip _ (by simp only [List.getElem?_cons_succ, List.getElem?_cons_zero]; rfl) (by rfl) ?_; try simp only [Act.put, List.setIfInBounds_toArray, List.set_cons_zero, List.set_cons_succ]))
  clear f0 hO tm
  (refine ord_done (fun u hu => ?_); simp only [List.drop_succ_cons, List.drop_zero])
  have hstu := HST.out.later (w' := u) (Grows.trans ((Grows.refl w).drew) hu)
  have hku := HK.out.later (w' := u) (Grows.trans ((Grows.refl w).drew) hu)
  have hbu : But b w u := But.of_grows (Grows.trans ((Grows.refl w).drew) hu)
  have hset := hstu.setByte m hm64 c
  have hbut := hbu.trans (But.of_set u b (8 + m) (bv c))
  have hks := hku.but (But.of_set u b (8 + m) (bv c)) hb0
  have hfr := hstu.has.free (8 + m)
  obtain ⟨y, hy⟩ : ∃ y, (blk.map bv)[m]? = some y := ⟨_, List.getElem?_eq_getElem (by rw [List.length_map, hbl]; exact hm64)⟩
  have hcy := range_cell hstu.block hy
  clear hy hsz
  generalize hw1 : u.setCell ⟨b, 8 + m, none⟩ (bv c) = w1 at *
  have HW1 := Lib.hid hw1
  clear hw1
  go_wp2_with fail
  refine NoPanic.normal ?_
  change Exit.then _ _ _ _ (u.setCell ⟨b, 8 + m, none⟩ (bv c))
  rw [HW1.out]
  have hs1 := hset.size
  have hst2 : St (w1.setCell ⟨b, 72, none⟩ (.int .i64 ((n : Int) + 1))) b v (blk.set m c) (n + 1) := hset.setSize (n + 1)
  have hbut2 : But b w (w1.setCell ⟨b, 72, none⟩ (.int .i64 ((n : Int) + 1))) := hbut.trans (But.of_set w1 b 72 _)
  have hk2 : Keys (w1.setCell ⟨b, 72, none⟩ (.int .i64 ((n : Int) + 1))) := hks.but (But.of_set w1 b 72 _) hb0
  have hfr1 := hset.has.free 72
  have hbl' : (blk.set m c).length = 64 := hset.blen
  have HHS := Lib.hid hst2
  have HBU := Lib.hid hbut2
  have HKS := Lib.hid hk2
  clear hset hbut hks hstu hku hbu hfr hcy hst2 hbut2 hk2 hu
  generalize blk.set m c = bk at *
  by_cases hfull : (n + 1) % 64 = 0
  · have o1 : (((n : Int) + 1) % 64 == 0) = true := by simp; omega
    obtain ⟨g1, g2, g3⟩ := HF1.out hfull
    have G1 := Lib.hid g1
    have G2 := Lib.hid g2
    have G3 := Lib.hid g3
    clear g1 g2 g3
    go_wp2_with fail
    generalize w1.setCell ⟨b, 72, none⟩ (.int .i64 ((n : Int) + 1)) = w2 at *
    refine wp_region_ord 13 [(0, true), (1, true), (2, true), (3, true), (4, true), (5, true), (6, true), (7, true), (8, true), (9, true), (10, true), (11, true), (12, true)] (by kernel_rfl) (by kernel_rfl) ?_
    have hgd : Grows w2 w2.drew := (Grows.refl w2).drew
    have ldW : ∀ u, Grows w2.drew u → (Instr.loadAt 164 (.pointer (some ⟨b, 0, none⟩))).run Tryd.prog u = .ok (.agg (v.list.map uv).toArray) u := fun u h =>
      range_load (HHS.out.later (Grows.trans hgd h)).words Tryd.underlying164 rfl arr8_size
    have ldB : ∀ u, Grows w2.drew u → (Instr.loadAt 165 (.pointer (some ⟨b, 8, none⟩))).run Tryd.prog u = .ok (.agg (bk.map bv).toArray) u := fun u h =>
      range_load (HHS.out.later (Grows.trans hgd h)).block Tryd.underlying165 rfl (by rw [List.length_map, hbl']; exact blk64_size)
    have hky : ∀ u, Grows w2.drew u → Keys u := fun u h => HKS.out.later (Grows.trans hgd h)
    have HKY := Lib.hid hky
    have HGD := Lib.hid hgd
    have HBL := Lib.hid hbl'
    have hO := Grows.refl w2.drew
    clear hky hgd hs1 hfr1 o1 hbl'
    repeat (first | (refine ord_load hO _ _ (by simp only [List.getElem?_cons_succ, List.getElem?_cons_zero]; rfl) (by rfl) 164 (.tmp 30) (by rfl) _ (by rfl) ldW ?_; try simp only [Act.put, List.setIfInBounds_toArray, List.set_cons_zero, List.set_cons_succ]) | (refine ord_load hO _ _ (by simp only [List.getElem?_cons_succ, List.getElem?_cons_zero]; rfl) (by rfl) 165 (.tmp 34) (by rfl) _ (by rfl) ldB ?_; try simp only [Act.put, List.setIfInBounds_toArray, List.set_cons_zero, List.set_cons_succ]) | (refine ord_take hO _ ?_ (by simp only [List.getElem?_cons_succ, List.getElem?_cons_zero]; rfl) (by rfl) ?_ ?_; rotate_left; (· (intro u hu0 hu; (try go_simp); (try with_reducible rfl))); try simp only [Act.put, List.setIfInBounds_toArray, List.set_cons_zero, List.set_cons_succ]) | (refine ord_skip _ (by simp only [List.getElem?_cons_succ, List.getElem?_cons_zero]; rfl) (by rfl) ?_; try simp only [Act.put, List.setIfInBounds_toArray, List.set_cons_zero, List.set_cons_succ]) | (refine ord_call hO _ ?_ (by simp only [List.getElem?_cons_succ, List.getElem?_cons_zero]; rfl) (by rfl) ?_ ?_; rotate_left; (· (intro u hu0 hu; go_simp; (try refine quiet_enter ?_); (first | exact spread_any bk u HBL.out | exact mixed_any v (spreadL bk) u hv (spreadL_len bk) (HKY.out u hu0)))); try simp only [Act.put, List.setIfInBounds_toArray, List.set_cons_zero, List.set_cons_succ]))
    clear ldW ldB hO
    (refine ord_done (fun u hu => ?_); simp only [List.drop_succ_cons, List.drop_zero])
    have hgu := Grows.trans HGD.out hu
    have hstu := HHS.out.later hgu
    have hset := hstu.setWords (mix v bk)
    have hbut := (HBU.out.trans (But.of_grows hgu)).trans (But.setCells b ((mix v bk).list.map uv) 0 u)
    have ht : u.there b 0 8 := there_of hstu.words hstu.has.free
    go_wp2_with (refine wpList_store_mid rfl 164 (.tmp 39) (.tmp 37) rfl b 0 ((mix v bk).list.map uv).toArray rfl rfl ht arr8_size (all_oneCell_toArray (uv_one _)) ?_)
    refine NoPanic.normal ?_
    go_wp2_with fail
    go_end0
    refine ⟨rfl, ⟨bk, ?_, ?_⟩, hbut⟩
    · rw [G1.out, HLEN.out]
      exact hset
    · rw [G2.out, G3.out, List.take_zero]
  · have o1 : (((n : Int) + 1) % 64 == 0) = false := by simp; omega
    obtain ⟨g1, g2⟩ := HF2.out hfull
    have G1 := Lib.hid g1
    have G2 := Lib.hid g2
    clear g1 g2
    go_wp2_with fail
    go_end0
    refine ⟨rfl, ⟨bk, ?_, G2.out⟩, HBU.out⟩
    rw [G1.out, HLEN.out]
    exact HHS.out
end Go.Proofs.YtbcldknecdbemaaDoor

/-
  Contracts of sha's State: New, Clone, Len, Write.
-/
namespace Go.Proofs.YtbcldknecdbemaaDoor
open Go.RowKit
set_option linter.unusedVariables false
set_option maxRecDepth 20000

set_option maxRecDepth 100000 in
theorem zero_state (w : World) : (zeroValue 167).run Tryd.prog w = .ok (.agg #[.int .u32 0, .int .u32 0, .int .u32 0, .int .u32 0, .int .u32 0, .int .u32 0, .int .u32 0, .int .u32 0, .int .u8 0, .int .u8 0, .int .u8 0, .int .u8 0, .int .u8 0, .int .u8 0, .int .u8 0, .int .u8 0, .int .u8 0, .int .u8 0, .int .u8 0, .int .u8 0, .int .u8 0, .int .u8 0, .int .u8 0, .int .u8 0, .int .u8 0, .int .u8 0, .int .u8 0, .int .u8 0, .int .u8 0, .int .u8 0, .int .u8 0, .int .u8 0, .int .u8 0, .int .u8 0, .int .u8 0, .int .u8 0, .int .u8 0, .int .u8 0, .int .u8 0, .int .u8 0, .int .u8 0, .int .u8 0, .int .u8 0, .int .u8 0, .int .u8 0, .int .u8 0, .int .u8 0, .int .u8 0, .int .u8 0, .int .u8 0, .int .u8 0, .int .u8 0, .int .u8 0, .int .u8 0, .int .u8 0, .int .u8 0, .int .u8 0, .int .u8 0, .int .u8 0, .int .u8 0, .int .u8 0, .int .u8 0, .int .u8 0, .int .u8 0, .int .u8 0, .int .u8 0, .int .u8 0, .int .u8 0, .int .u8 0, .int .u8 0, .int .u8 0, .int .u8 0, .int .i64 0]) w := by kernel_rfl

set_option maxRecDepth 100000 in
set_option maxHeartbeats 1000000 in
theorem new_any (w : World) : Calls Tryd.prog 78 #[] w fun e w' => e = .returned (.pointer (some ⟨w.heap.size, 0, none⟩)) ∧ Hold w' w.heap.size [] ∧ Grows w w' := by
  have hN := Has.new w 167 (start8.list.map uv ++ ((List.replicate 64 (0 : UInt8)).map bv ++ [Value.int .i64 ((0 : Nat) : Int)]))
  have hg := grows_alloc w (.cells (start8.list.map uv ++ ((List.replicate 64 (0 : UInt8)).map bv ++ [Value.int .i64 ((0 : Nat) : Int)])).toArray 167)
  have hz := zero_state
  go_enter Tryd.func78, Tryd.ntmps78
  go_wp2
  go_ret
  exact ⟨rfl, ⟨_, ⟨hN, rfl⟩, rfl⟩, hg⟩

set_option maxRecDepth 100000 in
set_option maxHeartbeats 1000000 in
theorem sclone_any (b : Nat) (l : List UInt8) (w : World) (hh : Hold w b l) :
    Calls Tryd.prog 113 #[.pointer (some ⟨b, 0, none⟩)] w fun e w' => e = .returned (.pointer (some ⟨w.heap.size, 0, none⟩)) ∧ Hold w' w.heap.size l ∧ Grows w w' := by
  obtain ⟨blk, hst, hp⟩ := hh
  have hn : (((through l (l.length / 64)).list.map uv ++ (blk.map bv ++ [Value.int .i64 (l.length : Int)]))).length = 73 := by simp [v8_len, hst.blen]
  have hld := hst.has.load Tryd.underlying167 rfl (by rw [hn]; exact state_size)
  have h1 : ∀ u ∈ ((through l (l.length / 64)).list.map uv ++ (blk.map bv ++ [Value.int .i64 (l.length : Int)])), u.oneCell' = true := fun u hu => by
    rcases List.mem_append.1 hu with h | h
    · exact uv_one _ u h
    · rcases List.mem_append.1 h with h | h
      · exact bv_one _ u h
      · obtain rfl := List.mem_singleton.1 h; rfl
  have hbl := hst.blen
  have HST : ∀ w', Has w' w.heap.size ((through l (l.length / 64)).list.map uv ++ (blk.map bv ++ [Value.int .i64 (l.length : Int)])) → Hold w' w.heap.size l := fun w' h => ⟨blk, ⟨h, hbl⟩, hp⟩
  have HH := Lib.hid HST
  have HN := Lib.hid hn
  clear HST hn hst hp hbl
  generalize (through l (l.length / 64)).list.map uv ++ (blk.map bv ++ [Value.int .i64 (l.length : Int)]) = cs at *
  have hN := Has.new w 167 ((List.replicate 8 0).map uv ++ ((List.replicate 64 (0 : UInt8)).map bv ++ [Value.int .i64 0]))
  have hg := grows_alloc w (.cells ((List.replicate 8 0).map uv ++ ((List.replicate 64 (0 : UInt8)).map bv ++ [Value.int .i64 0])).toArray 167)
  have hz := zero_state
  go_enter Tryd.func113, Tryd.ntmps113
  go_wp2_with (first | (with_reducible refine wpList_loads rfl 167 (.tmp 5) rfl _ rfl _ hld ?_) | (refine wpList_storev rfl 167 (.tmp 3) (.tmp 6) rfl w.heap.size ((List.replicate 8 0).map uv ++ ((List.replicate 64 (0 : UInt8)).map bv ++ [Value.int .i64 0])) cs 73 rfl rfl hN rfl HN.out state_size h1 ?_; intro w6 hbox6 hbel6))
  go_ret
  exact ⟨rfl, HH.out _ hbox6, hbel6 _ _ (Nat.le_refl _) hg⟩

/-- The cells vs lie at A, in no cell of block b. -/
def Off (w : World) (b : Nat) (A : Option Addr) (vs : List Value) : Prop := ∀ j u, vs[j]? = some u → ∃ ad, A = some ad ∧ ad.block ≠ b ∧ w.cell? (ad.add j) = some u
theorem Off.but {w w' : World} {b : Nat} {A : Option Addr} {vs : List Value} (h : Off w b A vs) (hb : But b w w') : Off w' b A vs := fun j u hu => by
  obtain ⟨ad, e, hne, hc⟩ := h j u hu
  exact ⟨ad, e, hne, hb.cell hc (fun e => by rw [add_block] at e; exact hne (Option.some.inj e))⟩

set_option maxRecDepth 100000 in
set_option maxHeartbeats 1000000 in
theorem write_any (b : Nat) (l : List UInt8) (A : Option Addr) (n c : Nat) (bs : List UInt8) (w : World) (hk : Keys w) (hb0 : 0 < b) (hh : Hold w b l) (hl : bs.length = n) (hr : Off w b A (bs.map bv)) (hn : l.length + n ≤ 1000000) :
    Calls Tryd.prog 79 #[.pointer (some ⟨b, 0, none⟩), .slice A n c] w fun e w' => e = .returned (.tuple #[]) ∧ Hold w' b (l ++ bs) ∧ But b w w' := by
  have HL := Lib.hid hl
  have HK := Lib.hid hk
  have HR := Lib.hid hr
  clear hl hk hr
  go_enter Tryd.func79, Tryd.ntmps79
  go_wp2_with fail
  go_loopw [8] (fun i wr => ∃ k : Nat, k ≤ n ∧ i = .int .i64 k ∧ Hold wr b (l ++ bs.take k) ∧ But b w wr) (fun i _ => n - (intOf i).toNat)
  case atStart => exact ⟨0, Nat.zero_le _, rfl, by simpa using hh, But.refl _ _⟩
  case round =>
    clear hh
    obtain ⟨k, hk, rfl, hhold, hbut⟩ := hrel
    by_cases hlt : k < n
    · obtain ⟨x, hx⟩ : ∃ x, bs[k]? = some x := ⟨_, List.getElem?_eq_getElem (by rw [HL.out]; exact hlt)⟩
      obtain ⟨ad, rfl, hne, hcell⟩ := HR.out.but hbut k (bv x) (by rw [List.getElem?_map, hx]; rfl)
      have HX := Lib.hid (show l ++ bs.take (k + 1) = l ++ bs.take k ++ [x] by rw [List.take_add_one, hx, List.append_assoc]; rfl)
      have HLEN : Hid ((l ++ bs.take k).length ≤ 1000000000) := by show _ ≤ _; rw [List.length_append, List.length_take]; omega
      clear hx
      have HH := Lib.hid hhold
      have HB := Lib.hid hbut
      clear hhold hbut
      go_wp2_with fail
      refine (put_any b (l ++ bs.take k) x wr (HK.out.but HB.out hb0) hb0 HH.out HLEN.out).mono ?_
      rintro e w2 ⟨rfl, hh2, hb2⟩
      rw [← HX.out] at hh2
      have hb2' := HB.out.trans hb2
      clear hb2
      go_wp2_with fail
      go_roundw
      case rel => exact ⟨k + 1, by omega, by go_num, hh2, hb2'⟩
      case measure => simp [intOf]; omega
    · obtain rfl : k = n := by omega
      rw [List.take_of_length_le (by rw [HL.out]; omega)] at hhold
      go_wp2_with fail
      go_end0
      exact ⟨rfl, hhold, hbut⟩
end Go.Proofs.YtbcldknecdbemaaDoor

/-
  Contracts of the reference's whole and Sum (layer 2): the bytes with what stands behind them, and their digest. Condition: at most a million bytes.
-/
namespace Go.Proofs.YtbcldknecdbemaaDoor
open Go.RowKit
set_option linter.unusedVariables false
set_option maxRecDepth 20000

theorem byte_info2 : (Tryd.prog.info? 5).map (fun i => (i.zero, i.size, i.bytes)) = some (some (.int .u8 0), 1, 1) := by kernel_rfl
def shaLenV : Value → Nat
  | .slice _ n _ => n
  | _ => 0
theorem made_bytes (n : Nat) : ((List.replicate n (0 : UInt8)).map bv).toArray = madeCells #[.int .u8 0] n := by
  apply Array.ext'
  rw [toList_madeCells_one]
  simp [bv]
theorem gap_lt (n : Nat) : gap n < 64 := Nat.mod_lt _ (by decide)
theorem eight_at (N j : Nat) (h0 : 0 < j) (hj : j ≤ 8) : (eight N)[j - 1]? = some (UInt8.ofNat (N / 256 ^ (8 - j) % 256)) := by
  match j, h0, hj with
  | 1, _, _ => rfl
  | 2, _, _ => rfl
  | 3, _, _ => rfl
  | 4, _, _ => rfl
  | 5, _, _ => rfl
  | 6, _, _ => rfl
  | 7, _, _ => rfl
  | 8, _, _ => simp [eight]
theorem back_set {α : Type} (z e : List α) (j : Nat) (x : α) (h0 : 0 < j) (hx : e[j - 1]? = some x) (hz : j ≤ z.length) : (z.take j ++ e.drop j).set (j - 1) x = z.take (j - 1) ++ e.drop (j - 1) := by
  obtain ⟨i, rfl⟩ : ∃ i, j = i + 1 := ⟨j - 1, by omega⟩
  simp only [Nat.add_sub_cancel] at *
  have hi : i < e.length := (List.getElem?_eq_some_iff.1 hx).1
  have ex : x = e[i] := by rw [List.getElem?_eq_getElem hi] at hx; injection hx with hx; exact hx.symm
  rw [List.set_append_left _ _ (by simp; omega), List.take_succ_eq_append_getElem (by omega), List.set_append_right _ _ (by simp; omega), List.drop_eq_getElem_cons hi, ex]
  simp [Nat.min_eq_left (show i ≤ z.length by omega)]

end Go.Proofs.YtbcldknecdbemaaDoor

/-
  Contract of the reference's Sum (layer 2): the digest of bytes. Condition: at most a million bytes.
-/
namespace Go.Proofs.YtbcldknecdbemaaDoor
open Go.RowKit
set_option linter.unusedVariables false
set_option maxRecDepth 20000

theorem bytesOf_at (v : V8) (i : Nat) (hi : i < 32) : (bytesOf v)[i]? = some (UInt8.ofNat (v.list.getD (i / 4) 0 / 256 ^ (3 - i % 4) % 256)) := by
  match i, hi with
  | 0, _ => simp [bytesOf, V8.list, four]
  | 1, _ => simp [bytesOf, V8.list, four]
  | 2, _ => simp [bytesOf, V8.list, four]
  | 3, _ => simp [bytesOf, V8.list, four]
  | 4, _ => simp [bytesOf, V8.list, four]
  | 5, _ => simp [bytesOf, V8.list, four]
  | 6, _ => simp [bytesOf, V8.list, four]
  | 7, _ => simp [bytesOf, V8.list, four]
  | 8, _ => simp [bytesOf, V8.list, four]
  | 9, _ => simp [bytesOf, V8.list, four]
  | 10, _ => simp [bytesOf, V8.list, four]
  | 11, _ => simp [bytesOf, V8.list, four]
  | 12, _ => simp [bytesOf, V8.list, four]
  | 13, _ => simp [bytesOf, V8.list, four]
  | 14, _ => simp [bytesOf, V8.list, four]
  | 15, _ => simp [bytesOf, V8.list, four]
  | 16, _ => simp [bytesOf, V8.list, four]
  | 17, _ => simp [bytesOf, V8.list, four]
  | 18, _ => simp [bytesOf, V8.list, four]
  | 19, _ => simp [bytesOf, V8.list, four]
  | 20, _ => simp [bytesOf, V8.list, four]
  | 21, _ => simp [bytesOf, V8.list, four]
  | 22, _ => simp [bytesOf, V8.list, four]
  | 23, _ => simp [bytesOf, V8.list, four]
  | 24, _ => simp [bytesOf, V8.list, four]
  | 25, _ => simp [bytesOf, V8.list, four]
  | 26, _ => simp [bytesOf, V8.list, four]
  | 27, _ => simp [bytesOf, V8.list, four]
  | 28, _ => simp [bytesOf, V8.list, four]
  | 29, _ => simp [bytesOf, V8.list, four]
  | 30, _ => simp [bytesOf, V8.list, four]
  | 31, _ => simp [bytesOf, V8.list, four]
  | i + 32, hi => omega
theorem dig_size2 : (Tryd.prog.info? 26).map (·.size) = some 32 := by kernel_rfl
def zeros32 : List UInt8 := List.replicate 32 0
theorem zeros32_len : zeros32.length = 32 := rfl

end Go.Proofs.YtbcldknecdbemaaDoor

/-
  Contract of sha.digest: the words' bytes.
-/
namespace Go.Proofs.YtbcldknecdbemaaDoor
open Go.RowKit
set_option linter.unusedVariables false
set_option maxRecDepth 20000

theorem four_at (v : V8) (k : Nat) (hk : k < 8) :
    (bytesOf v)[4 * k]? = some (UInt8.ofNat (v.list.getD k 0 / 16777216 % 256)) ∧ (bytesOf v)[4 * k + 1]? = some (UInt8.ofNat (v.list.getD k 0 / 65536 % 256)) ∧
    (bytesOf v)[4 * k + 2]? = some (UInt8.ofNat (v.list.getD k 0 / 256 % 256)) ∧ (bytesOf v)[4 * k + 3]? = some (UInt8.ofNat (v.list.getD k 0 % 256)) := by
  match k, hk with
  | 0, _ => simp [bytesOf, V8.list, four]
  | 1, _ => simp [bytesOf, V8.list, four]
  | 2, _ => simp [bytesOf, V8.list, four]
  | 3, _ => simp [bytesOf, V8.list, four]
  | 4, _ => simp [bytesOf, V8.list, four]
  | 5, _ => simp [bytesOf, V8.list, four]
  | 6, _ => simp [bytesOf, V8.list, four]
  | 7, _ => simp [bytesOf, V8.list, four]
theorem byte_of (x : Nat) : bv (UInt8.ofNat (x % 256)) = .int .u8 ((x : Int) % 256) := by
  have : (UInt8.ofNat (x % 256)).toNat = x % 256 := by simp
  simp only [bv, this]
  congr 1

set_option maxRecDepth 100000 in
set_option maxHeartbeats 1000000 in
theorem digest_of (v : V8) (w : World) (hv : v.Ok) :
    Calls Tryd.prog 114 #[.agg (v.list.map uv).toArray] w fun e w' => e = .returned (dv (bytesOf v)) ∧ Grows w w' := by
  obtain ⟨hA, hR, hD, hg⟩ := three w (v.list.map uv) (zeros32.map bv) (zeros32.map bv) 164 26 26
  have hld := hA.load Tryd.underlying164 rfl arr8_size
  have hix := run_index_words (P := Tryd.prog) Tryd.underlying164 Tryd.underlying62 u32_one v.list rfl
  have h4 := four_at v
  have hVb : ∀ x ∈ v.list, x < 4294967296 := by
    intro x hx
    simp only [V8.list, List.mem_cons, List.not_mem_nil, or_false] at hx
    obtain ⟨a1, a2, a3, a4, a5, a6, a7, a8⟩ := hv
    rcases hx with rfl | rfl | rfl | rfl | rfl | rfl | rfl | rfl <;> assumption
  have HIX := Lib.hid hix
  have H4 := Lib.hid h4
  have HVB := Lib.hid hVb
  clear hix h4 hVb
  go_enter Tryd.func114, Tryd.ntmps114
  go_wp2_with (with_reducible refine wpList_loads rfl 164 (.tmp 1) rfl _ rfl _ hld ?_)
  change Code.wp _ _ _ _ (((w.alloc (.cells (v.list.map uv).toArray 164)).alloc (.cells (zeros32.map bv).toArray 26)).alloc (.cells (zeros32.map bv).toArray 26))
  generalize ((w.alloc (.cells (v.list.map uv).toArray 164)).alloc (.cells (zeros32.map bv).toArray 26)).alloc (.cells (zeros32.map bv).toArray 26) = w3 at *
  have l01 : w.heap.size < w.heap.size + 1 + 1 := by omega
  have l12 : w.heap.size + 1 < w.heap.size + 1 + 1 := by omega
  generalize w.heap.size + 1 + 1 = b2 at *
  have l1 : w.heap.size ≤ w.heap.size + 1 := by omega
  generalize w.heap.size + 1 = b1 at *
  have hzl := zeros32_len
  have hdl := bytesOf_len v
  have HDG := Lib.hid (show bytesOf v = bytesOf v from rfl)
  generalize zeros32 = zs at *
  obtain ⟨dg, hdg⟩ : ∃ dg, dg = bytesOf v := ⟨_, rfl⟩
  rw [← hdg] at hdl H4
  have HZL := Lib.hid hzl
  have HDL := Lib.hid hdl
  have HDE := Lib.hid hdg
  clear hzl hdl hdg hA hld
  generalize v.list = vl at *
  go_loopw [7] (fun i wr => ∃ k : Nat, k ≤ 8 ∧ i = .int .i64 k ∧ Has wr b2 ((dg.take (4 * k) ++ zs.drop (4 * k)).map bv) ∧ Below b2 w3 wr) (fun i _ => 8 - (intOf i).toNat)
  case atStart => exact ⟨0, Nat.zero_le _, rfl, by simpa using hD, Below.refl _ _⟩
  case round =>
    clear hD
    obtain ⟨k, hk, rfl, hhas, hbel⟩ := hrel
    by_cases hlt : k < 8
    · have hix := HIX.out k hlt
      have hxb := getD_lt HVB.out (by omega) k
      obtain ⟨a0, a1, a2, a3⟩ := H4.out k hlt
      generalize vl.getD k 0 = x at *
      have s0 := hhas.set_ (k := 4 * k) (by simp [HDL.out, HZL.out]; omega) (bv (UInt8.ofNat (x / 16777216 % 256)))
      rw [← List.map_set, mid_set dg zs _ _ a0 (by rw [HZL.out]; omega)] at s0
      have s1 := s0.set_ (k := 4 * k + 1) (by simp [HDL.out, HZL.out]; omega) (bv (UInt8.ofNat (x / 65536 % 256)))
      rw [← List.map_set, mid_set dg zs _ _ a1 (by rw [HZL.out]; omega)] at s1
      have s2 := s1.set_ (k := 4 * k + 2) (by simp [HDL.out, HZL.out]; omega) (bv (UInt8.ofNat (x / 256 % 256)))
      rw [← List.map_set, mid_set dg zs _ _ a2 (by rw [HZL.out]; omega)] at s2
      have s3 := s2.set_ (k := 4 * k + 3) (by simp [HDL.out, HZL.out]; omega) (bv (UInt8.ofNat (x % 256)))
      rw [← List.map_set, mid_set dg zs _ _ a3 (by rw [HZL.out]; omega)] at s3
      have hbs := (((hbel.setCell (p := ⟨b2, 4 * k, none⟩) (Nat.le_refl _) (bv (UInt8.ofNat (x / 16777216 % 256)))).setCell (p := ⟨b2, 4 * k + 1, none⟩) (Nat.le_refl _) (bv (UInt8.ofNat (x / 65536 % 256)))).setCell (p := ⟨b2, 4 * k + 2, none⟩) (Nat.le_refl _) (bv (UInt8.ofNat (x / 256 % 256)))).setCell (p := ⟨b2, 4 * k + 3, none⟩) (Nat.le_refl _) (bv (UInt8.ofNat (x % 256)))
      have f0 := hhas.free (4 * k)
      have f1 := hhas.free (4 * k + 1)
      have f2 := hhas.free (4 * k + 2)
      have f3 := hhas.free (4 * k + 3)
      have hex : ∀ j, j < 32 → ∃ y, wr.cell? ⟨b2, j, none⟩ = some y := fun j hj => by
        obtain ⟨y, hy⟩ : ∃ y, ((dg.take (4 * k) ++ zs.drop (4 * k)).map bv)[j]? = some y := ⟨_, List.getElem?_eq_getElem (by simp [HDL.out, HZL.out]; omega)⟩
        exact ⟨y, hhas.cell hy⟩
      obtain ⟨y0, c0⟩ := hex (4 * k) (by omega)
      obtain ⟨y1, c1⟩ := hex (4 * k + 1) (by omega)
      obtain ⟨y2, c2⟩ := hex (4 * k + 2) (by omega)
      obtain ⟨y3, c3⟩ := hex (4 * k + 3) (by omega)
      have e0 : bv (UInt8.ofNat (x / 16777216 % 256)) = .int .u8 ((x : Int) / 16777216) := by rw [byte_of]; congr 1; omega
      have e1 : bv (UInt8.ofNat (x / 65536 % 256)) = .int .u8 ((x : Int) / 65536 % 256) := by rw [byte_of]; congr 1
      have e2 : bv (UInt8.ofNat (x / 256 % 256)) = .int .u8 ((x : Int) / 256 % 256) := by rw [byte_of]; congr 1
      have e3 := byte_of x
      rw [e0, e1, e2, e3] at s3 hbs
      have S3 := Lib.hid s3
      have HBS := Lib.hid hbs
      clear s0 s1 s2 s3 hbs hex e0 e1 e2 e3 hhas hbel a0 a1 a2 a3
      have k0 : (k : Int) < 8 := by omega
      go_wp2_with fail
      exact ⟨⟨k + 1, by omega, by go_num, S3.out, HBS.out⟩, by simp [intOf]; omega⟩
    · obtain rfl : k = 8 := by omega
      rw [List.take_of_length_le (by rw [HDL.out]; omega), List.drop_of_length_le (by rw [HZL.out]; omega), List.append_nil] at hhas
      have hld := hhas.load Tryd.underlying26 rfl (by rw [List.length_map, HDL.out]; exact dig_size2)
      have hRb := hR.below hbel l12
      go_wp2_with (first | (with_reducible refine wpList_loads rfl 26 (.tmp 3) rfl _ rfl _ hld ?_) | (refine wpList_storev rfl 26 (.tmp 2) (.tmp 38) rfl b1 (zs.map bv) (dg.map bv) 32 rfl rfl hRb (by rw [List.length_map, HZL.out]) (by rw [List.length_map, HDL.out]) dig_size2 (bv_one dg) ?_; intro w6 hbox6 hbel6))
      have hfin := hbel6 _ _ l1 (Below.trans hg (hbel.mono (Nat.le_of_lt l01)))
      rw [HDE.out] at hbox6
      refine bodyPost_ret (v := dv (bytesOf v)) (res_has Tryd.results114 _ rfl Tryd.underlying26 rfl (by rw [List.length_map, bytesOf_len]; exact dig_size2) hbox6) rfl ⟨rfl, hfin⟩
end Go.Proofs.YtbcldknecdbemaaDoor

/-
  Contracts of (*State).Sum and of sha.Sum: the digest of the bytes; nothing that was there has turned. Conditions: the table keys holds the document's numbers; at most a million bytes.
-/
namespace Go.Proofs.YtbcldknecdbemaaDoor
open Go.RowKit
set_option linter.unusedVariables false
set_option maxRecDepth 20000

theorem eight_next (N i : Nat) (hi : 0 < i) (h8 : i ≤ 8) : (eight N).take (8 - (i - 1)) = (eight N).take (8 - i) ++ [UInt8.ofNat (N / 256 ^ (i - 1) % 256)] := by
  match i, hi, h8 with
  | 1, _, _ => simp [eight]
  | 2, _, _ => simp [eight]
  | 3, _, _ => simp [eight]
  | 4, _, _ => simp [eight]
  | 5, _, _ => simp [eight]
  | 6, _, _ => simp [eight]
  | 7, _, _ => simp [eight]
  | 8, _, _ => simp [eight]

set_option maxRecDepth 100000 in
set_option maxHeartbeats 1000000 in
theorem ssum_any (b : Nat) (l : List UInt8) (w : World) (hk : Keys w) (hh : Hold w b l) (hn : l.length ≤ 1000000) :
    Calls Tryd.prog 80 #[.pointer (some ⟨b, 0, none⟩)] w fun e w' => e = .returned (dv (shaOf l)) ∧ Grows w w' := by
  have hbox := Has.new w 26 (zeros32.map bv)
  have hg0 := grows_alloc w (.cells (zeros32.map bv).toArray 26)
  have hh0 := hh.later hg0
  have hk0 := hk.later hg0
  clear hh hk
  go_enter Tryd.func80, Tryd.ntmps80
  go_wp2_with fail
  change Calls _ _ _ (w.alloc (.cells (zeros32.map bv).toArray 26)) _
  generalize w.alloc (.cells (zeros32.map bv).toArray 26) = w0 at *
  have hzl := zeros32_len
  generalize zeros32 = zs at *
  have HZL := Lib.hid hzl
  clear hzl
  refine (sclone_any b l w0 hh0).mono ?_
  rintro e w1 ⟨rfl, hh1, hg1⟩
  have hs1 := hh0.later hg1
  have hk1 := hk0.later hg1
  have hbox1 := hbox.later hg1
  have hbw : w.heap.size < w0.heap.size := hbox.lt
  have hbb : b < w0.heap.size := by obtain ⟨_, h, _⟩ := hh0; exact h.has.lt
  have hg01 := Grows.trans hg0 hg1
  have hbe := hk0.pos
  generalize w0.heap.size = be at *
  clear hh0 hk0 hbox hg0 hg1
  go_wp2_with fail
  refine (put_any be l 128 w1 hk1 hbe hh1 (by omega)).mono ?_
  rintro e w2 ⟨rfl, hh2, hb2⟩
  have hgl := gap_lt l.length
  have HP := Lib.hid (show padded l = l ++ [128] ++ List.replicate (gap l.length) 0 ++ eight (8 * l.length) from rfl)
  clear hh1
  go_wp2_with fail
  go_loopg [] (gap l.length) (fun k wr => ∃ j : Nat, j + k = gap l.length ∧ Hold wr be (l ++ [128] ++ List.replicate j 0) ∧ But be w1 wr)
  case atStart => exact ⟨0, by omega, by simpa using hh2, hb2⟩
  case round =>
    clear hh2 hb2
    obtain ⟨j, hj, hhold, hbut⟩ := hrel
    have hlen : (l ++ [128] ++ List.replicate j 0).length = l.length + 1 + j := by simp; omega
    have hsz : wr.cell? ⟨be, 72, none⟩ = some (.int .i64 ((l.length + 1 + j : Nat) : Int)) := by
      obtain ⟨blk, hst, _⟩ := hhold
      have := hst.size
      rwa [hlen] at this
    have hkr := hk1.but hbut hbe
    by_cases hlt : j < gap l.length
    · have o1 : (((l.length + 1 + j : Nat) : Int) % 64 == 56) = false := by simp; unfold gap at hlt; omega
      have o2 : (((l.length + 1 + j : Nat) : Int) % 64 != 56) = true := by simp; unfold gap at hlt; omega
      have HLEN := Lib.hid hlen
      have HH := Lib.hid hhold
      have HB := Lib.hid hbut
      have HKR := Lib.hid hkr
      have HJ := Lib.hid hj
      have hm : l.length + 1 + j ≤ 2000000 := by omega
      have HLT := Lib.hid hlt
      clear hlen hhold hbut hkr hj hlt
      generalize l.length + 1 + j = m at *
      go_wp2_with fail
      refine (put_any be (l ++ [128] ++ List.replicate j 0) 0 wr HKR.out hbe HH.out (by rw [HLEN.out]; omega)).mono ?_
      rintro e w3 ⟨rfl, hh3, hb3⟩
      rw [List.append_assoc, ← List.replicate_succ'] at hh3
      have hb3' := HB.out.trans hb3
      clear hb3
      go_wp2_with fail
      go_roundg (gk - 1)
      case rel => exact ⟨j + 1, by have h1 := HJ.out; have h2 := HLT.out; omega, hh3, hb3'⟩
      case measure => have h1 := HJ.out; have h2 := HLT.out; omega
    · obtain rfl : j = gap l.length := by omega
      have o1 : (((l.length + 1 + gap l.length : Nat) : Int) % 64 == 56) = true := by simp; unfold gap; omega
      have o2 : (((l.length + 1 + gap l.length : Nat) : Int) % 64 != 56) = false := by simp; unfold gap; omega
      have HLEN := Lib.hid hlen
      have HH := Lib.hid hhold
      have HB := Lib.hid hbut
      have HKR := Lib.hid hkr
      have hm : l.length + 1 + gap l.length ≤ 2000000 := by omega
      clear hlen hhold hbut hkr hj hlt
      generalize l.length + 1 + gap l.length = m at *
      generalize l ++ [128] ++ List.replicate (gap l.length) 0 = pre at *
      go_wp2_with fail
      go_loopw [4] (fun t wr => ∃ i : Nat, i ≤ 8 ∧ t = .int .i64 (8 * (i : Int) - 8) ∧ Hold wr be (pre ++ (eight (8 * l.length)).take (8 - i)) ∧ But be w1 wr) (fun t _ => (intOf t + 8).toNat)
      case atStart => exact ⟨8, by omega, rfl, by simpa using HH.out, HB.out⟩
      case round =>
        clear HH HB HKR hsz o1 o2
        obtain ⟨i, hi, rfl, hhold, hbut⟩ := hrel
        by_cases hlt : 0 < i
        · have hE := eight_next (8 * l.length) i hlt hi
          have hsz : wr.cell? ⟨b, 72, none⟩ = some (.int .i64 (l.length : Int)) := by
            obtain ⟨blk, hst, _⟩ := hs1.but hbut (by omega)
            exact hst.size
          have hkr := hk1.but hbut hbe
          have hll : (pre ++ (eight (8 * l.length)).take (8 - i)).length ≤ 3000000 := by simp [HLEN.out, eight_len]; omega
          have hsh : (8 * (l.length : Int)) / 2 ^ (8 * (i : Int) - 8).toNat = ((8 * l.length / 256 ^ (i - 1) : Nat) : Int) := by
            rw [show (8 * (i : Int) - 8).toNat = 8 * (i - 1) by omega, show ((2 : Int) ^ (8 * (i - 1))) = ((2 ^ (8 * (i - 1)) : Nat) : Int) by simp, Nat.pow_mul]
            simp
          have HE := Lib.hid hE
          have HH := Lib.hid hhold
          have HB := Lib.hid hbut
          have HKR := Lib.hid hkr
          have HLL := Lib.hid hll
          clear hE hhold hbut hkr hll
          have i1 : (0 : Int) ≤ 8 * (i : Int) - 8 := by omega
          have i2 : 8 * (i : Int) - 8 ≤ 64 := by omega
          have i3 : (8 : Int) ≤ 8 * (i : Int) := by omega
          have hcv : Value.int .u8 (8 * (l.length : Int) / 256 ^ (i - 1) % 256) = .int .u8 ((UInt8.ofNat (8 * l.length / 256 ^ (i - 1) % 256)).toNat : Int) := by
            have := byte_of (8 * l.length / 256 ^ (i - 1))
            simp only [bv] at this
            rw [this]
            congr 1
          have HCV := Lib.hid hcv
          clear hcv
          go_wp2_with fail
          rw [HCV.out]
          refine (put_any be _ _ wr HKR.out hbe HH.out (Nat.le_trans HLL.out (by omega))).mono ?_
          rintro e w3 ⟨rfl, hh3, hb3⟩
          rw [List.append_assoc, ← HE.out] at hh3
          have hb3' := HB.out.trans hb3
          clear hb3 hsh
          go_wp2_with fail
          go_roundw
          case rel => exact ⟨i - 1, by omega, by congr 1; omega, hh3, hb3'⟩
          case measure => simp [intOf]; omega
        · obtain rfl : i = 0 := by omega
          have hfull : Hold wr be (padded l) := by
            rw [HP.out]
            have := hhold
            rwa [List.take_of_length_le (by rw [eight_len]; omega)] at this
          obtain ⟨blk, hst, _⟩ := hfull
          have hok := through_ok (padded l) ((padded l).length / 64)
          have HS := Lib.hid (show shaOf l = bytesOf (through (padded l) ((padded l).length / 64)) from rfl)
          generalize through (padded l) ((padded l).length / 64) = V at *
          have hld := range_load hst.words Tryd.underlying164 rfl arr8_size
          have hboxr := hbox1.but hbut (by omega)
          have hgr : Grows w wr := hg01.grown hbut hg01.size (fun k hk => by have := Option.some.inj hk; omega)
          clear hst hhold
          go_wp2_with (with_reducible refine wpList_loads rfl 164 (.tmp 34) rfl _ rfl _ hld ?_)
          refine (digest_of V wr hok).mono ?_
          rintro e w5 ⟨rfl, hg5⟩
          have hbox5 := hboxr.later hg5
          clear hld
          go_wp2_with (refine wpList_storev rfl 26 (.tmp 2) (.tmp 36) rfl w.heap.size (zs.map bv) ((bytesOf V).map bv) 32 rfl rfl hbox5 (by rw [List.length_map, HZL.out]) (by rw [List.length_map, bytesOf_len]) dig_size2 (bv_one _) ?_; intro w6 hbox6 hbel6)
          have hfin := hbel6 _ _ (Nat.le_refl _) (Grows.trans hgr hg5)
          rw [← HS.out] at hbox6
          refine bodyPost_ret (v := dv (shaOf l)) (res_has Tryd.results80 _ rfl Tryd.underlying26 rfl (by rw [List.length_map, shaOf_len]; exact dig_size2) hbox6) rfl ⟨rfl, hfin⟩

set_option maxRecDepth 100000 in
set_option maxHeartbeats 1000000 in
theorem sum_any (A : Option Addr) (n c : Nat) (bs : List UInt8) (w : World) (hk : Keys w) (hl : bs.length = n) (hr : Lies w w.heap.size A (bs.map bv)) (hn : n ≤ 1000000) :
    Calls Tryd.prog 55 #[.slice A n c] w fun e w' => e = .returned (dv (shaOf bs)) ∧ Grows w w' := by
  have hbox := Has.new w 26 (zeros32.map bv)
  have hg0 := grows_alloc w (.cells (zeros32.map bv).toArray 26)
  have hk0 := hk.later hg0
  have hr0 := hr.later hg0
  have HL := Lib.hid hl
  clear hk hr hl
  go_enter Tryd.func55, Tryd.ntmps55
  go_wp2_with fail
  change Calls _ _ _ (w.alloc (.cells (zeros32.map bv).toArray 26)) _
  generalize w.alloc (.cells (zeros32.map bv).toArray 26) = w0 at *
  have hzl := zeros32_len
  generalize zeros32 = zs at *
  have HZL := Lib.hid hzl
  clear hzl
  refine (new_any w0).mono ?_
  rintro e w1 ⟨rfl, hh1, hg1⟩
  have hk1 := hk0.later hg1
  have hbox1 := hbox.later hg1
  have hbw : w.heap.size < w0.heap.size := hbox.lt
  have hr1 : Off w1 w0.heap.size A (bs.map bv) := fun j u hu => by
    obtain ⟨ad, e, hlt, hc⟩ := hr0 j u hu
    exact ⟨ad, e, by omega, hcell_later hc hg1⟩
  have hg01 := Grows.trans hg0 hg1
  have hbe := hk0.pos
  generalize w0.heap.size = be at *
  clear hk0 hbox hg0 hg1 hr0
  go_wp2_with fail
  refine (write_any be [] A n c bs w1 hk1 hbe hh1 HL.out hr1 (by simpa using hn)).mono ?_
  rintro e w2 ⟨rfl, hh2, hb2⟩
  have hk2 := hk1.but hb2 hbe
  have hbox2 := hbox1.but hb2 (by omega)
  have hg2 : Grows w w2 := hg01.grown hb2 hg01.size (fun k hk => by have := Option.some.inj hk; omega)
  rw [List.nil_append] at hh2
  clear hh1 hk1 hbox1 hg01 hr1
  go_wp2_with fail
  refine (ssum_any be bs w2 hk2 hh2 (by rw [HL.out]; exact hn)).mono ?_
  rintro e w3 ⟨rfl, hg3⟩
  have hbox3 := hbox2.later hg3
  go_wp2_with (refine wpList_storev rfl 26 (.tmp 2) (.tmp 9) rfl w.heap.size (zs.map bv) ((shaOf bs).map bv) 32 rfl rfl hbox3 (by rw [List.length_map, HZL.out]) (by rw [List.length_map, shaOf_len]) dig_size2 (bv_one _) ?_; intro w6 hbox6 hbel6)
  have hfin := hbel6 _ _ (Nat.le_refl _) (Grows.trans hg2 hg3)
  refine bodyPost_ret (v := dv (shaOf bs)) (res_has Tryd.results55 _ rfl Tryd.underlying26 rfl (by rw [List.length_map, shaOf_len]; exact dig_size2) hbox6) rfl ⟨rfl, hfin⟩
end Go.Proofs.YtbcldknecdbemaaDoor

/-
  Contracts of the reference's Put and Take of layer 3.
-/
namespace Go.Proofs.YtbcldknecdbemaaDoor
open Go.RowKit
set_option linter.unusedVariables false
set_option maxRecDepth 20000

set_option maxHeartbeats 1000000 in
theorem rput_any (A : Option Addr) (n c : Nat) (bs : List UInt8) (w : World) (hl : bs.length = n) (hr : Lies w w.heap.size A (bs.map bv)) (hn : n ≤ 1000000000000) :
    Calls Tryd.prog 10 #[.slice A n c] w fun e w' => ∃ v, e = .returned v ∧ w'.ownsRow w.heap.size 5 1 v (n + 4) ((bs ++ fourC (crcOf bs)).map bv) ∧ Grows w w' := by
  obtain ⟨i0, hi0, hz0, hz1, hz2⟩ := info_parts byte_info
  have HL := Lib.hid hl
  clear hl
  have hs : crcOf bs < 4294967296 := cmore_lt (s := 0) (by omega) bs
  go_enter Tryd.func10, Tryd.ntmps10
  go_wp2_with fail
  refine (rmore_any 0 A n c bs w (by omega) HL.out hr hn).mono ?_
  rintro e w' ⟨rfl, rfl⟩
  have HSX : Hid (cmore 0 bs = crcOf bs) := rfl
  have HS0 : Hid (crcOf bs = crcOf bs / 2 ^ (8 * 0)) := by show _ = _; simp
  generalize cmore 0 bs = sx at *
  obtain rfl : sx = crcOf bs := HSX.out
  go_wp2_with (at_builtin; refine wpList_append_src _ rfl (.tmp 8) (.tmp 9) _ rfl w.heap.size 5 i0 _ 1 Tryd.underlying22 hi0 hz0 hz1 hz2 rfl (.slice none 0 0) 0 [] rfl (World.ownsRow_nil _ _ _ _) w.heap.size A n c (bs.map bv) rfl (by rw [List.length_map]; exact HL.out) hr (bv_one bs) (by unfold maxLen; omega) (by omega) (Nat.le_refl _) ?_; intro v1 w1 hown1 hg1 hat1)
  have hgr1 : Grows w w1 := (Grows.refl w).grown hg1 (Nat.le_refl _) (by simp [Value.ownBlock])
  rw [Nat.zero_add, List.nil_append] at hown1
  clear hg1 hat1 HSX
  generalize hsx : crcOf bs = s at *
  have HSX := Lib.hid hsx
  clear hsx
  go_loopw [3, 4, 5] (fun x v i wr => ∃ k : Nat, k ≤ 4 ∧ i = .int .i64 k ∧ x = uv (s / 2 ^ (8 * k)) ∧ wr.ownsRow w.heap.size 5 1 v (n + k) ((bs ++ (fourC s).take k).map bv) ∧ Grows w wr) (fun _ _ i _ => 4 - (intOf i).toNat)
  case atStart => exact ⟨0, by omega, rfl, by rw [← HS0.out], by simpa using hown1, hgr1⟩
  case round =>
    clear hown1 hgr1 HS0
    obtain ⟨k, hk, rfl, rfl, hown, hgr⟩ := hrel
    by_cases hlt : k < 4
    · have HF := Lib.hid (four_take s k hlt)
      have HD : Hid (s / 2 ^ (8 * (k + 1)) = s / 2 ^ (8 * k) / 256) := by show _ = _; rw [show 8 * (k + 1) = 8 * k + 8 by omega, Nat.pow_add, Nat.div_div_eq_div_mul]
      have hq : s / 2 ^ (8 * k) < 4294967296 := Nat.lt_of_le_of_lt (Nat.div_le_self _ _) hs
      generalize s / 2 ^ (8 * k) = q at *
      have hnew := Lies.new wr 5 [bv (UInt8.ofNat q)]
      go_wp2_with (at_builtin; refine wpList_append_src _ rfl (.tmp 15) (.tmp 19) _ rfl w.heap.size 5 i0 _ 1 Tryd.underlying22 hi0 hz0 hz1 hz2 rfl _ (n + k) _ rfl (hown.alloc _) _ _ 1 1 [bv (UInt8.ofNat q)] rfl rfl hnew (by simp [Value.oneCell']) (by unfold maxLen; omega) (by omega) (by rw [World.size_alloc]; have := hgr.size; omega) ?_; intro v' w' hown' hg' hat')
      have hb2 : Below w.heap.size wr w' := ((Below.refl _ wr).alloc hgr.size _).grown hg' (by rw [World.size_alloc]; have := hgr.size; omega) (own_ge hown)
      rw [show [bv (UInt8.ofNat q)] = [UInt8.ofNat q].map bv from rfl, ← List.map_append, List.append_assoc, ← HF.out] at hown'
      go_roundw
      case rel => exact ⟨k + 1, by omega, by go_num, by rw [HD.out]; rfl, hown', Below.trans hgr hb2⟩
      case measure => simp [intOf]; omega
    · obtain rfl : k = 4 := by omega
      rw [List.take_of_length_le (by rw [four_len]; exact Nat.le_refl _)] at hown
      go_wp2
      go_ret
      exact ⟨_, rfl, by rw [HSX.out]; exact hown, hgr⟩

theorem takeOf_put (bs : List UInt8) (m : Nat) (hl : bs.length = m + 4) : takeOf bs = if bs.take m ++ fourC (crcOf (bs.take m)) = bs then (bs.take m, 0) else ([], 7) := by
  unfold takeOf
  rw [hl, if_neg (by omega), show m + 4 - 4 = m by omega]
  have h : bs.take m ++ fourC (crcOf (bs.take m)) = bs ↔ bs.drop m = fourC (crcOf (bs.take m)) := by
    constructor
    · intro h
      have h2 := List.take_append_drop m bs
      exact (List.append_cancel_left (h.trans h2.symm)).symm
    · intro h
      rw [← h, List.take_append_drop]
  simp only [h]

set_option maxHeartbeats 1000000 in
theorem rtake_any (A : Option Addr) (n c : Nat) (bs : List UInt8) (w : World) (hl : bs.length = n) (hr : Lies w w.heap.size A (bs.map bv)) (hc : n ≤ c) (hn : n ≤ 1000000000000) :
    Calls Tryd.prog 31 #[.slice A n c] w fun e w' => ∃ A' c', e = .returned (.tuple #[.slice A' (takeOf bs).1.length c', .int .i64 ((takeOf bs).2 : Int)]) ∧ Lies w' w'.heap.size A' ((takeOf bs).1.map bv) ∧ Grows w w' := by
  by_cases h4 : n < 4
  · have ht : takeOf bs = ([], 2) := by unfold takeOf; rw [if_pos (by omega)]
    rw [ht]
    clear ht
    go_enter Tryd.func31, Tryd.ntmps31
    go_wp2
    go_ret2
    exact ⟨none, 0, rfl, Lies.empty, Grows.refl _⟩
  · obtain ⟨m, rfl⟩ : ∃ m, n = m + 4 := ⟨n - 4, by omega⟩
    have HTK := Lib.hid (takeOf_put bs m hl)
    have HB := Lib.hid hl
    clear hl h4
    have hm4 : ((m + 4 : Nat) : Int) - 4 = (m : Int) := by omega
    have ct := run_cut_to (P := Tryd.prog) Tryd.underlying22 byte_one A (m + 4) c m .i64 (by omega)
    have hrt : Lies w w.heap.size A ((bs.take m).map bv) := by rw [List.map_take]; exact hr.take m
    have HT : Hid ((bs.take m).length = m) := by show _ = _; rw [List.length_take, HB.out]; omega
    have HCT := Lib.hid ct
    clear ct
    go_enter Tryd.func31, Tryd.ntmps31
    go_wp2_with fail
    refine wp_region_ord 10 [(0, true), (1, true), (2, true), (3, true), (4, true), (7, true), (8, true), (5, false), (6, true), (9, true)] (by kernel_rfl) (by kernel_rfl) ?_
    have hgd : Grows w w.drew := (Grows.refl w).drew
    have hLT := hrt.later hgd
    have hLA := hr.later hgd
    have ct := HCT.out
    have hO := Grows.refl w.drew
    have hwm : IntKind.i64.wrap (m : Int) = (m : Int) := IntWalk.i64_in _ (by omega)
    clear hrt hr
    generalize w.drew = wd at *
    generalize htk : bs.take m = tk at *
    have HTKK := Lib.hid htk
    clear htk
    have cv1 : ∀ u, Grows wd u → (convert 22 9 (.slice A (m + 4) c)).run Tryd.prog u = .ok (.string ⟨bs.toArray⟩) u := fun u h =>
      run_string_of u 22 5 Tryd.underlying22 Tryd.underlying5 9 Tryd.underlying9 _ A (m + 4) c bs HB.out (hLA.below h)
    repeat (first | (refine ord_cut hO _ ?_ (by simp only [List.getElem?_cons_succ, List.getElem?_cons_zero]; rfl) (by rfl) 22 (.tmp 7) none (some (.tmp 10)) none (by rfl) ?_ ?_; rotate_left; (· (exact ct)); try simp only [Act.put, List.setIfInBounds_toArray, List.set_cons_zero, List.set_cons_succ]) | (refine ord_take hO _ ?_ (by simp only [List.getElem?_cons_succ, List.getElem?_cons_zero]; rfl) (by rfl) ?_ ?_; rotate_left; (· (intro u hu0 hu; (try go_simp); (try with_reducible rfl))); try simp only [Act.put, List.setIfInBounds_toArray, List.set_cons_zero, List.set_cons_succ]) | (refine ord_skip _ (by simp only [List.getElem?_cons_succ, List.getElem?_cons_zero]; rfl) (by rfl) ?_; try simp only [Act.put, List.setIfInBounds_toArray, List.set_cons_zero, List.set_cons_succ]))
    (refine ord_move _ (by simp only [List.getElem?_cons_succ, List.getElem?_cons_zero]; rfl) (by rfl) (fun u hu K hK => ?_); go_simp)
    refine (rput_any A m c tk u HT.out (hLT.later hu) (by omega)).mono ?_
    rintro e w1 ⟨v1, rfl, hown1, hg1⟩
    obtain ⟨A1, c1, rfl, hc1⟩ := own_form hown1
    refine hK.out _ _ hg1 ?_
    clear hK K
    have hL1 := Lies.of_own hown1
    have hl1 : (tk ++ fourC (crcOf tk)).length = m + 4 := by rw [List.length_append, HT.out, four_len]
    have HL1 := Lib.hid hl1
    clear hown1 hl1
    generalize hpt : tk ++ fourC (crcOf tk) = pt at *
    have HPT := Lib.hid hpt
    clear hpt
    have cv2 : ∀ u, Grows w1 u → (convert 22 9 (.slice A1 (m + 4) c1)).run Tryd.prog u = .ok (.string ⟨pt.toArray⟩) u := fun u h =>
      run_string_of u 22 5 Tryd.underlying22 Tryd.underlying5 9 Tryd.underlying9 _ A1 (m + 4) c1 pt HL1.out (hL1.below h)
    have hg01 := Grows.trans hgd (Grows.trans hu hg1)
    have hLA1 := hLA.later (Grows.trans hu hg1)
    have hLT1 := hLT.later (Grows.trans hu hg1)
    have hO := Grows.refl w1
    clear hu hLA hLT cv1 hgd hL1
    repeat (first | (refine ord_take hO _ ?_ (by simp only [List.getElem?_cons_succ, List.getElem?_cons_zero]; rfl) (by rfl) ?_ ?_; rotate_left; (· (intro u hu0 hu; (try go_simp); (try with_reducible rfl))); try simp only [Act.put, List.setIfInBounds_toArray, List.set_cons_zero, List.set_cons_succ]) | (refine ord_skip _ (by simp only [List.getElem?_cons_succ, List.getElem?_cons_zero]; rfl) (by rfl) ?_; try simp only [Act.put, List.setIfInBounds_toArray, List.set_cons_zero, List.set_cons_succ]))
    (refine ord_done (fun u hu => ?_); simp only [List.drop_succ_cons, List.drop_zero])
    have hgu := Grows.trans hg01 hu
    have hLTu := hLT1.later hu
    have ct := HCT.out
    clear hO cv2 hg01 hLT1 hLA1 hu hg1
    refine NoPanic.normal ?_
    generalize hq : (pt == bs) = q
    cases q with
    | true =>
      have HK : Hid (takeOf bs = (tk, 0)) := by show _ = _; rw [HTK.out, if_pos (by simpa using hq)]
      clear hq
      go_wp2_with (with_reducible refine wpList_cut rfl 22 (.tmp 17) none (some (.tmp 20)) none rfl _ (HCT.out _) ?_)
      go_ret2
      rw [HK.out]
      exact ⟨_, c, by rw [HT.out]; rfl, hLTu, hgu⟩
    | false =>
      have HK : Hid (takeOf bs = ([], 7)) := by show _ = _; rw [HTK.out, if_neg (by simpa using hq)]
      clear hq
      go_wp2_with fail
      go_ret2
      rw [HK.out]
      exact ⟨none, 0, rfl, Lies.empty, hgu⟩
end Go.Proofs.YtbcldknecdbemaaDoor
