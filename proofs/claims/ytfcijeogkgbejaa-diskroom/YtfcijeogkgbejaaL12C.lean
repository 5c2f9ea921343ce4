/-
  The walk of DiskRoom.
-/
import Derived.Test.YtfcijeogkgbejaaJ4
import Derived.Test.YtfcijeogkgbejaaJ1
import Derived.Test.YtfcijeogkgbejaaOpR
namespace Go.Proofs.Ytfcijeogkgbejaa
open Go.RowKit
set_option linter.unusedVariables false
set_option maxRecDepth 20000

theorem cell_at {w : World} {a : Addr} {j : Nat} {u : Value} (h : w.cell? (a.add (j + 1)) = some u) : w.cell? ⟨a.block, a.off + (j + 1), none⟩ = some u := by simpa [Addr.add] using h
/-- Of a record: the number, and the bytes. -/
def RoomO (w : World) (r : List Value) : Prop := (∃ z : Int, r[1]? = some (rv z) ∧ -9223372036854775808 ≤ z ∧ z ≤ 9223372036854775807) ∧ ∃ (A : Option Addr) (n c : Nat) (bs : List UInt8), r[4]? = some (.slice A n c) ∧ bs.length = n ∧ n ≤ c ∧ c ≤ maxLen ∧ Lies w w.heap.size A (bs.map bv)
/-- The disk behind j writes: what its three files have. -/
structure Rm (n j : Nat) (f : Nat → Nat) (D : Dk) : Prop where
  pow : D.power = -1
  room : D.room = (n : Int)
  ok : D.Ok
  used : fUsed D.seen = f 0 + f 1 + f 2
  size : ∀ k, k < 3 → ((fGet D.seen [UInt8.ofNat (97 + k)]).getD []).length = f k
  weight : D.weight ≤ 30 * j
  waits : D.waits.length ≤ j
  le : f 0 + f 1 + f 2 ≤ n
def fset (f : Nat → Nat) (k x : Nat) (i : Nat) : Nat := if i = k then x else f i
theorem rm_zero (n : Nat) : Rm n 0 (fun _ => 0) (newD n) := ⟨rfl, rfl, Dk.Ok.new _, rfl, fun k _ => rfl, by simp [newD, Dk.weight, fUsed, dataSum], by simp [newD], by simp⟩
theorem nm_ne {k i : Nat} (hk : k < 3) (hi : i < 3) (h : i ≠ k) : [UInt8.ofNat (97 + i)] ≠ [UInt8.ofNat (97 + k)] := fun e => by
  injection e with e
  have := congrArg UInt8.toNat e
  rw [UInt8.toNat_ofNat', UInt8.toNat_ofNat'] at this
  omega
theorem nm_ok {k : Nat} (hk : k < 3) : namedB [UInt8.ofNat (97 + k)] = true := by
  have : k = 0 ∨ k = 1 ∨ k = 2 := by omega
  rcases this with rfl | rfl | rfl <;> decide
theorem fset_sum (f : Nat → Nat) {k : Nat} (hk : k < 3) (x : Nat) : fset f k x 0 + fset f k x 1 + fset f k x 2 + f k = f 0 + f 1 + f 2 + x := by
  have : k = 0 ∨ k = 1 ∨ k = 2 := by omega
  rcases this with rfl | rfl | rfl <;> simp [fset] <;> omega
theorem f_le (f : Nat → Nat) {k : Nat} (hk : k < 3) : f k ≤ f 0 + f 1 + f 2 := by
  have : k = 0 ∨ k = 1 ∨ k = 2 := by omega
  rcases this with rfl | rfl | rfl <;> omega
theorem rm_full {n j : Nat} {f : Nat → Nat} {D : Dk} (h : Rm n j f D) {k : Nat} (hk : k < 3) (d : Byts) (hf : n < f 0 + f 1 + f 2 - f k + d.length) : writeD D [UInt8.ofNat (97 + k)] d = (D, 5) := by
  unfold writeD
  have := f_le f hk
  rw [if_neg (by rw [nm_ok hk]; simp), if_neg (by rw [h.pow]; omega), if_pos (by rw [h.room, h.used, h.size k hk]; omega)]
theorem rm_put {n j : Nat} {f : Nat → Nat} {D : Dk} (h : Rm n j f D) {k : Nat} (hk : k < 3) (d : Byts) (hd : d.length ≤ 30) (hf : ¬ n < f 0 + f 1 + f 2 - f k + d.length) :
    (writeD D [UInt8.ofNat (97 + k)] d).2 = 0 ∧ Rm n (j + 1) (fset f k d.length) (writeD D [UInt8.ofNat (97 + k)] d).1 := by
  have hle := f_le f hk
  have hw : writeD D [UInt8.ofNat (97 + k)] d = (D.do_ (.wr [UInt8.ofNat (97 + k)] d), 0) := by
    unfold writeD
    rw [if_neg (by rw [nm_ok hk]; simp), if_neg (by rw [h.pow]; omega), if_neg (by rw [h.room, h.used, h.size k hk]; omega)]
  rw [hw]
  have hnd := h.ok.srt.nodup
  have hsum := fset_sum f hk d.length
  have hu := used_del hnd [UInt8.ofNat (97 + k)]
  rw [h.size k hk, h.used] at hu
  have hwt := weight_do D (.wr [UInt8.ofNat (97 + k)] d)
  refine ⟨rfl, ?_, h.room, h.ok.do_ _, ?_, fun i hi => ?_, ?_, ?_, by omega⟩
  · show (if 0 < D.power then D.power - 1 else D.power) = _
    rw [h.pow]; rfl
  · show fUsed (fPut D.seen _ d) = _
    rw [used_put hnd]; omega
  · show ((fGet (fPut D.seen _ d) _).getD []).length = _
    rw [get_put hnd]
    by_cases e : i = k
    · subst e; simp [fset]
    · rw [if_neg (nm_ne hk hi e), h.size i hi]; simp [fset, e]
  · have := h.weight
    rw [hwt]; simp only [Chg.data]; omega
  · show (D.waits ++ [_]).length ≤ _
    have := h.waits
    simp; omega

set_option maxHeartbeats 4000000 in
theorem diskroom_walk (room : Int) (A : Option Addr) (n c : Nat) (rs : List (List Value)) (w : World) (hn : -9223372036854775808 ≤ room ∧ room ≤ 9223372036854775807) (hl : rs.length = n) (hR : Recs w A 6 rs) (hnc : n ≤ c) (hc : c ≤ maxLen) (hO : ∀ r ∈ rs, RoomO w r) :
    Calls Try.prog 7 #[rv room, .slice A n c] w fun e w' => e = .returned (.bool true) ∧ Below w.heap.size w w' := by
  have R60 : ∀ u, Calls Try.prog 9 #[.int .i64 room, .int .i64 60] u fun e w' => e = .returned (.int .i64 (around room 60 : Int)) ∧ u = w' := fun u => around_any room 60 u hn (by omega)
  have hk := around_lt room (m := 60) (by omega)
  generalize around room 60 = k0 at *
  obtain ⟨M, hM⟩ : ∃ M, M = 1 + k0 := ⟨_, rfl⟩
  have hk1 : (1 : Int) + (k0 : Int) = (M : Int) := by omega
  have N0 := new_d (M : Int) w (by omega)
  have Z0 := rm_zero M
  generalize newD (M : Int) = D0 at *
  have hM60 : M ≤ 60 := by omega
  clear hM
  have hc' := hc
  unfold maxLen at hc'
  go_enter Try.func7, Try.ntmps7
  go_wp2_with fail
  refine (R60 _).mono ?_
  rintro e w ⟨rfl, rfl⟩
  go_wp2_with fail
  refine N0.mono ?_
  rintro e w1 ⟨a, rfl, d1, g1⟩
  have hmm := g1.size
  generalize hme : w.heap.size = m at *
  have HM := Lib.hid hme
  clear hme
  go_wp2_with fail
  change Code.wp _ _ _ _ (w1.alloc (.cells [rv 0, rv 0, rv 0].toArray 3))
  have hbox := Has.new w1 3 [rv 0, rv 0, rv 0]
  have d2 := (d1.more (X' := fun k => k = w1.heap.size) (fun k e => .inr (Nat.le_of_eq e.symm))).later (grows_alloc w1 (.cells [rv 0, rv 0, rv 0].toArray 3))
  have g2 := Grows.trans g1 (grows_alloc w1 (.cells [rv 0, rv 0, rv 0].toArray 3))
  generalize w1.alloc (.cells [rv 0, rv 0, rv 0].toArray 3) = w2 at *
  generalize hge : w1.heap.size = g at *
  clear hge d1 g1
  have HN0 := Lib.hid N0
  have HHK := Lib.hid hk1
  clear N0 HN0 R60 hk1 HHK hk
  go_loopw [9] (fun i wr => ∃ (j : Nat) (f : Nat → Nat) (D : Dk), j ≤ n ∧ j ≤ 12 ∧ i = .int .i64 (j : Int) ∧ Rm M j f D ∧ Has wr g [rv (f 0 : Nat), rv (f 1 : Nat), rv (f 2 : Nat)] ∧ Dsk wr a m (fun k => k = g) D ∧ Turns (fun q => m ≤ q) w wr) (fun i _ => n - (intOf i).toNat)
  case atStart => exact ⟨0, _, D0, Nat.zero_le _, Nat.zero_le _, rfl, Z0, hbox, d2, Turns.of_grows g2⟩
  case round =>
    obtain ⟨j, f, D, hj, hj12, rfl, P, hb, d, T⟩ := hrel
    have G : Grows w wr := T.grows fun q hq => by have := HM.out; omega
    by_cases hlt : j < n
    · by_cases hlt2 : j < 12
      · obtain ⟨r, hr⟩ : ∃ r, rs[j]? = some r := ⟨_, List.getElem?_eq_getElem (by rw [hl]; exact hlt)⟩
        obtain ⟨⟨z, hz, hzi⟩, Ab, nb, cb, bs, hbv, hbl, hbc, hbm, hbL⟩ := hO r (List.mem_of_getElem? hr)
        obtain ⟨ad, hA, had, hcell⟩ := hR.at_ (by omega) hr
        have cp : wr.cell? ⟨(ad.add (j * 6)).block, (ad.add (j * 6)).off + 1, none⟩ = some (rv z) := cell_at (j := 0) (by rw [add_add_addr]; exact hcell_later (hcell 1 _ hz) G)
        have cb4 : wr.cell? ⟨(ad.add (j * 6)).block, (ad.add (j * 6)).off + 4, none⟩ = some (.slice Ab nb cb) := cell_at (j := 3) (by rw [add_add_addr]; exact hcell_later (hcell 4 _ hbv) G)
        have A3 : ∀ u, Calls Try.prog 9 #[.int .i64 z, .int .i64 3] u fun e w' => e = .returned (.int .i64 (around z 3 : Int)) ∧ u = w' := fun u => around_any z 3 u hzi (by omega)
        have hk3 := around_lt z (m := 3) (by omega)
        generalize around z 3 = k at *
        obtain ⟨x, hx⟩ : ∃ x, x = bs.take 30 := ⟨_, rfl⟩
        have hxl : x.length = min nb 30 := by rw [hx, List.length_take, hbl, Nat.min_comm]
        have FW := fun (u : World) (hu : Grows wr u) => few_any Ab nb cb 30 (bs.map bv) u (by simpa using hbl) (hbL.later (Grows.trans G hu)) (bv_one bs) hbc (by omega) hbm
        rw [← List.map_take, ← hx, ← hxl] at FW
        have hx30 : x.length ≤ 30 := by omega
        have hwt := P.weight
        have hww := P.waits
        have hle := P.le
        have hfk := f_le f hk3
        have WR := fun (u : World) (A' : Option Addr) (c' : Nat) (h : Dsk u a m (fun q => q = g) D) (hg : g < u.heap.size) (hl : Lies u u.heap.size A' (x.map bv)) => write_d a m _ D u [UInt8.ofNat (97 + k)] A' x.length c' x h (fun q e => by rw [e]; exact hg) rfl hl (by omega) (by omega) (by rw [P.room]; omega)
        have hck : wr.cell? ⟨g, k, none⟩ = some (rv (f k : Nat)) := by
          have : k = 0 ∨ k = 1 ∨ k = 2 := by omega
          rcases this with rfl | rfl | rfl
          · exact hb.cell (k := 0) rfl
          · exact hb.cell (k := 1) rfl
          · exact hb.cell (k := 2) rfl
        have c0 := hb.cell (k := 0) rfl
        have c1 := hb.cell (k := 1) rfl
        have c2 := hb.cell (k := 2) rfl
        have bk := hb.free k
        have hgw := hb.lt
        subst hA
        clear hz hbv hcell hx hxl hbl hbL hbm hbc
        obtain ⟨y0, hy0⟩ : ∃ y, y = f 0 := ⟨_, rfl⟩
        obtain ⟨y1, hy1⟩ : ∃ y, y = f 1 := ⟨_, rfl⟩
        obtain ⟨y2, hy2⟩ : ∃ y, y = f 2 := ⟨_, rfl⟩
        obtain ⟨yk, hyk⟩ : ∃ y, y = f k := ⟨_, rfl⟩
        have hyb : y0 + y1 + y2 ≤ 60 ∧ yk ≤ y0 + y1 + y2 := by omega
        obtain ⟨hyb1, hyb2⟩ := hyb
        have hbv : [UInt8.ofNat (97 + k)].map bv = [Value.int .u8 (97 + (k : Int))] := by
          show [Value.int .u8 ((UInt8.ofNat (97 + k)).toNat : Int)] = _
          rw [UInt8.toNat_ofNat']; congr 2; omega
        have HBV := Lib.hid hbv
        have hk3i : (k : Int) < 3 := by omega
        have hwl := P.waits
        have hw1 := P.weight
        have HY0 := Lib.hid hy0
        have HY1 := Lib.hid hy1
        have HY2 := Lib.hid hy2
        have HYK := Lib.hid hyk
        clear hy0 hy1 hy2 hyk
        have v1 : IntKind.i64.wrap ((y0 : Int) + (y1 : Int)) = (y0 : Int) + (y1 : Int) := IntWalk.i64_in _ ⟨by omega, by omega⟩
        have v2 : IntKind.i64.wrap ((y0 : Int) + (y1 : Int) + (y2 : Int)) = (y0 : Int) + (y1 : Int) + (y2 : Int) := IntWalk.i64_in _ ⟨by omega, by omega⟩
        have v3 : IntKind.i64.wrap ((y0 : Int) + (y1 : Int) + (y2 : Int) - (yk : Int)) = (y0 : Int) + (y1 : Int) + (y2 : Int) - (yk : Int) := IntWalk.i64_in _ ⟨by omega, by omega⟩
        have v4 : IntKind.i64.wrap ((y0 : Int) + (y1 : Int) + (y2 : Int) - (yk : Int) + (x.length : Int)) = (y0 : Int) + (y1 : Int) + (y2 : Int) - (yk : Int) + (x.length : Int) := IntWalk.i64_in _ ⟨by omega, by omega⟩
        obtain ⟨nb1, hnb⟩ : ∃ b, b = UInt8.ofNat (97 + k) := ⟨_, rfl⟩
        rw [← hnb] at HBV WR
        have RF := Lib.hid (fun h => rm_full P hk3 x h)
        have RP := Lib.hid (fun h => rm_put P hk3 x hx30 h)
        rw [← hnb] at RF RP
        clear hnb
        clear hbv hwt hww hle hfk
        by_cases hf : M < f 0 + f 1 + f 2 - f k + x.length
        · rw [RF.out hf] at WR
          have e1 : decide ((y0 : Int) + (y1 : Int) + (y2 : Int) - (yk : Int) + (x.length : Int) ≤ (M : Int)) = false := by have h0 := HY0.out; have h1 := HY1.out; have h2 := HY2.out; have h3 := HYK.out; simp; omega
          have PN : Rm M (j + 1) f D := ⟨P.pow, P.room, P.ok, P.used, P.size, by have := P.weight; omega, by have := P.waits; omega, P.le⟩
          have HSU := Lib.hid PN.used
          have HWL := Lib.hid hwl
          have HLE := Lib.hid PN.le
          have U17 : ∀ u, Dsk u a m (fun q => q = g) D → Calls Try.prog 24 #[.pointer (some ⟨a, 0, none⟩)] u fun e w' => e = .returned (.int .i64 (fUsed D.seen : Int)) ∧ Grows u w' := fun u h => (used_d a m _ D u h).mono fun e w' ⟨h1, h2⟩ => ⟨h1, by rw [h2]; exact Grows.refl _⟩
          clear hf
          have HW1 := Lib.hid hw1
          go_wp2_with fail
          refine (A3 _).mono ?_
          rintro e wr ⟨rfl, rfl⟩
          go_wp2_with fail
          refine (FW _ (Grows.refl _)).mono ?_
          rintro e w3 ⟨ov, rfl, ow, g3⟩
          obtain ⟨Ao, co, rfl, hco⟩ := own_form ow
          have Lo := Lies.of_own ow
          have hb3 := hb.later g3
          have G3 := Grows.trans g3 (Grows.refl w3).drew
          have k0 : ∀ u, Grows w3.drew u → u.cell? ⟨g, 0, none⟩ = some (rv (y0 : Nat)) := fun u h => by rw [HY0.out]; exact hcell_later c0 (Grows.trans G3 h)
          have k1 : ∀ u, Grows w3.drew u → u.cell? ⟨g, 1, none⟩ = some (rv (y1 : Nat)) := fun u h => by rw [HY1.out]; exact hcell_later c1 (Grows.trans G3 h)
          have k2 : ∀ u, Grows w3.drew u → u.cell? ⟨g, 2, none⟩ = some (rv (y2 : Nat)) := fun u h => by rw [HY2.out]; exact hcell_later c2 (Grows.trans G3 h)
          have kk : ∀ u, Grows w3.drew u → u.cell? ⟨g, k, none⟩ = some (rv (yk : Nat)) := fun u h => by rw [HYK.out]; exact hcell_later hck (Grows.trans G3 h)
          go_wp2_with fail
          refine wp_region_ord 20 [(0, true), (1, true), (2, true), (3, true), (4, true), (5, true), (6, true), (7, true), (8, true), (9, true), (10, true), (11, true), (12, true), (13, true), (14, true), (15, true), (16, true), (17, true), (18, true), (19, true)] (by kernel_rfl) (by kernel_rfl) ?_
          have hO := Grows.refl w3.drew
          repeat (first | (refine ord_take hO _ ?_ (by simp only [List.getElem?_cons_succ, List.getElem?_cons_zero]; rfl) (by rfl) ?_ ?_; rotate_left; (· (intro u hu0 hu; (try go_simp); (try with_reducible rfl))); try simp only [Act.put, List.setIfInBounds_toArray, List.set_cons_zero, List.set_cons_succ]) | (refine ord_skip _ (by simp only [List.getElem?_cons_succ, List.getElem?_cons_zero]; rfl) (by rfl) ?_; try simp only [Act.put, List.setIfInBounds_toArray, List.set_cons_zero, List.set_cons_succ]))
          refine ord_done (fun w5 hu => ?_)
          simp only [List.drop_succ_cons, List.drop_zero]
          have g5 : Grows w3 w5 := Grows.trans (Grows.refl w3).drew hu
          clear hO hu k0 k1 k2 kk
          go_wp2_with fail
          refine NoPanic.normal ?_
          have g6 := grows_alloc w5 (.cells #[Value.int .u8 (97 + (k : Int))] 5)
          have L6 : Lies (w5.alloc (.cells #[Value.int .u8 (97 + (k : Int))] 5)) (w5.alloc (.cells #[Value.int .u8 (97 + (k : Int))] 5)).heap.size (some ⟨w5.heap.size, 0, none⟩) ([nb1].map bv) := by rw [World.size_alloc, HBV.out]; exact Lies.new w5 5 [Value.int .u8 (97 + (k : Int))]
          have c6 := run_string_of _ 35 5 Try.underlying35 Try.underlying5 9 Try.underlying9 _ (some ⟨w5.heap.size, 0, none⟩) 1 1 [nb1] rfl L6
          have G6 := Grows.trans g3 (Grows.trans g5 g6)
          have W6 := WR _ Ao co (d.later G6) (Nat.lt_of_lt_of_le hgw G6.size) (Lo.later (Grows.trans g5 g6))
          go_wp2_with fail
          refine W6.mono ?_
          rintro e w7 ⟨rfl, d7, t7⟩
          have hb7 := (hb3.later (Grows.trans g5 g6)).turned t7 (fun e => e.2 rfl)
          have T7 := (T.trans (Turns.of_grows (S := fun q => m ≤ q) G6)).trans (t7.mono fun q _ e => e.1)
          go_wp2_with fail
          have hw8 : Dsk w7 a m (fun q => q = g) D ∧ Has w7 g [rv (f 0 : Nat), rv (f 1 : Nat), rv (f 2 : Nat)] ∧ Turns (fun q => m ≤ q) w w7 := ⟨d7, hb7, T7⟩
          obtain ⟨d8, hb8, T8⟩ := hw8
          generalize hw8 : w7 = w8 at *
          clear hw8
          have e0 := hb8.cell (k := 0) rfl
          have e1 := hb8.cell (k := 1) rfl
          have e2 := hb8.cell (k := 2) rfl
          obtain ⟨z0, hz0⟩ : ∃ y, y = f 0 := ⟨_, rfl⟩
          obtain ⟨z1, hz1⟩ : ∃ y, y = f 1 := ⟨_, rfl⟩
          obtain ⟨z2, hz2⟩ : ∃ y, y = f 2 := ⟨_, rfl⟩
          have hzz : z0 + z1 + z2 ≤ 60 := by have := HLE.out; omega
          have p1 : IntKind.i64.wrap ((z0 : Int) + (z1 : Int)) = (z0 : Int) + (z1 : Int) := IntWalk.i64_in _ ⟨by omega, by omega⟩
          have p2 : IntKind.i64.wrap ((z0 : Int) + (z1 : Int) + (z2 : Int)) = (z0 : Int) + (z1 : Int) + (z2 : Int) := IntWalk.i64_in _ ⟨by omega, by omega⟩
          have p3 : (fUsed D.seen : Int) = (z0 : Int) + (z1 : Int) + (z2 : Int) := by have := HSU.out; omega
          have US : Hid (∀ u, Grows w8.drew u → Calls Try.prog 24 #[.pointer (some ⟨a, 0, none⟩)] u fun e w' => e = .returned (.int .i64 ((z0 : Int) + (z1 : Int) + (z2 : Int))) ∧ Grows u w') := fun u h => by rw [← p3]; exact U17 u (d8.later (Grows.trans (Grows.refl w8).drew h))
          have k0 : ∀ u, Grows w8.drew u → u.cell? ⟨g, 0, none⟩ = some (rv (z0 : Nat)) := fun u h => by rw [hz0]; exact hcell_later e0 (Grows.trans (Grows.refl w8).drew h)
          have k1 : ∀ u, Grows w8.drew u → u.cell? ⟨g, 1, none⟩ = some (rv (z1 : Nat)) := fun u h => by rw [hz1]; exact hcell_later e1 (Grows.trans (Grows.refl w8).drew h)
          have k2 : ∀ u, Grows w8.drew u → u.cell? ⟨g, 2, none⟩ = some (rv (z2 : Nat)) := fun u h => by rw [hz2]; exact hcell_later e2 (Grows.trans (Grows.refl w8).drew h)
          clear hz0 hz1 hz2 p3 e0 e1 e2 v1 v2 v3 v4
          have hO := Grows.refl w8.drew
          refine wp_region_ord 14 [(0, true), (1, true), (2, true), (3, true), (4, true), (5, true), (6, true), (7, true), (8, true), (9, true), (10, true), (11, true), (12, true), (13, true)] (by kernel_rfl) (by kernel_rfl) ?_
          repeat (first | (refine ord_take hO _ ?_ (by simp only [List.getElem?_cons_succ, List.getElem?_cons_zero]; rfl) (by rfl) ?_ ?_; rotate_left; (· (intro u hu0 hu; (try go_simp); (try with_reducible rfl))); try simp only [Act.put, List.setIfInBounds_toArray, List.set_cons_zero, List.set_cons_succ]) | (refine ord_skip _ (by simp only [List.getElem?_cons_succ, List.getElem?_cons_zero]; rfl) (by rfl) ?_; try simp only [Act.put, List.setIfInBounds_toArray, List.set_cons_zero, List.set_cons_succ]) | (refine ord_call hO _ ?_ (by simp only [List.getElem?_cons_succ, List.getElem?_cons_zero]; rfl) (by rfl) ?_ ?_; rotate_left; (· (intro u hu0 hu; go_simp; (try refine quiet_enter ?_); (exact US.out u hu0))); try simp only [Act.put, List.setIfInBounds_toArray, List.set_cons_zero, List.set_cons_succ]))
          refine ord_done (fun w9 hu => ?_)
          simp only [List.drop_succ_cons, List.drop_zero]
          have g9 : Grows w8 w9 := Grows.trans (Grows.refl w8).drew hu
          clear hO hu k0 k1 k2 US
          go_wp2_with fail
          refine NoPanic.normal ?_
          go_wp2_with fail
          go_roundw
          case rel => exact ⟨j + 1, f, D, by omega, by omega, by go_num, PN, hb8.later g9, d8.later g9, T8.trans (Turns.of_grows g9)⟩
          case measure => simp [intOf]; omega
        · obtain ⟨s1, PN⟩ := RP.out hf
          rw [s1] at WR
          have e1 : decide ((y0 : Int) + (y1 : Int) + (y2 : Int) - (yk : Int) + (x.length : Int) ≤ (M : Int)) = true := by have h0 := HY0.out; have h1 := HY1.out; have h2 := HY2.out; have h3 := HYK.out; simp; omega
          generalize (writeD D [nb1] x).1 = D' at *
          have hset : [rv (f 0 : Nat), rv (f 1 : Nat), rv (f 2 : Nat)].set k (rv (x.length : Nat)) = [rv (fset f k x.length 0 : Nat), rv (fset f k x.length 1 : Nat), rv (fset f k x.length 2 : Nat)] := by
            have : k = 0 ∨ k = 1 ∨ k = 2 := by omega
            rcases this with rfl | rfl | rfl <;> rfl
          have HSET := Lib.hid hset
          have hsum := fset_sum f hk3 x.length
          clear hset s1
          generalize fset f k x.length = f' at *
          have cz : w.heap.size = w.heap.size := rfl
          clear cz hsum
          have HSU := Lib.hid PN.used
          have HWL := Lib.hid hwl
          have HLE := Lib.hid PN.le
          have U17 : ∀ u, Dsk u a m (fun q => q = g) D' → Calls Try.prog 24 #[.pointer (some ⟨a, 0, none⟩)] u fun e w' => e = .returned (.int .i64 (fUsed D'.seen : Int)) ∧ Grows u w' := fun u h => (used_d a m _ D' u h).mono fun e w' ⟨h1, h2⟩ => ⟨h1, by rw [h2]; exact Grows.refl _⟩
          clear hf
          have HW1 := Lib.hid hw1
          go_wp2_with fail
          refine (A3 _).mono ?_
          rintro e wr ⟨rfl, rfl⟩
          go_wp2_with fail
          refine (FW _ (Grows.refl _)).mono ?_
          rintro e w3 ⟨ov, rfl, ow, g3⟩
          obtain ⟨Ao, co, rfl, hco⟩ := own_form ow
          have Lo := Lies.of_own ow
          have hb3 := hb.later g3
          have G3 := Grows.trans g3 (Grows.refl w3).drew
          have k0 : ∀ u, Grows w3.drew u → u.cell? ⟨g, 0, none⟩ = some (rv (y0 : Nat)) := fun u h => by rw [HY0.out]; exact hcell_later c0 (Grows.trans G3 h)
          have k1 : ∀ u, Grows w3.drew u → u.cell? ⟨g, 1, none⟩ = some (rv (y1 : Nat)) := fun u h => by rw [HY1.out]; exact hcell_later c1 (Grows.trans G3 h)
          have k2 : ∀ u, Grows w3.drew u → u.cell? ⟨g, 2, none⟩ = some (rv (y2 : Nat)) := fun u h => by rw [HY2.out]; exact hcell_later c2 (Grows.trans G3 h)
          have kk : ∀ u, Grows w3.drew u → u.cell? ⟨g, k, none⟩ = some (rv (yk : Nat)) := fun u h => by rw [HYK.out]; exact hcell_later hck (Grows.trans G3 h)
          go_wp2_with fail
          refine wp_region_ord 20 [(0, true), (1, true), (2, true), (3, true), (4, true), (5, true), (6, true), (7, true), (8, true), (9, true), (10, true), (11, true), (12, true), (13, true), (14, true), (15, true), (16, true), (17, true), (18, true), (19, true)] (by kernel_rfl) (by kernel_rfl) ?_
          have hO := Grows.refl w3.drew
          repeat (first | (refine ord_take hO _ ?_ (by simp only [List.getElem?_cons_succ, List.getElem?_cons_zero]; rfl) (by rfl) ?_ ?_; rotate_left; (· (intro u hu0 hu; (try go_simp); (try with_reducible rfl))); try simp only [Act.put, List.setIfInBounds_toArray, List.set_cons_zero, List.set_cons_succ]) | (refine ord_skip _ (by simp only [List.getElem?_cons_succ, List.getElem?_cons_zero]; rfl) (by rfl) ?_; try simp only [Act.put, List.setIfInBounds_toArray, List.set_cons_zero, List.set_cons_succ]))
          refine ord_done (fun w5 hu => ?_)
          simp only [List.drop_succ_cons, List.drop_zero]
          have g5 : Grows w3 w5 := Grows.trans (Grows.refl w3).drew hu
          clear hO hu k0 k1 k2 kk
          go_wp2_with fail
          refine NoPanic.normal ?_
          have g6 := grows_alloc w5 (.cells #[Value.int .u8 (97 + (k : Int))] 5)
          have L6 : Lies (w5.alloc (.cells #[Value.int .u8 (97 + (k : Int))] 5)) (w5.alloc (.cells #[Value.int .u8 (97 + (k : Int))] 5)).heap.size (some ⟨w5.heap.size, 0, none⟩) ([nb1].map bv) := by rw [World.size_alloc, HBV.out]; exact Lies.new w5 5 [Value.int .u8 (97 + (k : Int))]
          have c6 := run_string_of _ 35 5 Try.underlying35 Try.underlying5 9 Try.underlying9 _ (some ⟨w5.heap.size, 0, none⟩) 1 1 [nb1] rfl L6
          have G6 := Grows.trans g3 (Grows.trans g5 g6)
          have W6 := WR _ Ao co (d.later G6) (Nat.lt_of_lt_of_le hgw G6.size) (Lo.later (Grows.trans g5 g6))
          go_wp2_with fail
          refine W6.mono ?_
          rintro e w7 ⟨rfl, d7, t7⟩
          have hb7 := (hb3.later (Grows.trans g5 g6)).turned t7 (fun e => e.2 rfl)
          have T7 := (T.trans (Turns.of_grows (S := fun q => m ≤ q) G6)).trans (t7.mono fun q _ e => e.1)
          have ck7 := t7.cell (hcell_later hck G6) (show ¬ (m ≤ g ∧ ¬ g = g) from fun e => e.2 rfl)
          have fk7 := hb7.free k
          go_wp2_with fail
          have d8 := d7.turned (Turns.of_set (S := fun q => q = g) (b := g) (o := k) w7 (rv (x.length : Nat)) rfl) (fun q e h => h.2 e)
          have hb8 := hb7.set_ (k := k) (by simp; omega) (rv (x.length : Nat))
          rw [HSET.out] at hb8
          have T8 := T7.trans (Turns.of_set (S := fun q => m ≤ q) (b := g) (o := k) w7 (rv (x.length : Nat)) hmm)
          generalize w7.setCell ⟨g, k, none⟩ (rv (x.length : Nat)) = w8 at *
          have e0 := hb8.cell (k := 0) rfl
          have e1 := hb8.cell (k := 1) rfl
          have e2 := hb8.cell (k := 2) rfl
          obtain ⟨z0, hz0⟩ : ∃ y, y = f' 0 := ⟨_, rfl⟩
          obtain ⟨z1, hz1⟩ : ∃ y, y = f' 1 := ⟨_, rfl⟩
          obtain ⟨z2, hz2⟩ : ∃ y, y = f' 2 := ⟨_, rfl⟩
          have hzz : z0 + z1 + z2 ≤ 60 := by have := HLE.out; omega
          have p1 : IntKind.i64.wrap ((z0 : Int) + (z1 : Int)) = (z0 : Int) + (z1 : Int) := IntWalk.i64_in _ ⟨by omega, by omega⟩
          have p2 : IntKind.i64.wrap ((z0 : Int) + (z1 : Int) + (z2 : Int)) = (z0 : Int) + (z1 : Int) + (z2 : Int) := IntWalk.i64_in _ ⟨by omega, by omega⟩
          have p3 : (fUsed D'.seen : Int) = (z0 : Int) + (z1 : Int) + (z2 : Int) := by have := HSU.out; omega
          have US : Hid (∀ u, Grows w8.drew u → Calls Try.prog 24 #[.pointer (some ⟨a, 0, none⟩)] u fun e w' => e = .returned (.int .i64 ((z0 : Int) + (z1 : Int) + (z2 : Int))) ∧ Grows u w') := fun u h => by rw [← p3]; exact U17 u (d8.later (Grows.trans (Grows.refl w8).drew h))
          have k0 : ∀ u, Grows w8.drew u → u.cell? ⟨g, 0, none⟩ = some (rv (z0 : Nat)) := fun u h => by rw [hz0]; exact hcell_later e0 (Grows.trans (Grows.refl w8).drew h)
          have k1 : ∀ u, Grows w8.drew u → u.cell? ⟨g, 1, none⟩ = some (rv (z1 : Nat)) := fun u h => by rw [hz1]; exact hcell_later e1 (Grows.trans (Grows.refl w8).drew h)
          have k2 : ∀ u, Grows w8.drew u → u.cell? ⟨g, 2, none⟩ = some (rv (z2 : Nat)) := fun u h => by rw [hz2]; exact hcell_later e2 (Grows.trans (Grows.refl w8).drew h)
          clear hz0 hz1 hz2 p3 e0 e1 e2 v1 v2 v3 v4
          have hO := Grows.refl w8.drew
          refine wp_region_ord 14 [(0, true), (1, true), (2, true), (3, true), (4, true), (5, true), (6, true), (7, true), (8, true), (9, true), (10, true), (11, true), (12, true), (13, true)] (by kernel_rfl) (by kernel_rfl) ?_
          repeat (first | (refine ord_take hO _ ?_ (by simp only [List.getElem?_cons_succ, List.getElem?_cons_zero]; rfl) (by rfl) ?_ ?_; rotate_left; (· (intro u hu0 hu; (try go_simp); (try with_reducible rfl))); try simp only [Act.put, List.setIfInBounds_toArray, List.set_cons_zero, List.set_cons_succ]) | (refine ord_skip _ (by simp only [List.getElem?_cons_succ, List.getElem?_cons_zero]; rfl) (by rfl) ?_; try simp only [Act.put, List.setIfInBounds_toArray, List.set_cons_zero, List.set_cons_succ]) | (refine ord_call hO _ ?_ (by simp only [List.getElem?_cons_succ, List.getElem?_cons_zero]; rfl) (by rfl) ?_ ?_; rotate_left; (· (intro u hu0 hu; go_simp; (try refine quiet_enter ?_); (exact US.out u hu0))); try simp only [Act.put, List.setIfInBounds_toArray, List.set_cons_zero, List.set_cons_succ]))
          refine ord_done (fun w9 hu => ?_)
          simp only [List.drop_succ_cons, List.drop_zero]
          have g9 : Grows w8 w9 := Grows.trans (Grows.refl w8).drew hu
          clear hO hu k0 k1 k2 US
          go_wp2_with fail
          refine NoPanic.normal ?_
          go_wp2_with fail
          go_roundw
          case rel => exact ⟨j + 1, f', D', by omega, by omega, by go_num, PN, hb8.later g9, d8.later g9, T8.trans (Turns.of_grows g9)⟩
          case measure => simp [intOf]; omega
      · have hj0 : j = 12 := by omega
        subst hj0
        clear hR hO
        obtain ⟨r, hr⟩ : ∃ r, r = wrap64 (-room) := ⟨_, rfl⟩
        by_cases h1 : 1 ≤ r
        · by_cases h2 : r ≤ 1048576
          · have NN := new_d r wr ⟨h1, h2⟩
            have e1 : decide (wrap64 (-room) ≥ 1) = true := by rw [← hr]; simpa using h1
            have e2 : decide (wrap64 (-room) ≤ 1048576) = true := by rw [← hr]; simpa using h2
            rw [hr] at NN
            have LV := lives12_any
            go_wp2_with fail
            refine NN.mono ?_
            rintro e w5 ⟨a5, rfl, d5, g5⟩
            go_wp2_with fail
            refine (LV _).mono ?_
            rintro e w6 ⟨rfl, g6⟩
            go_wp2_with fail
            go_ret
            refine ⟨rfl, ?_⟩
            exact Grows.trans G (Grows.trans g5 g6)
          · have NN := new_no r wr (fun h => h2 h.2)
            have e1 : decide (wrap64 (-room) ≥ 1) = true := by rw [← hr]; simpa using h1
            have e2 : decide (wrap64 (-room) ≤ 1048576) = false := by rw [← hr]; simpa using h2
            rw [hr] at NN
            have LV := lives12_any
            go_wp2_with fail
            refine NN.mono ?_
            rintro e w5 ⟨rfl, g5⟩
            go_wp2_with fail
            refine (LV _).mono ?_
            rintro e w6 ⟨rfl, g6⟩
            go_wp2_with fail
            go_ret
            refine ⟨rfl, ?_⟩
            exact Grows.trans G (Grows.trans g5 g6)
        · have NN := new_no r wr (fun h => h1 h.1)
          have e1 : decide (wrap64 (-room) ≥ 1) = false := by rw [← hr]; simpa using h1
          rw [hr] at NN
          have LV := lives12_any
          go_wp2_with fail
          refine NN.mono ?_
          rintro e w5 ⟨rfl, g5⟩
          go_wp2_with fail
          refine (LV _).mono ?_
          rintro e w6 ⟨rfl, g6⟩
          go_wp2_with fail
          go_ret
          refine ⟨rfl, ?_⟩
          exact Grows.trans G (Grows.trans g5 g6)
    · have hj0 : j = n := by omega
      subst hj0
      clear hR hO
      obtain ⟨r, hr⟩ : ∃ r, r = wrap64 (-room) := ⟨_, rfl⟩
      by_cases h1 : 1 ≤ r
      · by_cases h2 : r ≤ 1048576
        · have NN := new_d r wr ⟨h1, h2⟩
          have e1 : decide (wrap64 (-room) ≥ 1) = true := by rw [← hr]; simpa using h1
          have e2 : decide (wrap64 (-room) ≤ 1048576) = true := by rw [← hr]; simpa using h2
          rw [hr] at NN
          have LV := lives12_any
          go_wp2_with fail
          refine NN.mono ?_
          rintro e w5 ⟨a5, rfl, d5, g5⟩
          go_wp2_with fail
          refine (LV _).mono ?_
          rintro e w6 ⟨rfl, g6⟩
          go_wp2_with fail
          go_ret
          refine ⟨rfl, ?_⟩
          exact Grows.trans G (Grows.trans g5 g6)
        · have NN := new_no r wr (fun h => h2 h.2)
          have e1 : decide (wrap64 (-room) ≥ 1) = true := by rw [← hr]; simpa using h1
          have e2 : decide (wrap64 (-room) ≤ 1048576) = false := by rw [← hr]; simpa using h2
          rw [hr] at NN
          have LV := lives12_any
          go_wp2_with fail
          refine NN.mono ?_
          rintro e w5 ⟨rfl, g5⟩
          go_wp2_with fail
          refine (LV _).mono ?_
          rintro e w6 ⟨rfl, g6⟩
          go_wp2_with fail
          go_ret
          refine ⟨rfl, ?_⟩
          exact Grows.trans G (Grows.trans g5 g6)
      · have NN := new_no r wr (fun h => h1 h.1)
        have e1 : decide (wrap64 (-room) ≥ 1) = false := by rw [← hr]; simpa using h1
        rw [hr] at NN
        have LV := lives12_any
        go_wp2_with fail
        refine NN.mono ?_
        rintro e w5 ⟨rfl, g5⟩
        go_wp2_with fail
        refine (LV _).mono ?_
        rintro e w6 ⟨rfl, g6⟩
        go_wp2_with fail
        go_ret
        refine ⟨rfl, ?_⟩
        exact Grows.trans G (Grows.trans g5 g6)
theorem room_open {fs : Array Field} (hfs : Try.prog.underlying 38 = some (.struct fs)) {w : World} {r : List Value} (h : ∀ (j : Nat) (f : Field), fs[j]? = some f → ∃ v, r[j]? = some v ∧ FieldIs Try.prog w f.type v) : RoomO w r := by
  have e := hfs.symm.trans Try.underlying38
  injection e with e
  injection e with e
  subst e
  obtain ⟨v1, h1, f1⟩ := h 1 _ rfl
  obtain ⟨v4, h4, f4⟩ := h 4 _ rfl
  obtain ⟨z, rfl, hz⟩ := f1.1 .i64 Try.underlying3
  obtain ⟨A, n, c, bs, rfl, q1, q2, q3, q4⟩ := f4.2.2 5 Try.underlying35 Try.underlying5 (by kernel_rfl)
  have hb : -9223372036854775808 ≤ z ∧ z ≤ 9223372036854775807 := by
    simp [Lit.wf, IntKind.min, IntKind.max, IntKind.signed, IntKind.bits] at hz
    omega
  exact ⟨⟨z, h1, hb⟩, A, n, c, bs, h4, q1, q2, q3, q4⟩
end Go.Proofs.Ytfcijeogkgbejaa
