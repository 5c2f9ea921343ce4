/-
  The walk of DiskPower.
-/
import Derived.Test.YtfcijeogkgbejaaJ4
import Derived.Test.YtfcijeogkgbejaaJ1
namespace Go.Proofs.Ytfcijeogkgbejaa
open Go.RowKit
set_option linter.unusedVariables false
set_option maxRecDepth 20000

abbrev noneB : Byts := [110, 111, 110, 101]
/-- The disk behind j writes, of power k. -/
def dpw (k : Nat) : Nat → Dk
  | 0 => { newD 100 with power := (k : Int) }
  | j + 1 => (writeD (dpw k j) [97] [UInt8.ofNat j]).1
structure Dpw (k j : Nat) (D : Dk) : Prop where
  pow : D.power = ((k - j : Nat) : Int)
  wts : D.waits.length = min j k
  room : D.room = 100
  lasts : D.lasts = []
  weight : D.weight ≤ j
  seen : D.seen = [] ∨ ∃ b, D.seen = [([97], [b])]
theorem dpw_zero (k : Nat) : Dpw k 0 (dpw k 0) := ⟨by simp [dpw], by simp [dpw, newD], rfl, rfl, by simp [dpw, newD, Dk.weight, fUsed, dataSum], .inl rfl⟩
theorem dpw_write {k j : Nat} {D : Dk} (h : Dpw k j D) (b : UInt8) : (writeD D [97] [b]).2 = (if j < k then 0 else 6) ∧ Dpw k (j + 1) (writeD D [97] [b]).1 := by
  have hn : namedB [97] = true := by decide
  unfold writeD
  rw [if_neg (by rw [hn]; simp)]
  by_cases hjk : j < k
  · rw [if_neg (by rw [h.pow]; omega)]
    have hu : fUsed D.seen ≤ 1 := by
      rcases h.seen with e | ⟨c, e⟩ <;> rw [e] <;> simp [fUsed]
    rw [if_neg (by rw [h.room]; simp; omega), if_pos hjk]
    refine ⟨rfl, ?_, ?_, h.room, h.lasts, ?_, ?_⟩
    · show (if 0 < D.power then D.power - 1 else D.power) = _
      rw [if_pos (by rw [h.pow]; omega), h.pow]; omega
    · show (D.waits ++ [Chg.wr [97] [b]]).length = _
      rw [List.length_append, h.wts]; simp; omega
    · rw [weight_do]
      have := h.weight
      simp [Chg.data]; omega
    · refine .inr ⟨b, ?_⟩
      show fPut D.seen [97] [b] = _
      rcases h.seen with e | ⟨c, e⟩ <;> rw [e] <;> rfl
  · rw [if_pos (by rw [h.pow]; omega), if_neg hjk]
    refine ⟨rfl, by rw [h.pow]; omega, by rw [h.wts]; omega, h.room, h.lasts, by have := h.weight; show D.weight ≤ _; omega, h.seen⟩
theorem dpw_read {k j : Nat} {D : Dk} (h : Dpw k j D) : readD D noneB = ([], if j < k then 4 else 6) := by
  unfold readD
  by_cases hjk : j < k
  · rw [if_neg (by rw [h.pow]; omega), if_pos hjk]
    rcases h.seen with e | ⟨c, e⟩ <;> rw [e] <;> rfl
  · rw [if_pos (by rw [h.pow]; omega), if_neg hjk]
theorem dpw_remove {k j : Nat} {D : Dk} (h : Dpw k j D) : removeD D noneB = (D, if j < k then 4 else 6) := by
  unfold removeD
  by_cases hjk : j < k
  · rw [if_neg (by rw [h.pow]; omega), if_pos hjk]
    rcases h.seen with e | ⟨c, e⟩ <;> rw [e] <;> rfl
  · rw [if_pos (by rw [h.pow]; omega), if_neg hjk]
theorem rst_none : ∀ (l : List Chg) (S : Fls), rstF l [] S = S
  | [], S => rfl
  | c :: r, S => by rw [rst_step]; exact rst_none r S
theorem dpw_restart {k j : Nat} {D : Dk} (h : Dpw k j D) : restartD D [] = newD 100 := by
  unfold restartD
  rw [rst_none, h.lasts, h.room]; rfl

set_option maxHeartbeats 4000000 in
theorem diskpower_walk (n many : Int) (w : World) (hn : -9223372036854775808 ≤ n ∧ n ≤ 9223372036854775807) (hm : -9223372036854775808 ≤ many ∧ many ≤ 9223372036854775807) :
    Calls Try.prog 6 #[rv n, rv many] w fun e w' => e = .returned (.bool true) ∧ Below w.heap.size w w' := by
  have R10 : ∀ u, Calls Try.prog 9 #[.int .i64 n, .int .i64 10] u fun e w' => e = .returned (.int .i64 (around n 10 : Int)) ∧ u = w' := fun u => around_any n 10 u hn (by omega)
  have R13 : ∀ u, Calls Try.prog 9 #[.int .i64 many, .int .i64 13] u fun e w' => e = .returned (.int .i64 (around many 13 : Int)) ∧ u = w' := fun u => around_any many 13 u hm (by omega)
  have hk := around_lt n (m := 10) (by omega)
  have hM := around_lt many (m := 13) (by omega)
  generalize around n 10 = k at *
  generalize around many 13 = M at *
  have N0 := new_d 100 w (by omega)
  obtain ⟨D0, hD0⟩ : ∃ D0, D0 = newD 100 := ⟨_, rfl⟩
  rw [← hD0] at N0
  have hD0p : ({ D0 with power := max (k : Int) (-1) } : Dk) = dpw k 0 := by rw [hD0]; show _ = ({ newD 100 with power := (k : Int) } : Dk); congr 1; omega
  have HD := Lib.hid hD0p
  have HD0 := Lib.hid hD0
  clear hD0 hD0p
  go_enter Try.func6, Try.ntmps6
  go_wp2_with fail
  refine N0.mono ?_
  rintro e w1 ⟨a, rfl, d1, g1⟩
  have hmm := g1.size
  generalize hme : w.heap.size = m at *
  have HM := Lib.hid hme
  clear hme
  go_wp2_with fail
  refine (R10 _).mono ?_
  rintro e w1 ⟨rfl, rfl⟩
  go_wp2_with fail
  refine (R13 _).mono ?_
  rintro e w1 ⟨rfl, rfl⟩
  have P1 := power_d a m _ _ w1 (k : Int) d1 (by omega)
  rw [HD.out] at P1
  go_wp2_with fail
  refine P1.mono ?_
  rintro e w2 ⟨rfl, d2, t2⟩
  go_wp2_with fail
  go_loopw [9] (fun i wr => ∃ (j : Nat) (D : Dk), j ≤ M ∧ i = .int .i64 (j : Int) ∧ Dpw k j D ∧ Dsk wr a m (fun _ => False) D ∧ Turns (fun q => m ≤ q) w wr) (fun i _ => M - (intOf i).toNat)
  case atStart => exact ⟨0, _, Nat.zero_le _, rfl, dpw_zero k, d2, (Turns.of_grows g1).trans (t2.mono fun q _ e => e.1)⟩
  case round =>
    obtain ⟨j, D, hj, rfl, P, d, T⟩ := hrel
    by_cases hlt : j < M
    · have hw1 := P.weight
      have hw2 := P.wts
      have U := up_d a m _ D wr d
      have R := read_d a m _ D wr noneB d (by omega)
      rw [dpw_read P] at R
      have X := fun (u : World) (hu : Grows wr u) => remove_d a m _ D u noneB (d.later hu) (fun _ e => e.elim) (by omega) (by omega) (by decide)
      rw [dpw_remove P] at X
      have W := dpw_write P (UInt8.ofNat j)
      have hpw := P.pow
      have Wr := fun (u : World) (A : Option Addr) (hu : Dsk u a m (fun _ => False) D) (hl : Lies u u.heap.size A ([UInt8.ofNat j].map bv)) => write_d a m _ D u [97] A 1 1 [UInt8.ofNat j] hu (fun _ e => e.elim) rfl hl (by omega) (by omega) (by rw [P.room]; omega)
      rw [W.1] at Wr
      generalize (writeD D [97] [UInt8.ofNat j]).1 = D' at *
      have HW := Lib.hid W.2
      have hbv : bv (UInt8.ofNat j) = .int .u8 (j : Int) := by
        show Value.int .u8 ((UInt8.ofNat j).toNat : Int) = _
        rw [UInt8.toNat_ofNat']; congr 1; omega
      simp only [List.map_cons, List.map_nil, hbv] at Wr
      clear W hw1 hw2
      by_cases hjk : j < k
      · have d1 : (!(decide (D.power = 0))) = true := by rw [hpw]; simp; omega
        rw [d1] at U
        rw [if_pos hjk] at R X Wr
        have c1 : decide ((j : Int) < (k : Int)) = true := by simpa using hjk
        have c2 : decide ((j : Int) ≥ (k : Int)) = false := by simpa using hjk
        have c3 : decide (j < k) = true := by simpa using hjk
        have c4 : decide (k ≤ j) = false := by simpa using hjk
        clear hpw hjk d1
        go_wp2_with fail
        refine U.mono ?_
        rintro e wr ⟨rfl, rfl⟩
        go_wp2_with fail
        refine R.mono ?_
        rintro e w3 ⟨u3, rfl, f3, g3⟩
        go_wp2_with fail
        refine (X _ g3).mono ?_
        rintro e w4 ⟨rfl, d4, t4⟩
        have g5 := grows_alloc w4 (.cells #[Value.int .u8 (j : Int)] 5)
        have L5 : Lies (w4.alloc (.cells #[Value.int .u8 (j : Int)] 5)) (w4.alloc (.cells #[Value.int .u8 (j : Int)] 5)).heap.size (some ⟨w4.heap.size, 0, none⟩) [Value.int .u8 (j : Int)] := by rw [World.size_alloc]; exact Lies.new w4 5 [Value.int .u8 (j : Int)]
        have W5 := Wr _ _ (d4.later g5) L5
        clear L5
        go_wp2_with fail
        refine W5.mono ?_
        rintro e w6 ⟨rfl, d6, t6⟩
        go_wp2_with fail
        go_roundw
        case rel => exact ⟨j + 1, D', by omega, by go_num, HW.out, d6, (((T.trans (Turns.of_grows g3)).trans (t4.mono fun q _ e => e.1)).trans (Turns.of_grows g5)).trans (t6.mono fun q _ e => e.1)⟩
        case measure => simp [intOf]; omega
      · have d1 : (!(decide (D.power = 0))) = false := by rw [hpw]; simp; omega
        rw [d1] at U
        rw [if_neg hjk] at R X Wr
        have c1 : decide ((j : Int) < (k : Int)) = false := by simpa using hjk
        have c2 : decide ((j : Int) ≥ (k : Int)) = true := by simpa using hjk
        have c3 : decide (j < k) = false := by simpa using hjk
        have c4 : decide (k ≤ j) = true := by simpa using hjk
        clear hpw hjk d1
        go_wp2_with fail
        refine U.mono ?_
        rintro e wr ⟨rfl, rfl⟩
        go_wp2_with fail
        refine R.mono ?_
        rintro e w3 ⟨u3, rfl, f3, g3⟩
        go_wp2_with fail
        refine (X _ g3).mono ?_
        rintro e w4 ⟨rfl, d4, t4⟩
        have g5 := grows_alloc w4 (.cells #[Value.int .u8 (j : Int)] 5)
        have L5 : Lies (w4.alloc (.cells #[Value.int .u8 (j : Int)] 5)) (w4.alloc (.cells #[Value.int .u8 (j : Int)] 5)).heap.size (some ⟨w4.heap.size, 0, none⟩) [Value.int .u8 (j : Int)] := by rw [World.size_alloc]; exact Lies.new w4 5 [Value.int .u8 (j : Int)]
        have W5 := Wr _ _ (d4.later g5) L5
        clear L5
        go_wp2_with fail
        refine W5.mono ?_
        rintro e w6 ⟨rfl, d6, t6⟩
        go_wp2_with fail
        go_roundw
        case rel => exact ⟨j + 1, D', by omega, by go_num, HW.out, d6, (((T.trans (Turns.of_grows g3)).trans (t4.mono fun q _ e => e.1)).trans (Turns.of_grows g5)).trans (t6.mono fun q _ e => e.1)⟩
        case measure => simp [intOf]; omega
    · obtain rfl : j = M := by omega
      have hw1 := P.weight
      have hw2 := P.wts
      have Wt := waits_d a m _ D wr d
      rw [hw2] at Wt
      have Rs := restart_d a m _ D wr none 0 0 [] d (fun _ e => e.elim) rfl (Nat.le_refl _) (fun j u hu => by simp at hu) (by omega) (by omega)
      rw [dpw_restart P, ← HD0.out] at Rs
      have q0 : D0.weight + 0 ≤ 100000000 ∧ D0.waits.length = 0 ∧ (0 ≤ D0.room ∧ D0.room ≤ 1048576) ∧ D0.seen = [] ∧ D0.power = -1 := by rw [HD0.out]; decide
      obtain ⟨q1, q2, q3, q4, q5⟩ := q0
      have Up := fun u (h : Dsk u a m (fun _ => False) D0) => up_d a m _ D0 u h
      have Wz := fun u (h : Dsk u a m (fun _ => False) D0) => waits_d a m _ D0 u h
      have Ls := fun u (h : Dsk u a m (fun _ => False) D0) => list_d a m _ D0 u [] h (by rw [q4]; decide)
      obtain ⟨D1, hD1⟩ : ∃ D1, D1 = (writeD D0 [97] []).1 := ⟨_, rfl⟩
      have Wl := fun u (h : Dsk u a m (fun _ => False) D0) => write_d a m _ D0 u [97] none 0 0 [] h (fun _ e => e.elim) rfl Lies.empty q1 (by omega) q3
      rw [← hD1] at Wl
      have s1 : (writeD D0 [97] []).2 = 0 := by rw [HD0.out]; rfl
      have s2 : preF D0.seen [] = [] := by rw [q4]; rfl
      rw [s1] at Wl
      rw [s2] at Ls
      rw [q5] at Up
      rw [q2] at Wz
      have LV := lives12_any
      clear q1 q2 q3 q4 q5 hD1 s1 s2 hw1 hw2
      have hmn : min (k : Int) (j : Int) = ((min j k : Nat) : Int) := by omega
      generalize min j k = z at *
      go_wp2_with fail
      refine Wt.mono ?_
      rintro e wr ⟨rfl, rfl⟩
      go_wp2_with fail
      refine Rs.mono ?_
      rintro e w3 ⟨rfl, d3, t3⟩
      go_wp2_with fail
      refine (Up _ d3).mono ?_
      rintro e w3 ⟨rfl, rfl⟩
      go_wp2_with fail
      refine (Wz _ d3).mono ?_
      rintro e w3 ⟨rfl, rfl⟩
      go_wp2_with fail
      refine (Ls _ d3).mono ?_
      rintro e w4 ⟨u4, rfl, h4, g4⟩
      obtain ⟨A4, c4, rfl, hc4⟩ := own_form h4
      go_wp2_with fail
      refine (Wl _ (d3.later g4)).mono ?_
      rintro e w5 ⟨rfl, d5, t5⟩
      go_wp2_with fail
      refine (LV _).mono ?_
      rintro e w6 ⟨rfl, g6⟩
      go_wp2_with fail
      go_ret
      refine ⟨rfl, ?_⟩
      have T2 : Turns (fun q => m ≤ q) w w6 := (((T.trans (t3.mono fun q _ e => e.1)).trans (Turns.of_grows g4)).trans (t5.mono fun q _ e => e.1)).trans (Turns.of_grows g6)
      have hHM := HM.out

      exact T2.grows fun q hq => by omega
end Go.Proofs.Ytfcijeogkgbejaa
