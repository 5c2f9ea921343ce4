/-
  Contracts of lz's alike, longest and Match.
-/
import Derived.Test.YthnjbmaiebiehaaRows
import Derived.Test.YthnjbmaiebiehaaMak
import Derived.Test.YthnjbmaiebiehaaCut2
import Derived.Test.YthnjbmaiebiehaaLzN
import Derived.Test.YthnjbmaiebiehaaRFew
import Derived.Laws.BitsAllLaws
import Derived.Outline
import Derived.Lib.Hide
import Derived.BigQuiet
namespace Go.Proofs.Ythnjbmaiebiehaa
open Go.RowKit
set_option linter.unusedVariables false

theorem ret_i64 {a b : Int} (h : a = b) : Ending.returned (.int .i64 a) = .returned (.int .i64 b) := by rw [h]
/-- An int as a value. -/
abbrev iv (n : Nat) : Value := .int .i64 (n : Int)
theorem iv_one (l : List Nat) : ∀ u ∈ l.map iv, u.oneCell' = true := fun u hu => by
  obtain ⟨b, _, rfl⟩ := List.mem_map.1 hu
  rfl
theorem int_info : (Try.prog.info? 3).map (fun i => (i.zero, i.size, i.bytes)) = some (some (.int .i64 0), 1, 8) := by kernel_rfl

set_option maxRecDepth 20000 in
set_option maxHeartbeats 1000000 in
theorem alike_any (A : Option Addr) (n c i d : Nat) (bs : List UInt8) (w : World) (hl : bs.length = n) (hr : Lies w w.heap.size A (bs.map bv)) (hi : i < n) (hd1 : 1 ≤ d) (hd : d ≤ i) (hn : n ≤ 1000000000000) :
    Calls Try.prog 49 #[.slice A n c, .int .i64 (i : Int), .int .i64 (d : Int)] w fun e w' => e = .returned (.int .i64 (mlen bs i d : Int)) ∧ Grows w w' := by
  have HL := Lib.hid hl
  have HM : Hid (mgo bs i d (131 - 0) 0 = mlen bs i d) := rfl
  clear hl
  generalize mlen bs i d = want at *
  obtain ⟨most, hmost⟩ : ∃ most, most = min 131 (n - i) := ⟨_, rfl⟩
  have hmi : min (131 : Int) ((n : Int) - (i : Int)) = (most : Int) := by omega
  go_enter Try.func49, Try.ntmps49
  by_cases h131 : (131 : Int) ≤ (n : Int) - (i : Int)
  all_goals
    go_wp2
    go_loopw [8] (fun q wr => ∃ k : Nat, q = .int .i64 k ∧ k ≤ most ∧ Hid (mgo bs i d (131 - k) k = want) ∧ Grows w wr) (fun q _ => 131 - (intOf q).toNat)
    case atStart => exact ⟨0, rfl, by omega, HM.out, Grows.refl _⟩
    case round =>
      obtain ⟨k, rfl, hk, HK, hgr⟩ := hrel
      by_cases hlt : k < most
      · obtain ⟨x, hx⟩ : ∃ x, bs[i + k]? = some x := ⟨_, List.getElem?_eq_getElem (by rw [HL.out]; omega)⟩
        obtain ⟨y, hy⟩ : ∃ y, bs[i + k - d]? = some y := ⟨_, List.getElem?_eq_getElem (by rw [HL.out]; omega)⟩
        obtain ⟨ad, eA, _, cx⟩ := (hr.later hgr).at_ (j := i + k) (u := bv x) (by rw [List.getElem?_map, hx]; rfl)
        obtain ⟨ad', eA', _, cy⟩ := (hr.later hgr).at_ (j := i + k - d) (u := bv y) (by rw [List.getElem?_map, hy]; rfl)
        obtain rfl : ad = ad' := by rw [eA] at eA'; injection eA'
        subst eA
        have k0 : (0 : Int) ≤ (i : Int) + (k : Int) := by omega
        have k1 : (i : Int) + (k : Int) < (n : Int) := by omega
        have k2 : (0 : Int) ≤ (i : Int) + (k : Int) - (d : Int) := by omega
        have k3 : (i : Int) + (k : Int) - (d : Int) < (n : Int) := by omega
        have t1 : ((i : Int) + (k : Int)).toNat = i + k := by omega
        have t2 : ((i : Int) + (k : Int) - (d : Int)).toNat = i + k - d := by omega
        have l1 : (k : Int) < 131 := by omega
        have l2 : (k : Int) < (n : Int) - (i : Int) := by omega
        by_cases hxy : x = y
        · have hb : ((x.toNat : Int) == (y.toNat : Int)) = true := by simp [hxy]
          have HS : Hid (mgo bs i d (131 - (k + 1)) (k + 1) = want) := by
            show _ = _
            rw [← mgo_go (by omega) (by rw [HL.out]; omega) (by rw [hx, hy, hxy])]; exact HK.out
          clear hx hy HK hxy
          go_wp2
          go_quiet (fail)
          go_wp2
          go_roundw
          case rel => exact ⟨k + 1, by go_num, by omega, HS.out, below_draws hgr⟩
          case measure => simp [intOf]; omega
        · have hb : ((x.toNat : Int) == (y.toNat : Int)) = false := by
            rw [beq_eq_false_iff_ne]
            intro e; exact hxy (UInt8.toNat_inj.1 (by omega))
          have HS : Hid (k = want) := by
            show _ = _
            rw [← HK.out, mgo_end (fun h => by have := h.2.2; rw [hx, hy] at this; injection this with this; exact hxy this)]
          clear hx hy HK hxy
          go_wp2
          go_quiet (fail)
          go_wp2
          go_ret
          exact ⟨ret_i64 (by rw [← HS.out]), below_draws hgr⟩
      · have HS : Hid (k = want) := by
          show _ = _
          rw [← HK.out, mgo_end (fun h => by have h1 := h.1; have h2 := h.2.1; rw [HL.out] at h2; omega)]
        first
          | (have l1 : decide ((k : Int) < 131) = false := by rw [decide_eq_false_iff_not]; omega
             go_wp2
             go_quiet (fail)
             go_wp2
             go_ret
             exact ⟨ret_i64 (by rw [← HS.out]), below_draws hgr⟩)
          | (have l1 : decide ((k : Int) < (n : Int) - (i : Int)) = false := by rw [decide_eq_false_iff_not]; omega
             go_wp2
             go_quiet (fail)
             go_wp2
             go_ret
             exact ⟨ret_i64 (by rw [← HS.out]), below_draws hgr⟩)

set_option maxRecDepth 20000 in
set_option maxHeartbeats 1000000 in
theorem longest_any (A : Option Addr) (n c i : Nat) (bs : List UInt8) (A2 : Option Addr) (m c2 : Nat) (js : List Nat) (w : World) (hl : bs.length = n) (hr : Lies w w.heap.size A (bs.map bv)) (hj : js.length = m) (hr2 : Lies w w.heap.size A2 (js.map iv))
    (hlt : ∀ j ∈ js, j < i) (hi : i < n) (hn : n ≤ 1000000000000) (hm : m ≤ 1000000000000) :
    Calls Try.prog 36 #[.slice A n c, .int .i64 (i : Int), .slice A2 m c2] w fun e w' => e = .returned (.tuple #[iv (lgo bs i js).1, iv (lgo bs i js).2]) ∧ Grows w w' := by
  have HL := Lib.hid hl
  have HJ := Lib.hid hj
  have HT := Lib.hid hlt
  have HA := Lib.hid (fun (d : Nat) (hd1 : 1 ≤ d) (hd : d ≤ i) (u : World) (hu : Lies u u.heap.size A (bs.map bv)) => alike_any A n c i d bs u hl hu hi hd1 hd hn)
  have HQ : Hid ((0, 0) = lgo bs i (js.drop m)) := by show _ = _; rw [List.drop_eq_nil_of_le (by omega)]; rfl
  clear hl hj hlt
  go_enter Try.func36, Try.ntmps36
  go_wp2
  go_loopw [8, 9, 10, 11, 12] (fun a b q _ _ wr => ∃ (x y k : Nat), a = iv x ∧ b = iv y ∧ q = .int .i64 ((k : Int) - 1) ∧ k ≤ m ∧ Hid ((x, y) = lgo bs i (js.drop k)) ∧ Grows w wr) (fun _ _ q _ _ _ => (intOf q + 1).toNat)
  case atStart => exact ⟨0, 0, m, rfl, rfl, rfl, Nat.le_refl _, HQ.out, Grows.refl _⟩
  case round =>
    obtain ⟨x, y, k, rfl, rfl, rfl, hk, HK, hgr⟩ := hrel
    by_cases hk0 : k = 0
    · subst hk0
      have HX : Hid (lgo bs i js = (x, y)) := HK.out.symm
      clear HK
      go_wp2
      go_ret2
      rw [HX.out]
      exact ⟨rfl, hgr⟩
    · obtain ⟨j0, rfl⟩ : ∃ j0, k = j0 + 1 := ⟨k - 1, by omega⟩
      rw [show ((j0 + 1 : Nat) : Int) - 1 = (j0 : Int) by omega]
      by_cases hx : x < 131
      · obtain ⟨j, hjj⟩ : ∃ j, js[j0]? = some j := ⟨_, List.getElem?_eq_getElem (by rw [HJ.out]; omega)⟩
        have hji := HT.out j (List.mem_of_getElem? hjj)
        obtain ⟨ad, rfl, _, cx⟩ := (hr2.later hgr).at_ (j := j0) (u := iv j) (by rw [List.getElem?_map, hjj]; rfl)
        have HD := Lib.hid (lgo_drop (b := bs) (i := i) hjj)
        clear hjj
        have j1 : (j0 : Int) < (m : Int) := by omega
        obtain ⟨d, hd⟩ : ∃ d, d = i - j := ⟨_, rfl⟩
        have hd' : (i : Int) - (j : Int) = (d : Int) := by omega
        have hdd : 1 ≤ d ∧ d ≤ i := by omega
        have HDD := Lib.hid hd
        clear hd
        go_wp2_with fail
        refine (HA.out d hdd.1 hdd.2 _ (hr.later hgr)).mono ?_
        rintro e w2 ⟨rfl, hg2⟩
        have hg12 := Grows.trans hgr hg2
        rw [← HDD.out, ← HK.out] at HD
        have hml := mlen_le bs i d
        unfold bstep at HD
        generalize mlen bs i d = q at *
        clear hg2 cx hd'
        by_cases hq : 4 ≤ q
        · by_cases hq2 : x < q
          · have HN : Hid ((q, d) = lgo bs i (js.drop j0)) := by show _ = _; rw [HD.out, if_pos ⟨hq, hq2⟩]
            clear HD HK
            go_wp2_with fail
            go_roundw
            case rel => exact ⟨q, d, j0, rfl, rfl, by go_num, by omega, HN.out, hg12⟩
            case measure => simp [intOf]
          · have HN : Hid ((x, y) = lgo bs i (js.drop j0)) := by show _ = _; rw [HD.out, if_neg (by simp only []; omega)]
            clear HD HK
            go_wp2_with fail
            go_roundw
            case rel => exact ⟨x, y, j0, rfl, rfl, by go_num, by omega, HN.out, hg12⟩
            case measure => simp [intOf]
        · have HN : Hid ((x, y) = lgo bs i (js.drop j0)) := by show _ = _; rw [HD.out, if_neg (by omega)]
          clear HD HK
          go_wp2_with fail
          go_roundw
          case rel => exact ⟨x, y, j0, rfl, rfl, by go_num, by omega, HN.out, hg12⟩
          case measure => simp [intOf]
      · have HX : Hid (lgo bs i js = (x, y)) := by
          show _ = _
          rw [HK.out]
          exact lgo_full (j0 + 1) (by rw [← HK.out]; exact hx)
        clear HK
        go_wp2
        go_ret2
        rw [HX.out]
        exact ⟨rfl, hgr⟩
end Go.Proofs.Ythnjbmaiebiehaa
