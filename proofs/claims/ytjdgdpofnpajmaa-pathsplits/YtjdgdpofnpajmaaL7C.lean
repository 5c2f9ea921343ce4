/-
  The walk of PathSplits.
-/
import Derived.Test.YtjdgdpofnpajmaaL7B
namespace Go.Proofs.Ytjdgdpofnpajmaa
open Go.RowKit
set_option linter.unusedVariables false

/-- What is told of a []string that came in. -/
theorem row_strs {w : World} {a : Option Addr} {len cap m : Nat} {Sx : Nat → ByteArray}
    (h : (a = none ∧ len = 0 ∧ cap = 0) ∨ ∃ x, a = some x ∧ len ≤ cap ∧ cap ≤ maxLen ∧ len ≤ m ∧ ∀ i, i < m → w.cell? (x.add i) = some (.string (Sx i)) ∧ (Sx i).size ≤ maxLen) :
    ∃ ls : List (List UInt8), ls.length = len ∧ Lies w w.heap.size a (ls.map tv) ∧ len ≤ cap ∧ cap ≤ maxLen := by
  rcases h with ⟨rfl, rfl, rfl⟩ | ⟨x, rfl, hl, hm, hmm, hc⟩
  · exact ⟨[], rfl, Lies.empty, Nat.le_refl _, Nat.zero_le _⟩
  · refine ⟨(List.range len).map fun i => (Sx i).data.toList, by simp, fun j u hu => ?_, hl, hm⟩
    rw [List.map_map, List.getElem?_map] at hu
    by_cases hj : j < len
    · rw [List.getElem?_range hj] at hu
      simp at hu
      have h1 := (hc j (by omega)).1
      refine ⟨x, rfl, ?_, ?_⟩
      · have := World.block_lt_of_cell? w _ h1
        rwa [add_block] at this
      · rw [h1, ← hu]
    · rw [List.getElem?_eq_none (by simpa using hj)] at hu
      simp at hu

/-- The first eight texts, each cut to thirty bytes. -/
def ownOf (ls : List (List UInt8)) : List (List UInt8) := (ls.take 8).map (List.take 30)
theorem ownOf_at {ls : List (List UInt8)} {k : Nat} {x : List UInt8} (h : ls[k]? = some x) (hk : k < 8) : (ownOf ls).take k ++ [x.take 30] = (ownOf ls).take (k + 1) := by
  have : (ownOf ls)[k]? = some (x.take 30) := by unfold ownOf; rw [List.getElem?_map, List.getElem?_take, if_pos hk, h]; rfl
  rw [take_at this]
theorem ownOf_join (ls : List (List UInt8)) : (joinOf (ownOf ls)).length ≤ 248 := by
  have h1 := join_len (m := 30) (ownOf ls) (fun x hx => by
    unfold ownOf at hx
    obtain ⟨y, _, rfl⟩ := List.mem_map.1 hx
    simp; omega)
  have h2 : (ownOf ls).length ≤ 8 := by unfold ownOf; simp; omega
  have h3 := Nat.mul_le_mul_right 31 h2
  omega
theorem own_whole {N : List (List UInt8)} {n k B : Nat} {v : Value} {u : World} (hN : N.length = min n 8) (hk : k = min n 8) (h : u.ownsRow B 9 1 v k ((N.take k).map tv)) : ∃ A' c', v = .slice A' k c' ∧ Texts u A' k c' N := by
  rw [List.take_of_length_le (by omega)] at h
  exact Texts.of_own (by omega) h
theorem three_at {α : Type} {x y z r : α} {k : Nat} (h : [x, y, z][k]? = some r) : r = x ∨ r = y ∨ r = z := by
  have := List.mem_of_getElem? h
  simpa using this

set_option maxHeartbeats 4000000 in
theorem pathsplits_walk (s : List UInt8) (A : Option Addr) (n c : Nat) (ls : List (List UInt8)) (A0 : Option Addr) (n0 c0 : Nat) (zs : List Int) (w : World)
    (hl : ls.length = n) (hr : Lies w w.heap.size A (ls.map tv)) (hc : n ≤ maxLen)
    (hl0 : zs.length = n0) (hr0 : Lies w w.heap.size A0 (zs.map zv)) (hc0 : n0 ≤ maxLen) (hz : ∀ z ∈ zs, -9223372036854775808 ≤ z ∧ z ≤ 9223372036854775807) :
    Calls Try.prog 4 #[tv s, .slice A n c, .slice A0 n0 c0] w fun e w' => e = .returned (.bool true) ∧ Grows w w' := by
  unfold maxLen at hc hc0
  obtain ⟨i0, hi0, hz0, hz1, hz2⟩ := info_parts str_info
  have LV := fun u => lives7 u
  have SH := fun x u => short_any x 30 u (by omega)
  have SS := fun u => short_any s 60 u (by omega)
  have hsl : (s.take 60).length ≤ 60 := by simp; omega
  obtain ⟨O, hO⟩ : ∃ O, O = ownOf ls := ⟨_, rfl⟩
  have hso : ∀ k x, ls[k]? = some x → k < 8 → O.take k ++ [x.take 30] = O.take (k + 1) := fun k z h1 h2 => by rw [hO]; exact ownOf_at h1 h2
  have hOl : O.length = min n 8 := by rw [hO]; unfold ownOf; simp [hl]; omega
  have hjo : (joinOf O).length ≤ 248 := by rw [hO]; exact ownOf_join ls
  obtain ⟨N, hN⟩ : ∃ N, N = namesOf zs 8 := ⟨_, rfl⟩
  have hst : ∀ k z, zs[k]? = some z → k < 8 → N.take k ++ [nameOf z] = N.take (k + 1) := fun k z h1 h2 => by rw [hN]; exact namesOf_at h1 h2
  have hNl : N.length = min n0 8 := by rw [hN]; unfold namesOf; simp [hl0]; omega
  have hjn : (joinOf N).length ≤ 200 := by rw [hN]; exact namesOf_join zs 8
  have JO : ∀ (A' : Option Addr) (n' c' : Nat) (u : World), n' ≤ 8 → Texts u A' n' c' O → Calls Try.prog 19 #[.slice A' n' c'] u fun e w' => e = .returned (tv (joinOf O)) ∧ Grows u w' := fun A' n' c' u h1 h2 => join_any A' n' c' O u h2 (by omega) (by omega)
  have JN : ∀ (A' : Option Addr) (n' c' : Nat) (u : World), n' ≤ 8 → Texts u A' n' c' N → Calls Try.prog 19 #[.slice A' n' c'] u fun e w' => e = .returned (tv (joinOf N)) ∧ Grows u w' := fun A' n' c' u h1 h2 => join_any A' n' c' N u h2 (by omega) (by omega)
  have RO : ∀ (A' : Option Addr) (n' c' : Nat) (u : World), Texts u A' n' c' O → Calls Try.prog 15 #[.slice A' n' c'] u fun e w' => e = .returned (tv (joinOf O)) ∧ Grows u w' := fun A' n' c' u h2 => rjoin_any A' n' c' O u h2 (by omega)
  have RN : ∀ (A' : Option Addr) (n' c' : Nat) (u : World), Texts u A' n' c' N → Calls Try.prog 15 #[.slice A' n' c'] u fun e w' => e = .returned (tv (joinOf N)) ∧ Grows u w' := fun A' n' c' u h2 => rjoin_any A' n' c' N u h2 (by omega)
  have SA : ∀ (x : List UInt8), (x = s.take 60 ∨ x = joinOf O ∨ x = joinOf N) → x.length ≤ 1000000 := fun x h => by rcases h with rfl | rfl | rfl <;> omega
  have HSO := Lib.hid hso
  have HOL := Lib.hid hOl
  have HST := Lib.hid hst
  have HNL := Lib.hid hNl
  have HL := Lib.hid hl
  have HL0 := Lib.hid hl0
  have HZ := Lib.hid hz
  clear hso hOl hst hNl hl hl0 hz hO hN hjo hjn hsl
  generalize joinOf O = J1 at *
  generalize joinOf N = J2 at *
  generalize s.take 60 = s' at *
  have e1 : ∀ t, binOp .eql t (tv J1) (tv J1) = (pure (.bool true) : Sem Value) := fun t => by rw [run_teq (P := Try.prog)]; simp
  have e2 : ∀ t, binOp .eql t (tv J2) (tv J2) = (pure (.bool true) : Sem Value) := fun t => by rw [run_teq (P := Try.prog)]; simp
  replace LV := Lib.hid LV
  replace SH := Lib.hid SH
  replace SS := Lib.hid SS
  replace JO := Lib.hid JO
  replace JN := Lib.hid JN
  replace RO := Lib.hid RO
  replace RN := Lib.hid RN
  replace SA := Lib.hid SA
  go_enter Try.func4, Try.ntmps4
  go_wp2
  go_loopw [7, 8] (fun v i wr => ∃ k : Nat, k ≤ n ∧ k ≤ 8 ∧ i = .int .i64 k ∧ wr.ownsRow w.heap.size 9 1 v k ((O.take k).map tv) ∧ Grows w wr) (fun _ i _ => n - (intOf i).toNat)
  case atStart => exact ⟨0, Nat.zero_le _, Nat.zero_le _, rfl, World.ownsRow_nil _ _ _ _, Grows.refl _⟩
  case round =>
    obtain ⟨k, k1, hk8, rfl, hown, hg⟩ := hrel
    by_cases hlt : k < n
    · by_cases hlt8 : k < 8
      · obtain ⟨y, hy⟩ : ∃ y, ls[k]? = some y := ⟨_, List.getElem?_eq_getElem (by rw [HL.out]; exact hlt)⟩
        obtain ⟨ad, rfl, _, cx⟩ := (hr.later hg).at_ (j := k) (u := tv y) (by rw [List.getElem?_map, hy]; rfl)
        have HS := Lib.hid (HSO.out k y hy hlt8)
        have NC := Lib.hid (SH.out y wr)
        obtain ⟨x, hx⟩ : ∃ x, x = y.take 30 := ⟨_, rfl⟩
        rw [← hx] at HS NC
        clear hy hx
        have q1 : (k : Int) < (n : Int) := by omega
        have q2 : (k : Int) < 8 := by omega
        go_wp2_with (first
          | (go_at_call 10; refine NC.out.mono ?_; rintro e w1 ⟨rfl, hg1⟩; have hnew := Lies.new w1 9 [tv x]; have hown1 := own_later hown hg1; have hgw := grow_trans hg hg1; have hwb := hgw.size)
          | (at_builtin; refine wpList_append_src _ rfl (.tmp 27) (.tmp 33) _ rfl w.heap.size 9 i0 _ 16 Try.underlying26 hi0 hz0 hz1 hz2 rfl u7 k _ rfl (hown1.alloc _) _ _ 1 1 [tv x] rfl rfl hnew (by simp [Value.oneCell']) (by unfold maxLen; omega) (by omega) (by rw [World.size_alloc]; omega) ?_; intro v' w' hown2 hg2 hat'))
        have hb3 : Below w.heap.size w w' := (hgw.alloc (by omega) _).grown hg2 (by rw [World.size_alloc]; omega) (own_ge hown1)
        rw [show [tv x] = [x].map tv from rfl, ← List.map_append, HS.out] at hown2
        go_roundw
        case rel => exact ⟨k + 1, by omega, by omega, by go_num, hown2, hb3⟩
        case measure => simp [intOf]; omega
      · have q1 : (k : Int) < (n : Int) := by omega
        have q2 : ¬ (k : Int) < 8 := by omega
        obtain ⟨A1, c1, rfl, to1⟩ := own_whole HOL.out (show k = min n 8 by omega) hown
        clear hown HSO
        rename World => wa
        go_wp2
        go_loopw [9, 10] (fun v i wr => ∃ k' : Nat, k' ≤ n0 ∧ k' ≤ 8 ∧ i = .int .i64 k' ∧ wr.ownsRow wa.heap.size 9 1 v k' ((N.take k').map tv) ∧ Grows wa wr) (fun _ i _ => n0 - (intOf i).toNat)
        case atStart => exact ⟨0, Nat.zero_le _, Nat.zero_le _, rfl, World.ownsRow_nil _ _ _ _, Grows.refl _⟩
        case round =>
          obtain ⟨k', k1', hk8', rfl, hown', hg'⟩ := hrel
          by_cases hlt' : k' < n0
          · by_cases hlt8' : k' < 8
            · obtain ⟨z, hzk⟩ : ∃ z, zs[k']? = some z := ⟨_, List.getElem?_eq_getElem (by rw [HL0.out]; exact hlt')⟩
              obtain ⟨ad, rfl, _, cx⟩ := ((hr0.later hg).later hg').at_ (j := k') (u := zv z) (by rw [List.getElem?_map, hzk]; rfl)
              have HS := Lib.hid (HST.out k' z hzk hlt8')
              have NC := Lib.hid (nameof_any z wr (HZ.out z (List.mem_of_getElem? hzk)))
              obtain ⟨x, hx⟩ : ∃ x, x = nameOf z := ⟨_, rfl⟩
              rw [← hx] at HS NC
              clear hzk hx
              have q1 : (k' : Int) < (n0 : Int) := by omega
              have q2 : (k' : Int) < 8 := by omega
              go_wp2_with (first
                | (go_at_call 14; refine NC.out.mono ?_; rintro e w1 ⟨rfl, hg1⟩; have hnew := Lies.new w1 9 [tv x]; have hown1 := own_later hown' hg1; have hgw := grow_trans hg' hg1; have hwb := hgw.size)
                | (at_builtin; refine wpList_append_src _ rfl (.tmp 45) (.tmp 51) _ rfl wa.heap.size 9 i0 _ 16 Try.underlying26 hi0 hz0 hz1 hz2 rfl u9 k' _ rfl (hown1.alloc _) _ _ 1 1 [tv x] rfl rfl hnew (by simp [Value.oneCell']) (by unfold maxLen; omega) (by omega) (by rw [World.size_alloc]; omega) ?_; intro v' w' hown2 hg2 hat'))
              have hb3 : Below wa.heap.size wa w' := (hgw.alloc (by omega) _).grown hg2 (by rw [World.size_alloc]; omega) (own_ge hown1)
              rw [show [tv x] = [x].map tv from rfl, ← List.map_append, HS.out] at hown2
              go_roundw
              case rel => exact ⟨k' + 1, by omega, by omega, by go_num, hown2, hb3⟩
              case measure => simp [intOf]; omega
            · have q1 : (k' : Int) < (n0 : Int) := by omega
              have q2 : ¬ (k' : Int) < 8 := by omega
              obtain ⟨A2, c2, rfl, tn⟩ := own_whole HNL.out (show k' = min n0 8 by omega) hown'
              clear hown'
              rename World => wb
              go_wp2_with (first
                | (go_at_call 10; refine (SS.out _).mono ?_; rintro e w3 ⟨rfl, hg3⟩; have to3 := (to1.later hg').later hg3; have tn3 := tn.later hg3)
                | (go_at_call 15; with_reducible refine (RO.out _ _ _ _ to3).mono ?_; rintro e w4 ⟨rfl, hg4⟩; have to4 := to3.later hg4; have tn4 := tn3.later hg4; clear to3)
                | (go_at_call 15; with_reducible refine (RN.out _ _ _ _ tn4).mono ?_; rintro e w5 ⟨rfl, hg5⟩; have to5 := to4.later hg5; have tn5 := tn4.later hg5))
              have hga := grows_alloc w5 (.cells #[tv s', tv J1, tv J2] 9)
              have ta : Texts (w5.alloc (.cells #[tv s', tv J1, tv J2] 9)) (some ⟨w5.heap.size, 0, none⟩) 3 3 [s', J1, J2] := ⟨rfl, Nat.le_refl _, by unfold maxLen; omega, by rw [World.size_alloc]; exact Lies.new w5 9 [tv s', tv J1, tv J2], .inr ⟨_, _, rfl⟩⟩
              have to6 := to5.later hga
              have tn6 := tn5.later hga
              have hg06 : Grows w (w5.alloc (.cells #[tv s', tv J1, tv J2] 9)) := grow_trans hg (grow_trans hg' (grow_trans hg3 (grow_trans hg4 (grow_trans hg5 hga))))
              clear hga hg hg' hg3 hg4 hg5 to1 tn tn3 to4 tn4 to5 tn5 RO RN SS SH
              change Code.wp _ _ _ _ (w5.alloc (.cells #[tv s', tv J1, tv J2] 9))
              generalize w5.alloc (.cells #[tv s', tv J1, tv J2] 9) = w6 at *
              generalize w5.heap.size = ba at *
              go_loopw [12] (fun i wr => ∃ j : Nat, j ≤ 3 ∧ i = .int .i64 j ∧ Grows w6 wr) (fun i _ => 3 - (intOf i).toNat)
              case atStart => exact ⟨0, by omega, rfl, Grows.refl _⟩
              case round =>
                obtain ⟨j, hj, rfl, hg7⟩ := hrel
                have ta7 := ta.later hg7
                have to7 := to6.later hg7
                have tn7 := tn6.later hg7
                have hg07 := grow_trans hg06 hg7
                by_cases hlt3 : j < 3
                · obtain ⟨ad, x, e, hx, cx⟩ := texts_at ta7 hlt3
                  injection e with e
                  subst e
                  rw [add_plain, Nat.zero_add] at cx
                  have cx8 : ∀ u, Grows wr u → u.cell? ⟨ba, j, none⟩ = some (tv x) := fun u h => hcell_later cx h
                  have lx := SA.out x (three_at hx)
                  have S1 := Lib.hid (fun u => split_any x u lx)
                  have S2 := Lib.hid (fun u => rsplit_any x u lx)
                  have HCX := Lib.hid cx8
                  obtain ⟨P, hP⟩ : ∃ P, P = (splitOf x).1 := ⟨_, rfl⟩
                  obtain ⟨er, her⟩ : ∃ er, er = (splitOf x).2 := ⟨_, rfl⟩
                  rw [← hP, ← her] at S1 S2
                  have q0 : (0 : Int) ≤ (j : Int) := Int.natCast_nonneg _
                  have q1 : (j : Int) < 3 := by omega
                  clear hP her lx hx cx8 ta7 to7 tn7
                  go_wp2_with (first
                    | (go_at_call 16; refine (S1.out _).mono ?_; rintro e w8 ⟨A8, c8, rfl, t8, hg8⟩; have cy := HCX.out _ hg8)
                    | (go_at_call 17; refine (S2.out _).mono ?_; rintro e w9 ⟨A9, c9, rfl, t9, hg9⟩; have SM := Lib.hid (same_any _ _ _ _ _ _ _ _ w9 (t8.later hg9) t9); rw [show (P == P) = true from by simp] at SM)
                    | (go_at_call 18; refine SM.out.mono ?_; rintro e w10 ⟨rfl, hg10⟩))
                  go_roundw
                  case rel => exact ⟨j + 1, by omega, by go_num, grow_trans hg7 (grow_trans hg8 (grow_trans hg9 hg10))⟩
                  case measure => simp [intOf]; omega
                · obtain rfl : j = 3 := by omega
                  clear hg7 ta to6 tn6 hg06
                  have d1 := texts_at ta7 (k := 1) (by omega)
                  have d2 := texts_at ta7 (k := 2) (by omega)
                  obtain ⟨ad, x, e, hx, cx1⟩ := d1
                  injection e with e
                  subst e
                  rw [add_plain, Nat.zero_add] at cx1
                  obtain rfl : J1 = x := Option.some.inj hx
                  obtain ⟨ad, x, e, hx2, cx2⟩ := d2
                  injection e with e
                  subst e
                  rw [add_plain, Nat.zero_add] at cx2
                  obtain rfl : J2 = x := Option.some.inj hx2
                  clear hx hx2 ta7
                  go_wp2_with fail
                  refine wp_region_ord 18 [(0, true), (1, true), (2, true), (3, true), (4, true), (5, true), (6, true), (7, true), (8, true), (9, true), (10, true), (11, true), (12, true), (13, true), (14, true), (15, true), (16, true), (17, true)] (by kernel_rfl) (by kernel_rfl) ?_
                  have hgd : Grows wr wr.drew := (Grows.refl wr).drew
                  have to8 := Lib.hid (to7.later hgd)
                  have tn8 := Lib.hid (tn7.later hgd)
                  have hO := Grows.refl wr.drew
                  have hg08 := grow_trans hg07 hgd
                  have cd1 := hcell_later cx1 hgd
                  have cd2 := hcell_later cx2 hgd
                  clear to7 tn7 hg07 hgd cx1 cx2
                  generalize wr.drew = wd at *
                  have ld1 : ∀ u, Grows wd u → u.cell? ⟨ba, 1, none⟩ = some (tv J1) := fun u h => hcell_later cd1 h
                  have ld2 : ∀ u, Grows wd u → u.cell? ⟨ba, 2, none⟩ = some (tv J2) := fun u h => hcell_later cd2 h
                  clear cd1 cd2
                  repeat (first | (refine ord_take hO _ ?_ (by simp only [List.getElem?_cons_succ, List.getElem?_cons_zero]; rfl) (by rfl) ?_ ?_; rotate_left; (· (intro u hu0 hu; (try go_simp); (try with_reducible rfl))); try simp only [Act.put, List.setIfInBounds_toArray, List.set_cons_zero, List.set_cons_succ]) | (refine ord_skip _ (by simp only [List.getElem?_cons_succ, List.getElem?_cons_zero]; rfl) (by rfl) ?_; try simp only [Act.put, List.setIfInBounds_toArray, List.set_cons_zero, List.set_cons_succ]) | (refine ord_call hO _ ?_ (by simp only [List.getElem?_cons_succ, List.getElem?_cons_zero]; rfl) (by rfl) ?_ ?_; rotate_left; (· (intro u hu0 hu; go_simp; (try refine quiet_enter ?_); (first | with_reducible exact JO.out _ _ _ u hk8 (to8.out.later hu0) | with_reducible exact JN.out _ _ _ u hk8' (tn8.out.later hu0) | with_reducible exact LV.out u))); try simp only [Act.put, List.setIfInBounds_toArray, List.set_cons_zero, List.set_cons_succ]))
                  clear hO ld1 ld2
                  (refine ord_done (fun u hu => ?_); simp only [List.drop_succ_cons, List.drop_zero])
                  have hfin := grow_trans hg08 hu
                  go_wp2_with fail
                  refine NoPanic.normal ?_
                  go_wp2_with fail
                  go_ret
                  exact ⟨rfl, hfin⟩
          · have q1 : ¬ (k' : Int) < (n0 : Int) := by omega
            obtain ⟨A2, c2, rfl, tn⟩ := own_whole HNL.out (show k' = min n0 8 by omega) hown'
            clear hown'
            rename World => wb
            go_wp2_with (first
              | (go_at_call 10; refine (SS.out _).mono ?_; rintro e w3 ⟨rfl, hg3⟩; have to3 := (to1.later hg').later hg3; have tn3 := tn.later hg3)
              | (go_at_call 15; with_reducible refine (RO.out _ _ _ _ to3).mono ?_; rintro e w4 ⟨rfl, hg4⟩; have to4 := to3.later hg4; have tn4 := tn3.later hg4; clear to3)
              | (go_at_call 15; with_reducible refine (RN.out _ _ _ _ tn4).mono ?_; rintro e w5 ⟨rfl, hg5⟩; have to5 := to4.later hg5; have tn5 := tn4.later hg5))
            have hga := grows_alloc w5 (.cells #[tv s', tv J1, tv J2] 9)
            have ta : Texts (w5.alloc (.cells #[tv s', tv J1, tv J2] 9)) (some ⟨w5.heap.size, 0, none⟩) 3 3 [s', J1, J2] := ⟨rfl, Nat.le_refl _, by unfold maxLen; omega, by rw [World.size_alloc]; exact Lies.new w5 9 [tv s', tv J1, tv J2], .inr ⟨_, _, rfl⟩⟩
            have to6 := to5.later hga
            have tn6 := tn5.later hga
            have hg06 : Grows w (w5.alloc (.cells #[tv s', tv J1, tv J2] 9)) := grow_trans hg (grow_trans hg' (grow_trans hg3 (grow_trans hg4 (grow_trans hg5 hga))))
            clear hga hg hg' hg3 hg4 hg5 to1 tn tn3 to4 tn4 to5 tn5 RO RN SS SH
            change Code.wp _ _ _ _ (w5.alloc (.cells #[tv s', tv J1, tv J2] 9))
            generalize w5.alloc (.cells #[tv s', tv J1, tv J2] 9) = w6 at *
            generalize w5.heap.size = ba at *
            go_loopw [12] (fun i wr => ∃ j : Nat, j ≤ 3 ∧ i = .int .i64 j ∧ Grows w6 wr) (fun i _ => 3 - (intOf i).toNat)
            case atStart => exact ⟨0, by omega, rfl, Grows.refl _⟩
            case round =>
              obtain ⟨j, hj, rfl, hg7⟩ := hrel
              have ta7 := ta.later hg7
              have to7 := to6.later hg7
              have tn7 := tn6.later hg7
              have hg07 := grow_trans hg06 hg7
              by_cases hlt3 : j < 3
              · obtain ⟨ad, x, e, hx, cx⟩ := texts_at ta7 hlt3
                injection e with e
                subst e
                rw [add_plain, Nat.zero_add] at cx
                have cx8 : ∀ u, Grows wr u → u.cell? ⟨ba, j, none⟩ = some (tv x) := fun u h => hcell_later cx h
                have lx := SA.out x (three_at hx)
                have S1 := Lib.hid (fun u => split_any x u lx)
                have S2 := Lib.hid (fun u => rsplit_any x u lx)
                have HCX := Lib.hid cx8
                obtain ⟨P, hP⟩ : ∃ P, P = (splitOf x).1 := ⟨_, rfl⟩
                obtain ⟨er, her⟩ : ∃ er, er = (splitOf x).2 := ⟨_, rfl⟩
                rw [← hP, ← her] at S1 S2
                have q0 : (0 : Int) ≤ (j : Int) := Int.natCast_nonneg _
                have q1 : (j : Int) < 3 := by omega
                clear hP her lx hx cx8 ta7 to7 tn7
                go_wp2_with (first
                  | (go_at_call 16; refine (S1.out _).mono ?_; rintro e w8 ⟨A8, c8, rfl, t8, hg8⟩; have cy := HCX.out _ hg8)
                  | (go_at_call 17; refine (S2.out _).mono ?_; rintro e w9 ⟨A9, c9, rfl, t9, hg9⟩; have SM := Lib.hid (same_any _ _ _ _ _ _ _ _ w9 (t8.later hg9) t9); rw [show (P == P) = true from by simp] at SM)
                  | (go_at_call 18; refine SM.out.mono ?_; rintro e w10 ⟨rfl, hg10⟩))
                go_roundw
                case rel => exact ⟨j + 1, by omega, by go_num, grow_trans hg7 (grow_trans hg8 (grow_trans hg9 hg10))⟩
                case measure => simp [intOf]; omega
              · obtain rfl : j = 3 := by omega
                clear hg7 ta to6 tn6 hg06
                have d1 := texts_at ta7 (k := 1) (by omega)
                have d2 := texts_at ta7 (k := 2) (by omega)
                obtain ⟨ad, x, e, hx, cx1⟩ := d1
                injection e with e
                subst e
                rw [add_plain, Nat.zero_add] at cx1
                obtain rfl : J1 = x := Option.some.inj hx
                obtain ⟨ad, x, e, hx2, cx2⟩ := d2
                injection e with e
                subst e
                rw [add_plain, Nat.zero_add] at cx2
                obtain rfl : J2 = x := Option.some.inj hx2
                clear hx hx2 ta7
                go_wp2_with fail
                refine wp_region_ord 18 [(0, true), (1, true), (2, true), (3, true), (4, true), (5, true), (6, true), (7, true), (8, true), (9, true), (10, true), (11, true), (12, true), (13, true), (14, true), (15, true), (16, true), (17, true)] (by kernel_rfl) (by kernel_rfl) ?_
                have hgd : Grows wr wr.drew := (Grows.refl wr).drew
                have to8 := Lib.hid (to7.later hgd)
                have tn8 := Lib.hid (tn7.later hgd)
                have hO := Grows.refl wr.drew
                have hg08 := grow_trans hg07 hgd
                have cd1 := hcell_later cx1 hgd
                have cd2 := hcell_later cx2 hgd
                clear to7 tn7 hg07 hgd cx1 cx2
                generalize wr.drew = wd at *
                have ld1 : ∀ u, Grows wd u → u.cell? ⟨ba, 1, none⟩ = some (tv J1) := fun u h => hcell_later cd1 h
                have ld2 : ∀ u, Grows wd u → u.cell? ⟨ba, 2, none⟩ = some (tv J2) := fun u h => hcell_later cd2 h
                clear cd1 cd2
                repeat (first | (refine ord_take hO _ ?_ (by simp only [List.getElem?_cons_succ, List.getElem?_cons_zero]; rfl) (by rfl) ?_ ?_; rotate_left; (· (intro u hu0 hu; (try go_simp); (try with_reducible rfl))); try simp only [Act.put, List.setIfInBounds_toArray, List.set_cons_zero, List.set_cons_succ]) | (refine ord_skip _ (by simp only [List.getElem?_cons_succ, List.getElem?_cons_zero]; rfl) (by rfl) ?_; try simp only [Act.put, List.setIfInBounds_toArray, List.set_cons_zero, List.set_cons_succ]) | (refine ord_call hO _ ?_ (by simp only [List.getElem?_cons_succ, List.getElem?_cons_zero]; rfl) (by rfl) ?_ ?_; rotate_left; (· (intro u hu0 hu; go_simp; (try refine quiet_enter ?_); (first | with_reducible exact JO.out _ _ _ u hk8 (to8.out.later hu0) | with_reducible exact JN.out _ _ _ u hk8' (tn8.out.later hu0) | with_reducible exact LV.out u))); try simp only [Act.put, List.setIfInBounds_toArray, List.set_cons_zero, List.set_cons_succ]))
                clear hO ld1 ld2
                (refine ord_done (fun u hu => ?_); simp only [List.drop_succ_cons, List.drop_zero])
                have hfin := grow_trans hg08 hu
                go_wp2_with fail
                refine NoPanic.normal ?_
                go_wp2_with fail
                go_ret
                exact ⟨rfl, hfin⟩
    · have q1 : ¬ (k : Int) < (n : Int) := by omega
      obtain ⟨A1, c1, rfl, to1⟩ := own_whole HOL.out (show k = min n 8 by omega) hown
      clear hown HSO
      rename World => wa
      go_wp2
      go_loopw [9, 10] (fun v i wr => ∃ k' : Nat, k' ≤ n0 ∧ k' ≤ 8 ∧ i = .int .i64 k' ∧ wr.ownsRow wa.heap.size 9 1 v k' ((N.take k').map tv) ∧ Grows wa wr) (fun _ i _ => n0 - (intOf i).toNat)
      case atStart => exact ⟨0, Nat.zero_le _, Nat.zero_le _, rfl, World.ownsRow_nil _ _ _ _, Grows.refl _⟩
      case round =>
        obtain ⟨k', k1', hk8', rfl, hown', hg'⟩ := hrel
        by_cases hlt' : k' < n0
        · by_cases hlt8' : k' < 8
          · obtain ⟨z, hzk⟩ : ∃ z, zs[k']? = some z := ⟨_, List.getElem?_eq_getElem (by rw [HL0.out]; exact hlt')⟩
            obtain ⟨ad, rfl, _, cx⟩ := ((hr0.later hg).later hg').at_ (j := k') (u := zv z) (by rw [List.getElem?_map, hzk]; rfl)
            have HS := Lib.hid (HST.out k' z hzk hlt8')
            have NC := Lib.hid (nameof_any z wr (HZ.out z (List.mem_of_getElem? hzk)))
            obtain ⟨x, hx⟩ : ∃ x, x = nameOf z := ⟨_, rfl⟩
            rw [← hx] at HS NC
            clear hzk hx
            have q1 : (k' : Int) < (n0 : Int) := by omega
            have q2 : (k' : Int) < 8 := by omega
            go_wp2_with (first
              | (go_at_call 14; refine NC.out.mono ?_; rintro e w1 ⟨rfl, hg1⟩; have hnew := Lies.new w1 9 [tv x]; have hown1 := own_later hown' hg1; have hgw := grow_trans hg' hg1; have hwb := hgw.size)
              | (at_builtin; refine wpList_append_src _ rfl (.tmp 45) (.tmp 51) _ rfl wa.heap.size 9 i0 _ 16 Try.underlying26 hi0 hz0 hz1 hz2 rfl u9 k' _ rfl (hown1.alloc _) _ _ 1 1 [tv x] rfl rfl hnew (by simp [Value.oneCell']) (by unfold maxLen; omega) (by omega) (by rw [World.size_alloc]; omega) ?_; intro v' w' hown2 hg2 hat'))
            have hb3 : Below wa.heap.size wa w' := (hgw.alloc (by omega) _).grown hg2 (by rw [World.size_alloc]; omega) (own_ge hown1)
            rw [show [tv x] = [x].map tv from rfl, ← List.map_append, HS.out] at hown2
            go_roundw
            case rel => exact ⟨k' + 1, by omega, by omega, by go_num, hown2, hb3⟩
            case measure => simp [intOf]; omega
          · have q1 : (k' : Int) < (n0 : Int) := by omega
            have q2 : ¬ (k' : Int) < 8 := by omega
            obtain ⟨A2, c2, rfl, tn⟩ := own_whole HNL.out (show k' = min n0 8 by omega) hown'
            clear hown'
            rename World => wb
            go_wp2_with (first
              | (go_at_call 10; refine (SS.out _).mono ?_; rintro e w3 ⟨rfl, hg3⟩; have to3 := (to1.later hg').later hg3; have tn3 := tn.later hg3)
              | (go_at_call 15; with_reducible refine (RO.out _ _ _ _ to3).mono ?_; rintro e w4 ⟨rfl, hg4⟩; have to4 := to3.later hg4; have tn4 := tn3.later hg4; clear to3)
              | (go_at_call 15; with_reducible refine (RN.out _ _ _ _ tn4).mono ?_; rintro e w5 ⟨rfl, hg5⟩; have to5 := to4.later hg5; have tn5 := tn4.later hg5))
            have hga := grows_alloc w5 (.cells #[tv s', tv J1, tv J2] 9)
            have ta : Texts (w5.alloc (.cells #[tv s', tv J1, tv J2] 9)) (some ⟨w5.heap.size, 0, none⟩) 3 3 [s', J1, J2] := ⟨rfl, Nat.le_refl _, by unfold maxLen; omega, by rw [World.size_alloc]; exact Lies.new w5 9 [tv s', tv J1, tv J2], .inr ⟨_, _, rfl⟩⟩
            have to6 := to5.later hga
            have tn6 := tn5.later hga
            have hg06 : Grows w (w5.alloc (.cells #[tv s', tv J1, tv J2] 9)) := grow_trans hg (grow_trans hg' (grow_trans hg3 (grow_trans hg4 (grow_trans hg5 hga))))
            clear hga hg hg' hg3 hg4 hg5 to1 tn tn3 to4 tn4 to5 tn5 RO RN SS SH
            change Code.wp _ _ _ _ (w5.alloc (.cells #[tv s', tv J1, tv J2] 9))
            generalize w5.alloc (.cells #[tv s', tv J1, tv J2] 9) = w6 at *
            generalize w5.heap.size = ba at *
            go_loopw [12] (fun i wr => ∃ j : Nat, j ≤ 3 ∧ i = .int .i64 j ∧ Grows w6 wr) (fun i _ => 3 - (intOf i).toNat)
            case atStart => exact ⟨0, by omega, rfl, Grows.refl _⟩
            case round =>
              obtain ⟨j, hj, rfl, hg7⟩ := hrel
              have ta7 := ta.later hg7
              have to7 := to6.later hg7
              have tn7 := tn6.later hg7
              have hg07 := grow_trans hg06 hg7
              by_cases hlt3 : j < 3
              · obtain ⟨ad, x, e, hx, cx⟩ := texts_at ta7 hlt3
                injection e with e
                subst e
                rw [add_plain, Nat.zero_add] at cx
                have cx8 : ∀ u, Grows wr u → u.cell? ⟨ba, j, none⟩ = some (tv x) := fun u h => hcell_later cx h
                have lx := SA.out x (three_at hx)
                have S1 := Lib.hid (fun u => split_any x u lx)
                have S2 := Lib.hid (fun u => rsplit_any x u lx)
                have HCX := Lib.hid cx8
                obtain ⟨P, hP⟩ : ∃ P, P = (splitOf x).1 := ⟨_, rfl⟩
                obtain ⟨er, her⟩ : ∃ er, er = (splitOf x).2 := ⟨_, rfl⟩
                rw [← hP, ← her] at S1 S2
                have q0 : (0 : Int) ≤ (j : Int) := Int.natCast_nonneg _
                have q1 : (j : Int) < 3 := by omega
                clear hP her lx hx cx8 ta7 to7 tn7
                go_wp2_with (first
                  | (go_at_call 16; refine (S1.out _).mono ?_; rintro e w8 ⟨A8, c8, rfl, t8, hg8⟩; have cy := HCX.out _ hg8)
                  | (go_at_call 17; refine (S2.out _).mono ?_; rintro e w9 ⟨A9, c9, rfl, t9, hg9⟩; have SM := Lib.hid (same_any _ _ _ _ _ _ _ _ w9 (t8.later hg9) t9); rw [show (P == P) = true from by simp] at SM)
                  | (go_at_call 18; refine SM.out.mono ?_; rintro e w10 ⟨rfl, hg10⟩))
                go_roundw
                case rel => exact ⟨j + 1, by omega, by go_num, grow_trans hg7 (grow_trans hg8 (grow_trans hg9 hg10))⟩
                case measure => simp [intOf]; omega
              · obtain rfl : j = 3 := by omega
                clear hg7 ta to6 tn6 hg06
                have d1 := texts_at ta7 (k := 1) (by omega)
                have d2 := texts_at ta7 (k := 2) (by omega)
                obtain ⟨ad, x, e, hx, cx1⟩ := d1
                injection e with e
                subst e
                rw [add_plain, Nat.zero_add] at cx1
                obtain rfl : J1 = x := Option.some.inj hx
                obtain ⟨ad, x, e, hx2, cx2⟩ := d2
                injection e with e
                subst e
                rw [add_plain, Nat.zero_add] at cx2
                obtain rfl : J2 = x := Option.some.inj hx2
                clear hx hx2 ta7
                go_wp2_with fail
                refine wp_region_ord 18 [(0, true), (1, true), (2, true), (3, true), (4, true), (5, true), (6, true), (7, true), (8, true), (9, true), (10, true), (11, true), (12, true), (13, true), (14, true), (15, true), (16, true), (17, true)] (by kernel_rfl) (by kernel_rfl) ?_
                have hgd : Grows wr wr.drew := (Grows.refl wr).drew
                have to8 := Lib.hid (to7.later hgd)
                have tn8 := Lib.hid (tn7.later hgd)
                have hO := Grows.refl wr.drew
                have hg08 := grow_trans hg07 hgd
                have cd1 := hcell_later cx1 hgd
                have cd2 := hcell_later cx2 hgd
                clear to7 tn7 hg07 hgd cx1 cx2
                generalize wr.drew = wd at *
                have ld1 : ∀ u, Grows wd u → u.cell? ⟨ba, 1, none⟩ = some (tv J1) := fun u h => hcell_later cd1 h
                have ld2 : ∀ u, Grows wd u → u.cell? ⟨ba, 2, none⟩ = some (tv J2) := fun u h => hcell_later cd2 h
                clear cd1 cd2
                repeat (first | (refine ord_take hO _ ?_ (by simp only [List.getElem?_cons_succ, List.getElem?_cons_zero]; rfl) (by rfl) ?_ ?_; rotate_left; (· (intro u hu0 hu; (try go_simp); (try with_reducible rfl))); try simp only [Act.put, List.setIfInBounds_toArray, List.set_cons_zero, List.set_cons_succ]) | (refine ord_skip _ (by simp only [List.getElem?_cons_succ, List.getElem?_cons_zero]; rfl) (by rfl) ?_; try simp only [Act.put, List.setIfInBounds_toArray, List.set_cons_zero, List.set_cons_succ]) | (refine ord_call hO _ ?_ (by simp only [List.getElem?_cons_succ, List.getElem?_cons_zero]; rfl) (by rfl) ?_ ?_; rotate_left; (· (intro u hu0 hu; go_simp; (try refine quiet_enter ?_); (first | with_reducible exact JO.out _ _ _ u hk8 (to8.out.later hu0) | with_reducible exact JN.out _ _ _ u hk8' (tn8.out.later hu0) | with_reducible exact LV.out u))); try simp only [Act.put, List.setIfInBounds_toArray, List.set_cons_zero, List.set_cons_succ]))
                clear hO ld1 ld2
                (refine ord_done (fun u hu => ?_); simp only [List.drop_succ_cons, List.drop_zero])
                have hfin := grow_trans hg08 hu
                go_wp2_with fail
                refine NoPanic.normal ?_
                go_wp2_with fail
                go_ret
                exact ⟨rfl, hfin⟩
        · have q1 : ¬ (k' : Int) < (n0 : Int) := by omega
          obtain ⟨A2, c2, rfl, tn⟩ := own_whole HNL.out (show k' = min n0 8 by omega) hown'
          clear hown'
          rename World => wb
          go_wp2_with (first
            | (go_at_call 10; refine (SS.out _).mono ?_; rintro e w3 ⟨rfl, hg3⟩; have to3 := (to1.later hg').later hg3; have tn3 := tn.later hg3)
            | (go_at_call 15; with_reducible refine (RO.out _ _ _ _ to3).mono ?_; rintro e w4 ⟨rfl, hg4⟩; have to4 := to3.later hg4; have tn4 := tn3.later hg4; clear to3)
            | (go_at_call 15; with_reducible refine (RN.out _ _ _ _ tn4).mono ?_; rintro e w5 ⟨rfl, hg5⟩; have to5 := to4.later hg5; have tn5 := tn4.later hg5))
          have hga := grows_alloc w5 (.cells #[tv s', tv J1, tv J2] 9)
          have ta : Texts (w5.alloc (.cells #[tv s', tv J1, tv J2] 9)) (some ⟨w5.heap.size, 0, none⟩) 3 3 [s', J1, J2] := ⟨rfl, Nat.le_refl _, by unfold maxLen; omega, by rw [World.size_alloc]; exact Lies.new w5 9 [tv s', tv J1, tv J2], .inr ⟨_, _, rfl⟩⟩
          have to6 := to5.later hga
          have tn6 := tn5.later hga
          have hg06 : Grows w (w5.alloc (.cells #[tv s', tv J1, tv J2] 9)) := grow_trans hg (grow_trans hg' (grow_trans hg3 (grow_trans hg4 (grow_trans hg5 hga))))
          clear hga hg hg' hg3 hg4 hg5 to1 tn tn3 to4 tn4 to5 tn5 RO RN SS SH
          change Code.wp _ _ _ _ (w5.alloc (.cells #[tv s', tv J1, tv J2] 9))
          generalize w5.alloc (.cells #[tv s', tv J1, tv J2] 9) = w6 at *
          generalize w5.heap.size = ba at *
          go_loopw [12] (fun i wr => ∃ j : Nat, j ≤ 3 ∧ i = .int .i64 j ∧ Grows w6 wr) (fun i _ => 3 - (intOf i).toNat)
          case atStart => exact ⟨0, by omega, rfl, Grows.refl _⟩
          case round =>
            obtain ⟨j, hj, rfl, hg7⟩ := hrel
            have ta7 := ta.later hg7
            have to7 := to6.later hg7
            have tn7 := tn6.later hg7
            have hg07 := grow_trans hg06 hg7
            by_cases hlt3 : j < 3
            · obtain ⟨ad, x, e, hx, cx⟩ := texts_at ta7 hlt3
              injection e with e
              subst e
              rw [add_plain, Nat.zero_add] at cx
              have cx8 : ∀ u, Grows wr u → u.cell? ⟨ba, j, none⟩ = some (tv x) := fun u h => hcell_later cx h
              have lx := SA.out x (three_at hx)
              have S1 := Lib.hid (fun u => split_any x u lx)
              have S2 := Lib.hid (fun u => rsplit_any x u lx)
              have HCX := Lib.hid cx8
              obtain ⟨P, hP⟩ : ∃ P, P = (splitOf x).1 := ⟨_, rfl⟩
              obtain ⟨er, her⟩ : ∃ er, er = (splitOf x).2 := ⟨_, rfl⟩
              rw [← hP, ← her] at S1 S2
              have q0 : (0 : Int) ≤ (j : Int) := Int.natCast_nonneg _
              have q1 : (j : Int) < 3 := by omega
              clear hP her lx hx cx8 ta7 to7 tn7
              go_wp2_with (first
                | (go_at_call 16; refine (S1.out _).mono ?_; rintro e w8 ⟨A8, c8, rfl, t8, hg8⟩; have cy := HCX.out _ hg8)
                | (go_at_call 17; refine (S2.out _).mono ?_; rintro e w9 ⟨A9, c9, rfl, t9, hg9⟩; have SM := Lib.hid (same_any _ _ _ _ _ _ _ _ w9 (t8.later hg9) t9); rw [show (P == P) = true from by simp] at SM)
                | (go_at_call 18; refine SM.out.mono ?_; rintro e w10 ⟨rfl, hg10⟩))
              go_roundw
              case rel => exact ⟨j + 1, by omega, by go_num, grow_trans hg7 (grow_trans hg8 (grow_trans hg9 hg10))⟩
              case measure => simp [intOf]; omega
            · obtain rfl : j = 3 := by omega
              clear hg7 ta to6 tn6 hg06
              have d1 := texts_at ta7 (k := 1) (by omega)
              have d2 := texts_at ta7 (k := 2) (by omega)
              obtain ⟨ad, x, e, hx, cx1⟩ := d1
              injection e with e
              subst e
              rw [add_plain, Nat.zero_add] at cx1
              obtain rfl : J1 = x := Option.some.inj hx
              obtain ⟨ad, x, e, hx2, cx2⟩ := d2
              injection e with e
              subst e
              rw [add_plain, Nat.zero_add] at cx2
              obtain rfl : J2 = x := Option.some.inj hx2
              clear hx hx2 ta7
              go_wp2_with fail
              refine wp_region_ord 18 [(0, true), (1, true), (2, true), (3, true), (4, true), (5, true), (6, true), (7, true), (8, true), (9, true), (10, true), (11, true), (12, true), (13, true), (14, true), (15, true), (16, true), (17, true)] (by kernel_rfl) (by kernel_rfl) ?_
              have hgd : Grows wr wr.drew := (Grows.refl wr).drew
              have to8 := Lib.hid (to7.later hgd)
              have tn8 := Lib.hid (tn7.later hgd)
              have hO := Grows.refl wr.drew
              have hg08 := grow_trans hg07 hgd
              have cd1 := hcell_later cx1 hgd
              have cd2 := hcell_later cx2 hgd
              clear to7 tn7 hg07 hgd cx1 cx2
              generalize wr.drew = wd at *
              have ld1 : ∀ u, Grows wd u → u.cell? ⟨ba, 1, none⟩ = some (tv J1) := fun u h => hcell_later cd1 h
              have ld2 : ∀ u, Grows wd u → u.cell? ⟨ba, 2, none⟩ = some (tv J2) := fun u h => hcell_later cd2 h
              clear cd1 cd2
              repeat (first | (refine ord_take hO _ ?_ (by simp only [List.getElem?_cons_succ, List.getElem?_cons_zero]; rfl) (by rfl) ?_ ?_; rotate_left; (· (intro u hu0 hu; (try go_simp); (try with_reducible rfl))); try simp only [Act.put, List.setIfInBounds_toArray, List.set_cons_zero, List.set_cons_succ]) | (refine ord_skip _ (by simp only [List.getElem?_cons_succ, List.getElem?_cons_zero]; rfl) (by rfl) ?_; try simp only [Act.put, List.setIfInBounds_toArray, List.set_cons_zero, List.set_cons_succ]) | (refine ord_call hO _ ?_ (by simp only [List.getElem?_cons_succ, List.getElem?_cons_zero]; rfl) (by rfl) ?_ ?_; rotate_left; (· (intro u hu0 hu; go_simp; (try refine quiet_enter ?_); (first | with_reducible exact JO.out _ _ _ u hk8 (to8.out.later hu0) | with_reducible exact JN.out _ _ _ u hk8' (tn8.out.later hu0) | with_reducible exact LV.out u))); try simp only [Act.put, List.setIfInBounds_toArray, List.set_cons_zero, List.set_cons_succ]))
              clear hO ld1 ld2
              (refine ord_done (fun u hu => ?_); simp only [List.drop_succ_cons, List.drop_zero])
              have hfin := grow_trans hg08 hu
              go_wp2_with fail
              refine NoPanic.normal ?_
              go_wp2_with fail
              go_ret
              exact ⟨rfl, hfin⟩
end Go.Proofs.Ytjdgdpofnpajmaa
