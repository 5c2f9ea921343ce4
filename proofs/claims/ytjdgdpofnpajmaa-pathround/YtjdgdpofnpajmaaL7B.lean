/-
  The walks of PathParents and PathRound.
-/
import Derived.Test.YtjdgdpofnpajmaaL7A
namespace Go.Proofs.Ytjdgdpofnpajmaa
open Go.RowKit
set_option linter.unusedVariables false

theorem text_of (a : ByteArray) : ∃ l : List UInt8, a = ⟨l.toArray⟩ := ⟨a.data.toList, by cases a; simp⟩
theorem pieces_names {N : List (List UInt8)} (h : ∀ x ∈ N, nameB x = true) : piecesOf (joinOf N) = N :=
  pieces_join (fun y hy => (name_free (h y hy)).1) (fun e => by subst e; exact (name_free (h [] (by simp))).2 rfl)
theorem join_ne {N : List (List UInt8)} (h : ∀ x ∈ N, nameB x = true) (h0 : N ≠ []) : joinOf N ≠ [] := fun e => by
  rcases join_nil e with q | q
  · exact h0 q
  · subst q; exact (name_free (h [] (by simp))).2 rfl
theorem snoc_of {N : List (List UInt8)} (h0 : N ≠ []) : ∃ I x, N = I ++ [x] := ⟨N.dropLast, N.getLast h0, (List.dropLast_concat_getLast h0).symm⟩
/-- A path, its parent and its last name. -/
structure Family (p up base : List UInt8) : Prop where
  name : nameB base = true
  under : underOf p up = true
  behind : compareOf up p = -1
  alone : up = [] → base = p
  both : up ≠ [] → (up ++ [47]) ++ base = p
theorem family {N : List (List UInt8)} (h : ∀ x ∈ N, nameB x = true) (h0 : N ≠ []) : Family (joinOf N) (parentOf (joinOf N)) (baseOf (joinOf N)) := by
  obtain ⟨I, x, rfl⟩ := snoc_of h0
  have hI : ∀ y ∈ I, nameB y = true := fun y hy => h y (by simp [hy])
  have hx : nameB x = true := h x (by simp)
  have hp := pieces_names h
  have hq := pieces_names hI
  have e1 : parentOf (joinOf (I ++ [x])) = joinOf I := by unfold parentOf; rw [hp, List.dropLast_concat]
  have e2 : baseOf (joinOf (I ++ [x])) = x := by unfold baseOf; rw [hp]; simp
  rw [e1, e2]
  refine ⟨hx, ?_, ?_, fun e => ?_, fun e => ?_⟩
  · unfold underOf
    rw [hp, hq]
    simp
  · unfold compareOf
    rw [hp, hq]
    exact cmpL_prefix I [x] (by simp)
  · by_cases hn : I = []
    · subst hn; rfl
    · exact absurd e (join_ne hI hn)
  · by_cases hn : I = []
    · subst hn; exact absurd rfl e
    · rw [join_snoc I x hn]; simp

set_option maxHeartbeats 2000000 in
theorem pathparents_walk (A : Option Addr) (n c : Nat) (zs : List Int) (w : World) (hl : zs.length = n) (hr : Lies w w.heap.size A (zs.map zv)) (hc : n ≤ maxLen) (hz : ∀ z ∈ zs, -9223372036854775808 ≤ z ∧ z ≤ 9223372036854775807) :
    Calls Try.prog 7 #[.slice A n c] w fun e w' => e = .returned (.bool true) ∧ Grows w w' := by
  have M := made_any7 A n c zs w hl hr hc hz
  have lp := made_len zs
  have hN := fun x hx => (namesOf_name zs 6 x hx).1
  have hF := family hN
  have hE : namesOf zs 6 = [] → madeOf zs = [] := fun e => by unfold madeOf; rw [e]; rfl
  have hE' : namesOf zs 6 ≠ [] → madeOf zs ≠ [] := fun e => join_ne hN e
  change namesOf zs 6 ≠ [] → Family (madeOf zs) (parentOf (madeOf zs)) (baseOf (madeOf zs)) at hF
  have hc2 : madeOf zs = [] ∨ (madeOf zs ≠ [] ∧ Family (madeOf zs) (parentOf (madeOf zs)) (baseOf (madeOf zs))) := by
    by_cases h : namesOf zs 6 = []
    · exact .inl (hE h)
    · exact .inr ⟨hE' h, hF h⟩
  clear hN hF hE hE' hr hl hc hz
  generalize madeOf zs = p at *
  have lu := parent_len p
  have P1 := fun u => parent_any p u (by omega)
  have B1 := fun u => base_any p u (by omega)
  have LV := fun u => lives7 u
  have hgr := Grows.refl w
  replace M := Lib.hid M
  replace LV := Lib.hid LV
  rcases hc2 with rfl | ⟨hne, F⟩
  · have U := fun u => under_any [] [] u (by simp) (by simp)
    rw [show parentOf [] = [] from rfl] at P1
    rw [show baseOf [] = [] from rfl] at B1
    rw [show underOf [] [] = false from by decide +kernel] at U
    replace P1 := Lib.hid P1
    replace B1 := Lib.hid B1
    replace U := Lib.hid U
    go_enter Try.func7, Try.ntmps7
    go_wp2_with (first
      | (go_at_call 20; with_reducible refine (M.out).mono ?_; rintro e w1 ⟨rfl, hg⟩; replace hgr := grow_trans hgr hg; clear hg)
      | (go_at_call 25; with_reducible refine (P1.out _).mono ?_; rintro e w1 ⟨rfl, hg⟩; replace hgr := grow_trans hgr hg; clear hg)
      | (go_at_call 26; with_reducible refine (B1.out _).mono ?_; rintro e w1 ⟨rfl, hg⟩; replace hgr := grow_trans hgr hg; clear hg)
      | (go_at_call 23; with_reducible refine (U.out _).mono ?_; rintro e w1 ⟨rfl, hg⟩; replace hgr := grow_trans hgr hg; clear hg)
      | (go_at_call 13; with_reducible refine (LV.out _).mono ?_; rintro e w1 ⟨rfl, hg⟩; replace hgr := grow_trans hgr hg; clear hg))
    go_ret
    exact ⟨rfl, hgr⟩
  · generalize parentOf p = up at *
    generalize baseOf p = base at *
    have U := fun u => under_any p up u (by omega) (by omega)
    have C := fun u => compare_any up p u (by omega) (by omega)
    have NM := fun u => name_any base u
    rw [F.under] at U
    rw [F.behind] at C
    rw [F.name] at NM
    have b0 : (p == []) = false := by rw [beq_eq_false_iff_ne]; exact hne
    have e0 : ∀ t, binOp .eql t (tv p) (.string ⟨#[]⟩) = (pure (.bool (p == [])) : Sem Value) := fun t => run_teq (P := Try.prog) t p []
    rw [b0] at e0
    have e1 : ∀ t, binOp .neq t (tv up) (.string ⟨#[]⟩) = (pure (.bool !(up == [])) : Sem Value) := fun t => run_tne (P := Try.prog) t up []
    have e2 : ∀ t, binOp .eql t (tv p) (tv p) = (pure (.bool true) : Sem Value) := fun t => by rw [run_teq (P := Try.prog)]; simp
    replace P1 := Lib.hid P1
    replace B1 := Lib.hid B1
    replace U := Lib.hid U
    replace C := Lib.hid C
    replace NM := Lib.hid NM
    clear b0 hne
    by_cases hu : up = []
    · have hb := F.alone hu
      subst hb
      have bu : (up == []) = true := by rw [beq_iff_eq]; exact hu
      rw [bu] at e1
      clear bu F hu
      go_enter Try.func7, Try.ntmps7
      go_wp2_with (first
        | (go_at_call 20; with_reducible refine (M.out).mono ?_; rintro e w1 ⟨rfl, hg⟩; replace hgr := grow_trans hgr hg; clear hg)
        | (go_at_call 25; with_reducible refine (P1.out _).mono ?_; rintro e w1 ⟨rfl, hg⟩; replace hgr := grow_trans hgr hg; clear hg)
        | (go_at_call 26; with_reducible refine (B1.out _).mono ?_; rintro e w1 ⟨rfl, hg⟩; replace hgr := grow_trans hgr hg; clear hg)
        | (go_at_call 11; with_reducible refine (NM.out _).mono ?_; rintro e w1 ⟨rfl, hg⟩; replace hgr := grow_trans hgr hg; clear hg)
        | (go_at_call 23; with_reducible refine (U.out _).mono ?_; rintro e w1 ⟨rfl, hg⟩; replace hgr := grow_trans hgr hg; clear hg)
        | (go_at_call 21; with_reducible refine (C.out _).mono ?_; rintro e w1 ⟨rfl, hg⟩; replace hgr := grow_trans hgr hg; clear hg)
        | (go_at_call 13; with_reducible refine (LV.out _).mono ?_; rintro e w1 ⟨rfl, hg⟩; replace hgr := grow_trans hgr hg; clear hg))
      go_ret
      exact ⟨rfl, hgr⟩
    · have hb := F.both hu
      have bu : (up == []) = false := by rw [beq_eq_false_iff_ne]; exact hu
      rw [bu] at e1
      have lb := congrArg List.length hb
      simp only [List.length_append] at lb
      have c1 := run_cat (P := Try.prog) up [47] (by simp; omega)
      have c2 := run_cat (P := Try.prog) (up ++ [47]) base (by simp; omega)
      rw [hb] at c2
      clear bu F hu hb lb
      obtain ⟨q, hq⟩ : ∃ q, q = up ++ [47] := ⟨_, rfl⟩
      rw [← hq] at c1 c2
      clear hq
      go_enter Try.func7, Try.ntmps7
      go_wp2_with (first
        | (go_at_call 20; with_reducible refine (M.out).mono ?_; rintro e w1 ⟨rfl, hg⟩; replace hgr := grow_trans hgr hg; clear hg)
        | (go_at_call 25; with_reducible refine (P1.out _).mono ?_; rintro e w1 ⟨rfl, hg⟩; replace hgr := grow_trans hgr hg; clear hg)
        | (go_at_call 26; with_reducible refine (B1.out _).mono ?_; rintro e w1 ⟨rfl, hg⟩; replace hgr := grow_trans hgr hg; clear hg)
        | (go_at_call 11; with_reducible refine (NM.out _).mono ?_; rintro e w1 ⟨rfl, hg⟩; replace hgr := grow_trans hgr hg; clear hg)
        | (go_at_call 23; with_reducible refine (U.out _).mono ?_; rintro e w1 ⟨rfl, hg⟩; replace hgr := grow_trans hgr hg; clear hg)
        | (go_at_call 21; with_reducible refine (C.out _).mono ?_; rintro e w1 ⟨rfl, hg⟩; replace hgr := grow_trans hgr hg; clear hg)
        | (go_at_call 13; with_reducible refine (LV.out _).mono ?_; rintro e w1 ⟨rfl, hg⟩; replace hgr := grow_trans hgr hg; clear hg))
      go_ret
      exact ⟨rfl, hgr⟩

set_option maxHeartbeats 2000000 in
theorem pathround_walk (A : Option Addr) (n c : Nat) (zs : List Int) (w : World) (hl : zs.length = n) (hr : Lies w w.heap.size A (zs.map zv)) (hc : n ≤ maxLen) (hz : ∀ z ∈ zs, -9223372036854775808 ≤ z ∧ z ≤ 9223372036854775807) :
    Calls Try.prog 5 #[.slice A n c] w fun e w' => e = .returned (.bool true) ∧ Grows w w' := by
  unfold maxLen at hc
  obtain ⟨i0, hi0, hz0, hz1, hz2⟩ := info_parts str_info
  have LV := fun u => lives7 u
  obtain ⟨N, hN⟩ : ∃ N, N = namesOf zs 6 := ⟨_, rfl⟩
  have hst : ∀ k z, zs[k]? = some z → k < 6 → N.take k ++ [nameOf z] = N.take (k + 1) := fun k z h1 h2 => by rw [hN]; exact namesOf_at h1 h2
  have hNl : N.length = min n 6 := by rw [hN]; unfold namesOf; simp [hl]; omega
  have hjl : (joinOf N).length ≤ 150 := by rw [hN]; exact namesOf_join zs 6
  have hsp : splitOf (joinOf N) = (N, 0) := split_join (by rw [hN]; exact fun x hx => (namesOf_name zs 6 x hx).1) (by omega)
  have SP := fun u => split_any (joinOf N) u (by omega)
  rw [hsp] at SP
  have JN : ∀ (A' : Option Addr) (n' c' : Nat) (u : World), n' ≤ 6 → Texts u A' n' c' N → Calls Try.prog 19 #[.slice A' n' c'] u fun e w' => e = .returned (tv (joinOf N)) ∧ Grows u w' := fun A' n' c' u h1 h2 => join_any A' n' c' N u h2 (by omega) (by omega)
  have HST := Lib.hid hst
  have HNL := Lib.hid hNl
  have HL := Lib.hid hl
  have HZ := Lib.hid hz
  clear hst hNl hjl hN hl hz hsp
  generalize joinOf N = R at *
  replace SP := Lib.hid SP
  replace JN := Lib.hid JN
  replace LV := Lib.hid LV
  have tail : ∀ (k : Nat), k = min n 6 → ∀ v (u : World), u.ownsRow w.heap.size 9 1 v k ((N.take k).map tv) → ∃ A' c', v = .slice A' k c' ∧ Texts u A' k c' N := fun k hk v u h => by
    rw [List.take_of_length_le (by rw [HNL.out]; omega)] at h
    exact Texts.of_own (by rw [HNL.out]; omega) h
  have TL := Lib.hid tail
  clear tail
  go_enter Try.func5, Try.ntmps5
  go_wp2
  go_loopw [3, 4] (fun v i wr => ∃ k : Nat, k ≤ n ∧ k ≤ 6 ∧ i = .int .i64 k ∧ wr.ownsRow w.heap.size 9 1 v k ((N.take k).map tv) ∧ Grows w wr) (fun _ i _ => n - (intOf i).toNat)
  case atStart => exact ⟨0, Nat.zero_le _, Nat.zero_le _, rfl, World.ownsRow_nil _ _ _ _, Grows.refl _⟩
  case round =>
    obtain ⟨k, k1, k2, rfl, hown, hg⟩ := hrel
    have fin : k = min n 6 → (decide ((k : Int) < (n : Int)) && decide ((k : Int) < 6)) = false := fun h => by
      by_cases q : k < n
      · have : ¬ (k : Int) < 6 := by omega
        simp [this]
      · have : ¬ (k : Int) < (n : Int) := by omega
        simp [this]
    by_cases hlt : k < n
    · by_cases hlt6 : k < 6
      · obtain ⟨z, hzk⟩ : ∃ z, zs[k]? = some z := ⟨_, List.getElem?_eq_getElem (by rw [HL.out]; exact hlt)⟩
        obtain ⟨ad, rfl, _, cx⟩ := (hr.later hg).at_ (j := k) (u := zv z) (by rw [List.getElem?_map, hzk]; rfl)
        have HS := Lib.hid (HST.out k z hzk hlt6)
        have NC := Lib.hid (nameof_any z wr (HZ.out z (List.mem_of_getElem? hzk)))
        obtain ⟨x, hx⟩ : ∃ x, x = nameOf z := ⟨_, rfl⟩
        rw [← hx] at HS NC
        clear hzk hx fin
        have q1 : (k : Int) < (n : Int) := by omega
        have q2 : (k : Int) < 6 := by omega
        go_wp2_with (first
          | (go_at_call 14; refine NC.out.mono ?_; rintro e w1 ⟨rfl, hg1⟩; have hnew := Lies.new w1 9 [tv x]; have hown1 := own_later hown hg1; have hgw := grow_trans hg hg1; have hwb := hgw.size)
          | (at_builtin; refine wpList_append_src _ rfl (.tmp 18) (.tmp 24) _ rfl w.heap.size 9 i0 _ 16 Try.underlying26 hi0 hz0 hz1 hz2 rfl u3 k _ rfl (hown1.alloc _) _ _ 1 1 [tv x] rfl rfl hnew (by simp [Value.oneCell']) (by unfold maxLen; omega) (by omega) (by rw [World.size_alloc]; omega) ?_; intro v' w' hown' hg' hat'))
        have hb3 : Below w.heap.size w w' := (hgw.alloc (by omega) _).grown hg' (by rw [World.size_alloc]; omega) (own_ge hown1)
        rw [show [tv x] = [x].map tv from rfl, ← List.map_append, HS.out] at hown'
        go_roundw
        case rel => exact ⟨k + 1, by omega, by omega, by go_num, hown', hb3⟩
        case measure => simp [intOf]; omega
      · obtain ⟨A', c', rfl, ht⟩ := TL.out k (by omega) _ _ hown
        have JC := Lib.hid (JN.out A' k c' wr k2 ht)
        have q1 : (k : Int) < (n : Int) := by omega
        have q2 : ¬ (k : Int) < 6 := by omega
        clear hown JN fin TL
        go_wp2_with (first
          | (go_at_call 19; refine JC.out.mono ?_; rintro e w1 ⟨rfl, hg1⟩; have ht1 := ht.later hg1)
          | (go_at_call 16; refine (SP.out _).mono ?_; rintro e w2 ⟨A2, c2, rfl, ht2, hg2⟩; have SM := Lib.hid (same_any _ _ _ _ _ _ _ _ w2 ht2 (ht1.later hg2)); rw [show (N == N) = true from by simp] at SM)
          | (go_at_call 18; refine SM.out.mono ?_; rintro e w3 ⟨rfl, hg3⟩)
          | (go_at_call 13; refine (LV.out _).mono ?_; rintro e w4 ⟨rfl, hg4⟩))
        go_ret
        exact ⟨rfl, grow_trans hg (grow_trans hg1 (grow_trans hg2 (grow_trans hg3 hg4)))⟩
    · obtain ⟨A', c', rfl, ht⟩ := TL.out k (by omega) _ _ hown
      have JC := Lib.hid (JN.out A' k c' wr k2 ht)
      have q1 : ¬ (k : Int) < (n : Int) := by omega
      clear hown JN fin TL
      go_wp2_with (first
        | (go_at_call 19; refine JC.out.mono ?_; rintro e w1 ⟨rfl, hg1⟩; have ht1 := ht.later hg1)
        | (go_at_call 16; refine (SP.out _).mono ?_; rintro e w2 ⟨A2, c2, rfl, ht2, hg2⟩; have SM := Lib.hid (same_any _ _ _ _ _ _ _ _ w2 ht2 (ht1.later hg2)); rw [show (N == N) = true from by simp] at SM)
        | (go_at_call 18; refine SM.out.mono ?_; rintro e w3 ⟨rfl, hg3⟩)
        | (go_at_call 13; refine (LV.out _).mono ?_; rintro e w4 ⟨rfl, hg4⟩))
      go_ret
      exact ⟨rfl, grow_trans hg (grow_trans hg1 (grow_trans hg2 (grow_trans hg3 hg4)))⟩
end Go.Proofs.Ytjdgdpofnpajmaa
