/-
  The reference's Name, Pieces, Split, Join: they answer nameB, piecesOf, splitOf, joinOf.
-/
import Derived.Test.YtanofmejokgijaaPaD
namespace Go.Proofs.Ytanofmejokgijaa
open Go.RowKit
set_option linter.unusedVariables false

theorem run_tidx (l : List UInt8) (k : Nat) (b : UInt8) (h : l[k]? = some b) (w : World) : (Instr.index 9 (tv l) (.int .i64 (k : Int))).run Try.prog w = .ok (bv b) w := by
  obtain ⟨hk, e⟩ := List.getElem?_eq_some_iff.1 h
  rw [run_index_string w 9 _ .i64 (k : Int) Try.underlying9, dif_pos ⟨by omega, by rw [size_mk]; omega⟩]
  have : ((⟨l.toArray⟩ : ByteArray)[(k : Int).toNat]'(by rw [size_mk]; omega)) = l[k] := rfl
  rw [this, e]
theorem free_one {l : List UInt8} {k : Nat} {b : UInt8} (h : l[k]? = some b) (h0 : b.toNat ≠ 0) (h1 : b.toNat ≠ 47) (hp : freeB (l.take k) = true) : freeB (l.take (k + 1)) = true := by
  unfold freeB at hp ⊢
  rw [take_at h, List.all_append, hp]
  have a0 : b ≠ 0 := fun e => h0 (by rw [e]; rfl)
  have a1 : b ≠ 47 := fun e => h1 (by rw [e]; rfl)
  simp [a0, a1]
theorem free_bad {l : List UInt8} {k : Nat} {b : UInt8} (h : l[k]? = some b) (h0 : b.toNat = 0 ∨ b.toNat = 47) : freeB l = false := by
  unfold freeB
  rw [List.all_eq_false]
  refine ⟨b, List.mem_of_getElem? h, ?_⟩
  rcases h0 with h0 | h0
  · have : b = 0 := UInt8.toNat_inj.1 h0
    subst this; decide
  · have : b = 47 := UInt8.toNat_inj.1 h0
    subst this; decide

set_option maxHeartbeats 1000000 in
theorem rname_any (l : List UInt8) (w : World) (hl : l.length ≤ 1000000) :
    Calls Try.prog 34 #[tv l] w fun e w' => e = .returned (.bool (nameB l)) ∧ Grows w w' := by
  have hsz := size_mk l
  have e1 : ∀ t, binOp .neq t (tv l) (.string ⟨#[46]⟩) = (pure (.bool !(l == [46])) : Sem Value) := fun t => run_tne (P := Try.prog) t l [46]
  have e2 : ∀ t, binOp .neq t (tv l) (.string ⟨#[46, 46]⟩) = (pure (.bool !(l == [46, 46])) : Sem Value) := fun t => run_tne (P := Try.prog) t l [46, 46]
  obtain ⟨R, hR⟩ : ∃ R, R = nameB l := ⟨_, rfl⟩
  rw [← hR]
  rw [name_parts] at hR
  have HR := Lib.hid hR
  clear hR
  go_enter Try.func34, Try.ntmps34
  go_wp2
  go_loopw [3] (fun i wr => ∃ k : Nat, k ≤ l.length ∧ i = .int .i64 k ∧ wr = w ∧ Hid (freeB (l.take k) = true)) (fun i _ => l.length - (intOf i).toNat)
  case atStart => exact ⟨0, Nat.zero_le _, rfl, rfl, rfl⟩
  case round =>
    obtain ⟨k, hk, rfl, rfl, HF⟩ := hrel
    by_cases hlt : k < l.length
    · obtain ⟨b, hb⟩ : ∃ b, l[k]? = some b := ⟨_, List.getElem?_eq_getElem hlt⟩
      have ix := run_tidx l k b hb
      have HB := Lib.hid hb
      clear hb
      by_cases b0 : b.toNat = 0
      · have hS : R = false := by rw [HR.out, free_bad HB.out (.inl b0), Bool.false_and]
        have HS := Lib.hid hS
        clear hS
        go_wp2
        go_ret
        exact ⟨by rw [HS.out]; rfl, Grows.refl _⟩
      · have n0 : ((b.toNat : Int) == 0) = false := by simp; omega
        by_cases b1 : b.toNat = 47
        · have hS : R = false := by rw [HR.out, free_bad HB.out (.inr b1), Bool.false_and]
          have HS := Lib.hid hS
          clear hS
          go_wp2
          go_ret
          exact ⟨by rw [HS.out]; rfl, Grows.refl _⟩
        · have n1 : ((b.toNat : Int) == 47) = false := by simp; omega
          have hF := free_one HB.out b0 b1 HF.out
          have HF' := Lib.hid hF
          clear hF b0 b1
          go_wp2
          go_roundw
          case rel => exact ⟨k + 1, by omega, by go_num, by first | rfl | trivial, HF'.out⟩
          case measure => simp [intOf]; omega
    · obtain rfl : k = l.length := by omega
      have hF : freeB l = true := by have := HF.out; rwa [List.take_length] at this
      have hS : R = endsB l := by rw [HR.out, hF, Bool.true_and]
      have HS := Lib.hid hS
      clear hS hF
      unfold endsB at HS
      by_cases c0 : 0 < l.length
      · have c0' : (0 : Int) < (l.length : Int) := by omega
        by_cases c1 : l.length < 25
        · have c1' : (l.length : Int) < 25 := by omega
          by_cases c2 : (l == [46]) = true
          · rw [c2] at e1
            have hE : R = false := by rw [HS.out, bne, c2]; simp
            have HE := Lib.hid hE
            clear hE c2
            go_wp2
            go_ret
            exact ⟨by rw [HE.out]; rfl, Grows.refl _⟩
          · have c2' : (l == [46]) = false := Bool.eq_false_iff.2 c2
            rw [c2'] at e1
            by_cases c3 : (l == [46, 46]) = true
            · rw [c3] at e2
              have hE : R = false := by rw [HS.out, bne, bne, c3]; simp
              have HE := Lib.hid hE
              clear hE c2 c2' c3
              go_wp2
              go_ret
              exact ⟨by rw [HE.out]; rfl, Grows.refl _⟩
            · have c3' : (l == [46, 46]) = false := Bool.eq_false_iff.2 c3
              rw [c3'] at e2
              have hE : R = true := by rw [HS.out, bne, bne, c3', c2', decide_eq_true c0, decide_eq_true c1]; rfl
              have HE := Lib.hid hE
              clear hE c2 c2' c3 c3'
              go_wp2
              go_ret
              exact ⟨by rw [HE.out]; rfl, Grows.refl _⟩
        · have c1' : ¬ (l.length : Int) < 25 := by omega
          have hE : R = false := by rw [HS.out, decide_eq_false c1]; simp
          have HE := Lib.hid hE
          clear hE
          go_wp2
          go_ret
          exact ⟨by rw [HE.out]; rfl, Grows.refl _⟩
      · have c0' : ¬ (0 : Int) < (l.length : Int) := by omega
        have hE : R = false := by rw [HS.out, decide_eq_false c0]; simp
        have HE := Lib.hid hE
        clear hE
        go_wp2
        go_ret
        exact ⟨by rw [HE.out]; rfl, Grows.refl _⟩

theorem pieces_sep {l : List UInt8} {k : Nat} {b : UInt8} (h : l[k]? = some b) (hb : b.toNat = 47) (s : List UInt8) : piecesGo (l.drop k) s = s :: piecesGo (l.drop (k + 1)) [] := by
  have e : b = 47 := UInt8.toNat_inj.1 hb
  rw [drop_at h, piecesGo, if_pos e]
theorem pieces_in {l : List UInt8} {k : Nat} {b : UInt8} (h : l[k]? = some b) (hb : b.toNat ≠ 47) (s : List UInt8) : piecesGo (l.drop k) s = piecesGo (l.drop (k + 1)) (s ++ [b]) := by
  have e : b ≠ 47 := fun e => hb (by rw [e]; rfl)
  rw [drop_at h, piecesGo, if_neg e]
theorem one_cut {l : List UInt8} {k : Nat} {b : UInt8} (h : l[k]? = some b) : (l.drop k).take (k + 1 - k) = [b] := by
  rw [drop_at h, show k + 1 - k = 1 by omega]; rfl

set_option maxHeartbeats 1000000 in
theorem rpieces_any (l : List UInt8) (w : World) (hl : l.length ≤ 1000000) :
    Calls Try.prog 65 #[tv l] w fun e w' => ∃ v, e = .returned v ∧ w'.ownsRow w.heap.size 9 1 v (piecesOf l).length ((piecesOf l).map tv) ∧ Grows w w' := by
  obtain ⟨i0, hi0, hz0, hz1, hz2⟩ := info_parts str_info
  by_cases h0 : l = []
  · subst h0
    go_enter Try.func65, Try.ntmps65
    go_wp2
    go_ret
    exact ⟨_, rfl, World.ownsRow_nil _ _ _ _, Grows.refl _⟩
  · have hP : piecesOf l = piecesGo l [] := by unfold piecesOf; rw [if_neg h0]
    rw [hP]
    have b0 : (l == []) = false := by rw [beq_eq_false_iff_ne]; exact h0
    have e0 : ∀ t, binOp .eql t (tv l) (.string ⟨#[]⟩) = (pure (.bool (l == [])) : Sem Value) := fun t => run_teq (P := Try.prog) t l []
    rw [b0] at e0
    have hsz := size_mk l
    clear b0 hP h0
    obtain ⟨R, hR⟩ : ∃ R, R = piecesGo l [] := ⟨_, rfl⟩
    rw [← hR]
    go_enter Try.func65, Try.ntmps65
    go_wp2
    clear e0
    go_loopw [3, 4, 5] (fun v s i wr => ∃ (k : Nat) (acc : List (List UInt8)) (x : List UInt8), k ≤ l.length ∧ acc.length ≤ k ∧ x.length ≤ k ∧ s = tv x ∧ i = .int .i64 k ∧
      wr.ownsRow w.heap.size 9 1 v acc.length (acc.map tv) ∧ Grows w wr ∧ Hid (R = acc ++ piecesGo (l.drop k) x)) (fun _ _ i _ => l.length - (intOf i).toNat)
    case atStart => exact ⟨0, [], [], Nat.zero_le _, Nat.le_refl _, Nat.le_refl _, rfl, rfl, World.ownsRow_nil _ _ _ _, Grows.refl _, by rw [hR]; rfl⟩
    case round =>
      obtain ⟨k, acc, x, hk, hacc, hx, rfl, rfl, hown, hg, HR⟩ := hrel
      have hwb := hg.size
      have HX := Lib.hid hx
      clear hx hR
      by_cases hlt : k < l.length
      · obtain ⟨b, hb⟩ : ∃ b, l[k]? = some b := ⟨_, List.getElem?_eq_getElem hlt⟩
        have ix := run_tidx l k b hb
        by_cases b1 : b.toNat = 47
        · have hS := pieces_sep hb b1 x
          have HS := Lib.hid hS
          have hnew := Lies.new wr 9 [tv x]
          clear hb hS
          go_wp2_with (at_builtin; refine wpList_append_src _ rfl (.tmp 18) (.tmp 20) _ rfl w.heap.size 9 i0 _ 16 Try.underlying60 hi0 hz0 hz1 hz2 rfl u3 acc.length _ rfl (hown.alloc _) _ _ 1 1 [tv x] rfl rfl hnew (by simp [Value.oneCell']) (by unfold maxLen; omega) (by omega) (by rw [World.size_alloc]; omega) ?_; intro v' w' hown' hg' hat')
          have hb3 : Below w.heap.size w w' := (hg.alloc (by omega) _).grown hg' (by rw [World.size_alloc]; omega) (own_ge hown)
          rw [show [tv x] = [x].map tv from rfl, ← List.map_append] at hown'
          go_roundw
          case rel => exact ⟨k + 1, acc ++ [x], [], by omega, by simp; omega, Nat.zero_le _, rfl, by go_num, by rw [List.length_append]; exact hown', hb3, by show _ = _; rw [HR.out, HS.out]; simp⟩
          case measure => simp [intOf]; omega
        · have n1 : ((b.toNat : Int) == 47) = false := by simp; omega
          have hS := pieces_in hb b1 x
          have HS := Lib.hid hS
          have ct := run_tcut l k (k + 1) (by omega) (by omega) (k : Int) ((k : Int) + 1) rfl (by omega)
          rw [one_cut hb] at ct
          have cc := run_cat (P := Try.prog) x [b] (by have := HX.out; simp; omega)
          clear hb hS b1
          go_wp2
          go_roundw
          case rel => exact ⟨k + 1, acc, x ++ [b], by omega, by omega, by have := HX.out; simp; omega, rfl, by go_num, hown, hg, by show _ = _; rw [HR.out, HS.out]⟩
          case measure => simp [intOf]; omega
      · obtain rfl : k = l.length := by omega
        have hE : R = acc ++ [x] := by rw [HR.out, List.drop_length, piecesGo]
        have HE := Lib.hid hE
        clear hE
        have hnew := Lies.new wr 9 [tv x]
        go_wp2_with (at_builtin; refine wpList_append_src _ rfl (.tmp 29) (.tmp 31) _ rfl w.heap.size 9 i0 _ 16 Try.underlying60 hi0 hz0 hz1 hz2 rfl u3 acc.length _ rfl (hown.alloc _) _ _ 1 1 [tv x] rfl rfl hnew (by simp [Value.oneCell']) (by unfold maxLen; omega) (by omega) (by rw [World.size_alloc]; omega) ?_; intro v' w' hown' hg' hat')
        have hb3 : Below w.heap.size w w' := (hg.alloc (by omega) _).grown hg' (by rw [World.size_alloc]; omega) (own_ge hown)
        go_ret
        rw [show [tv x] = [x].map tv from rfl, ← List.map_append] at hown'
        exact ⟨v', rfl, by rw [HE.out, List.length_append]; exact hown', hb3⟩
end Go.Proofs.Ytanofmejokgijaa
