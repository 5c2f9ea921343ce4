/-
  path.pieces: what stands between each / of a text. Condition: at most a million bytes.
-/
import Derived.Test.YtanofmejokgijaaPaA
namespace Go.Proofs.Ytanofmejokgijaa
open Go.RowKit
set_option linter.unusedVariables false

theorem str_info : (Try.prog.info? 9).map (fun i => (i.zero, i.size, i.bytes)) = some (some (.string ⟨#[]⟩), 1, 16) := by kernel_rfl

/-- Texts that lie there: a []string. -/
structure Texts (w : World) (A : Option Addr) (n c : Nat) (ls : List (List UInt8)) : Prop where
  len : ls.length = n
  le : n ≤ c
  cap : c ≤ maxLen
  lies : Lies w w.heap.size A (ls.map tv)
  plain : A = none ∨ ∃ b o, A = some ⟨b, o, none⟩
theorem Texts.later {w w' : World} {A : Option Addr} {n c : Nat} {ls : List (List UInt8)} (h : Texts w A n c ls) (hg : Grows w w') : Texts w' A n c ls := ⟨h.len, h.le, h.cap, h.lies.later hg, h.plain⟩
theorem Texts.of_own {w : World} {base : Nat} {v : Value} {n : Nat} {ls : List (List UInt8)} (hl : ls.length = n) (h : w.ownsRow base 9 1 v n (ls.map tv)) : ∃ A c, v = .slice A n c ∧ Texts w A n c ls := by
  have h0 := h
  obtain ⟨A, c, rfl, hc⟩ := own_form h
  refine ⟨A, c, rfl, hl, hc, ?_, Lies.of_own h0, ?_⟩
  · rcases h0.2 with ⟨e, _⟩ | ⟨g, cap, cur, e, _, _, _, h4, _⟩
    · injection e with _ _ e; unfold maxLen; omega
    · injection e with _ _ e; subst e; first | exact h4 | omega
  · rcases h0.2 with ⟨e, _⟩ | ⟨g, cap, cur, e, _⟩
    · injection e with e; exact .inl e
    · injection e with e; exact .inr ⟨g, 0, e⟩
theorem own_base {w : World} {base base' : Nat} {e : TypeId} {size : Nat} {v : Value} {n : Nat} {xs : List Value} (h : w.ownsRow base e size v n xs) (hb : base' ≤ base) : w.ownsRow base' e size v n xs := by
  obtain ⟨h1, h2⟩ := h
  refine ⟨h1, ?_⟩
  rcases h2 with h2 | ⟨g, cap, cur, a, b, c⟩
  · exact .inl h2
  · exact .inr ⟨g, cap, cur, a, by omega, c⟩
theorem tcut (l : List UInt8) (a b : Nat) : (⟨l.toArray⟩ : ByteArray).extract a b = ⟨((l.drop a).take (b - a)).toArray⟩ := ByteArray.extract_mk l a b
theorem run_tcut (l : List UInt8) (a b : Nat) (hab : a ≤ b) (hb : b ≤ l.length) (x y : Int) (hx : x = (a : Int)) (hy : y = (b : Int)) (w : World) :
    (Instr.slice 9 (tv l) (some (.int .i64 x)) (some (.int .i64 y)) none).run Try.prog w = .ok (tv ((l.drop a).take (b - a))) w := by
  subst hx hy
  rw [run_slice_string w 9 _ .i64 .i64 (a : Int) (b : Int) Try.underlying9 (by omega) (by omega) (by rw [size_mk]; omega), tcut]
  rfl
theorem run_tfrom (l : List UInt8) (a : Nat) (ha : a ≤ l.length) (x : Int) (hx : x = (a : Int)) (w : World) :
    (Instr.slice 9 (tv l) (some (.int .i64 x)) none none).run Try.prog w = .ok (tv (l.drop a)) w := by
  subst hx
  rw [run_slice_string_from_if w 9 _ .i64 (a : Int) Try.underlying9, if_pos ⟨by omega, by rw [size_mk]; omega⟩, tcut, size_mk]
  rw [List.take_of_length_le (by simp)]
  rfl

theorem drop_step (l : List UInt8) (p k : Nat) : l.drop p = (l.drop p).take k ++ l.drop (p + k) := by
  rw [← List.drop_drop, List.take_append_drop]
theorem seg_more (l : List UInt8) (b p k : Nat) (hb : b ≤ p) : (l.drop b).take (p - b) ++ (l.drop p).take k = (l.drop b).take (p + k - b) := by
  rw [show p + k - b = (p - b) + k by omega, List.take_add, List.drop_drop, show b + (p - b) = p by omega]
theorem pieces_round {l : List UInt8} {b p r k : Nat} (hb : b ≤ p) (h : Step l p r k) (hr : r ≠ 47) :
    piecesGo (l.drop p) ((l.drop b).take (p - b)) = piecesGo (l.drop (p + k)) ((l.drop b).take (p + k - b)) := by
  rw [← seg_more l b p k hb]
  conv => lhs; rw [drop_step l p k]
  exact pieces_run (fun e => h.free (c := 47) (by omega) hr 47 e rfl) _ _
theorem pieces_here {l : List UInt8} {b p r k : Nat} (h : Step l p r k) (hr : r = 47) :
    k = 1 ∧ piecesGo (l.drop p) ((l.drop b).take (p - b)) = (l.drop b).take (p - b) :: piecesGo (l.drop (p + 1)) ((l.drop (p + 1)).take (p + 1 - (p + 1))) := by
  obtain ⟨h1, x, hx, hc⟩ := h.here (c := 47) (by omega) hr
  refine ⟨h1, ?_⟩
  have e : x = 47 := UInt8.toNat_inj.1 hc
  subst e
  have hlt : p < l.length := (List.getElem?_eq_some_iff.1 hx).1
  rw [List.drop_eq_getElem_cons hlt, (List.getElem?_eq_some_iff.1 hx).2, piecesGo, if_pos rfl, Nat.sub_self, List.take_zero]

set_option maxHeartbeats 1000000 in
theorem pieces_any (l : List UInt8) (w : World) (hl : l.length ≤ 1000000) :
    Calls Try.prog 89 #[tv l] w fun e w' => ∃ v, e = .returned v ∧ w'.ownsRow w.heap.size 9 1 v (piecesOf l).length ((piecesOf l).map tv) ∧ Grows w w' := by
  obtain ⟨i0, hi0, hz0, hz1, hz2⟩ := info_parts str_info
  by_cases h0 : l = []
  · subst h0
    go_enter Try.func89, Try.ntmps89
    go_wp2
    go_ret
    exact ⟨_, rfl, World.ownsRow_nil _ _ _ _, Grows.refl _⟩
  · have hP : piecesOf l = piecesGo l [] := by unfold piecesOf; rw [if_neg h0]
    rw [hP]
    have b0 : (l == []) = false := by rw [beq_eq_false_iff_ne]; exact h0
    have e0 : ∀ t, binOp .eql t (tv l) (.string ⟨#[]⟩) = (pure (.bool (l == [])) : Sem Value) := fun t => run_teq (P := Try.prog) t l []
    rw [b0] at e0
    clear b0 hP h0
    obtain ⟨R, hR⟩ : ∃ R, R = piecesGo l [] := ⟨_, rfl⟩
    rw [← hR]
    go_enter Try.func89, Try.ntmps89
    go_wp2
    clear e0
    go_loopw [3, 4] (fun v bg wr => ∃ (pos b : Nat) (acc : List (List UInt8)), pos ≤ l.length ∧ b ≤ pos ∧ acc.length ≤ pos ∧ bg = .int .i64 b ∧ wr.heap[w.heap.size]? = some (.stringIter ⟨l.toArray⟩ pos) ∧
      wr.ownsRow (w.heap.size + 1) 9 1 v acc.length (acc.map tv) ∧ Below w.heap.size w wr ∧ Hid (R = acc ++ piecesGo (l.drop pos) ((l.drop b).take (pos - b)))) (fun _ _ wr => l.length - wr.iterPos w.heap.size)
    case atStart => exact ⟨0, 0, [], Nat.zero_le _, Nat.le_refl _, Nat.le_refl _, rfl, World.iter_heap w _ 0, World.ownsRow_nil _ _ _ _, grows_alloc _ _, by rw [hR]; rfl⟩
    case round =>
      obtain ⟨pos, b, acc, hpos, hb, hacc, rfl, hit, hown, hbw, HR⟩ := hrel
      have hm := iterPos_of hit
      by_cases hp : pos < l.length
      · have st := step_at l pos hp
        have hnx : ∀ ty, (Instr.next (.pointer (some ⟨w.heap.size, 0, none⟩)) true ty).run Try.prog wr = _ := fun ty => Lib.run_next_any_at wr w.heap.size ⟨l.toArray⟩ pos ty hit (by rw [size_mk]; exact hp)
        have hit2 := Lib.iterAt_heap wr w.heap.size ⟨l.toArray⟩ pos (pos + (Utf8.decode ⟨l.toArray⟩ pos).2) hit
        have hbw2 := Lib.below_iterAt hbw (k := w.heap.size) (Nat.le_refl _) ⟨l.toArray⟩ (pos + (Utf8.decode ⟨l.toArray⟩ pos).2)
        have hown2 := ownsRow_iterAt hown (k := w.heap.size) (by omega) ⟨l.toArray⟩ (pos + (Utf8.decode ⟨l.toArray⟩ pos).2)
        generalize (Utf8.decode ⟨l.toArray⟩ pos).1 = r at *
        generalize (Utf8.decode ⟨l.toArray⟩ pos).2 = k at *
        obtain ⟨W1, hW1⟩ : ∃ W1, W1 = wr.iterAt w.heap.size ⟨l.toArray⟩ (pos + k) := ⟨_, rfl⟩
        rw [← hW1] at hnx hit2 hbw2 hown2
        have hlt1 : w.heap.size < W1.heap.size := (Array.getElem?_eq_some_iff.1 hit2).1
        clear hW1 hit hown hbw
        have hk := st.pos
        have hf := st.fits
        have ST := Lib.hid st
        clear st
        by_cases r1 : r = 47
        · obtain ⟨k1, hS⟩ := pieces_here (b := b) ST.out r1
          subst r1
          subst k1
          have HS := Lib.hid hS
          clear hS
          have hcut := run_tcut l b pos hb hpos (b : Int) (pos : Int) rfl rfl
          generalize hseg : (l.drop b).take (pos - b) = seg at *
          have hnew := Lies.new W1 9 [tv seg]
          have HIT := Lib.hid hit2
          have HM := Lib.hid hm
          clear hit2 hseg hm
          go_wp2_with (at_builtin; refine wpList_append_src _ rfl (.tmp 17) (.tmp 22) _ rfl (w.heap.size + 1) 9 i0 _ 16 Try.underlying60 hi0 hz0 hz1 hz2 rfl u3 acc.length _ rfl (hown2.alloc _) _ _ 1 1 [tv seg] rfl rfl hnew (by simp [Value.oneCell']) (by unfold maxLen; omega) (by omega) (by rw [World.size_alloc]; omega) ?_; intro v' w' hown' hg' hat')
          have hb3 : Below w.heap.size w w' := (hbw2.alloc (by omega) _).grown hg' (by rw [World.size_alloc]; omega) (fun g hg => by have := own_ge hown2 g hg; omega)
          have hit3 : w'.heap[w.heap.size]? = some (.stringIter ⟨l.toArray⟩ (pos + 1)) := by
            rw [hg'.block w.heap.size (by rw [World.size_alloc]; omega) (fun h => by have := own_ge hown2 _ h.symm; omega), Below.heap_alloc _ _ _ hlt1]; exact HIT.out
          rw [show [tv seg] = [seg].map tv from rfl, ← List.map_append] at hown'
          go_roundw
          case rel => exact ⟨pos + 1, pos + 1, acc ++ [seg], by omega, Nat.le_refl _, by simp; omega, by go_num, hit3, by rw [List.length_append]; exact hown', hb3, by show _ = _; rw [HR.out, HS.out]; simp⟩
          case measure => rw [iterPos_of hit3, HM.out]; omega
        · have hS := pieces_round hb ST.out r1
          have HS := Lib.hid hS
          have c1 : ((r : Int) == 47) = false := by simp; omega
          have HIT := Lib.hid hit2
          have HM := Lib.hid hm
          clear hS hit2 hm
          go_wp2
          go_roundw
          case rel => exact ⟨pos + k, b, acc, hf, by omega, by omega, rfl, HIT.out, hown2, hbw2, by show _ = _; rw [HR.out, HS.out]⟩
          case measure => rw [iterPos_of HIT.out, HM.out]; omega
      · obtain rfl : pos = l.length := by omega
        have hnx : ∀ ty, (Instr.next (.pointer (some ⟨w.heap.size, 0, none⟩)) true ty).run Try.prog wr = _ := fun ty => Lib.run_next_end_at wr w.heap.size ⟨l.toArray⟩ l.length ty hit (by rw [size_mk]; omega)
        have hlt1 : w.heap.size < wr.heap.size := (Array.getElem?_eq_some_iff.1 hit).1
        have hcut := run_tfrom l b hb (b : Int) rfl
        have hE : R = acc ++ [l.drop b] := by rw [HR.out, List.drop_length, piecesGo, List.take_of_length_le (by simp)]
        have HE := Lib.hid hE
        clear hE hm hit
        generalize l.drop b = seg at *
        have hnew := Lies.new wr 9 [tv seg]
        go_wp2_with (at_builtin; refine wpList_append_src _ rfl (.tmp 26) (.tmp 30) _ rfl (w.heap.size + 1) 9 i0 _ 16 Try.underlying60 hi0 hz0 hz1 hz2 rfl u3 acc.length _ rfl (hown.alloc _) _ _ 1 1 [tv seg] rfl rfl hnew (by simp [Value.oneCell']) (by unfold maxLen; omega) (by omega) (by rw [World.size_alloc]; omega) ?_; intro v' w' hown' hg' hat')
        have hb3 : Below w.heap.size w w' := (hbw.alloc (by omega) _).grown hg' (by rw [World.size_alloc]; omega) (fun g hg => by have := own_ge hown g hg; omega)
        go_ret
        rw [show [tv seg] = [seg].map tv from rfl, ← List.map_append] at hown'
        exact ⟨v', rfl, by rw [HE.out, List.length_append]; exact own_base hown' (by omega), hb3⟩
end Go.Proofs.Ytanofmejokgijaa
