/-
  Contracts, joined (LzE LzF LzG L5A FrA FrG FrB FrC).
-/
import Derived.Test.YtbcldknecdbemaaDoorP7
import Derived.Test.YtbcldknecdbemaaDoorP2
import Derived.ScopeJumps
import Derived.WalkMore
import Derived.Test.YtbcldknecdbemaaDoorP1
import Derived.Lib.SlBytesConst
import Derived.Lib.SmallJoins
import Derived.Test.YtbcldknecdbemaaDoorP6
import Derived.Defers
import Derived.Recover
import Derived.WalkLawsBesides
import Derived.Test.YtbcldknecdbemaaDoorP3

/-
  Contract of lz's Pack.
-/
namespace Go.Proofs.YtbcldknecdbemaaDoor
open Go.RowKit
set_option linter.unusedVariables false
set_option maxRecDepth 20000

/-- The places that a match at i may begin at. -/
def wnd (bs : List UInt8) (i : Nat) : List UInt8 → List Nat := win bs (i - min i 1024) (min i 1024)
theorem wnd_short (bs : List UInt8) (i : Nat) (k : List UInt8) (h : k.length ≠ 4) : wnd bs i k = [] := win_short h
theorem wnd_low {bs : List UInt8} {i : Nat} (h : i < 1024) : wnd bs i = win bs 0 i ∧ wnd bs (i + 1) = win bs 0 (i + 1) := by
  unfold wnd
  rw [Nat.min_eq_left (by omega), Nat.min_eq_left (by omega), Nat.sub_self, Nat.sub_self]
  exact ⟨rfl, rfl⟩
theorem wnd_high {bs : List UInt8} {i : Nat} (h : ¬ i < 1024) : wnd bs i = win bs (i - 1024) 1024 ∧ wnd bs (i + 1) = win bs (i - 1024 + 1) 1024 := by
  unfold wnd
  rw [Nat.min_eq_right (by omega), Nat.min_eq_right (by omega), show i + 1 - 1024 = i - 1024 + 1 by omega]
  exact ⟨rfl, rfl⟩
theorem wnd_lt {bs : List UInt8} {i : Nat} {k : List UInt8} {j : Nat} (h : j ∈ wnd bs i k) : j < i := by
  unfold wnd win at h
  have := (List.mem_filter.1 h).1
  rw [List.mem_range'_1] at this
  omega
theorem wnd_len (bs : List UInt8) (i : Nat) (k : List UInt8) : (wnd bs i k).length ≤ 1024 := Nat.le_trans (win_len _ _ _ _) (Nat.min_le_right _ _)
theorem take4 {bs : List UInt8} {i j : Nat} (h : ∀ t, t < 4 → i + t < bs.length ∧ bs[i + t]? = bs[j + t]?) : (bs.drop j).take 4 = (bs.drop i).take 4 ∧ ((bs.drop i).take 4).length = 4 := by
  refine ⟨List.ext_getElem? fun t => ?_, ?_⟩
  · rw [List.getElem?_take, List.getElem?_take]
    split
    · rw [List.getElem?_drop, List.getElem?_drop]; exact (h t ‹_›).2.symm
    · rfl
  · have := (h 3 (by omega)).1
    rw [List.length_take, List.length_drop]
    omega
theorem wnd_match {bs : List UInt8} {i : Nat} (h : i < bs.length) : lgo bs i (wnd bs i ((bs.drop i).take 4)) = matchOf bs i := by
  unfold wnd win
  rw [lgo_filter, lgo_match h]
  intro j hj hp
  rw [List.mem_range'_1] at hj
  rcases Nat.lt_or_ge (mlen bs i (i - j)) 4 with h4 | h4
  · exact h4
  · have := take4 (bs := bs) (i := i) (j := j) fun t ht => by
      have := mlen_at (b := bs) (i := i) (d := i - j) (t := t) (by omega)
      rwa [show i + t - (i - j) = j + t by omega] at this
    simp [this.1, this.2] at hp
theorem own_same {w w' : World} {base : Nat} {e : TypeId} {size : Nat} {v : Value} {n : Nat} {xs : List Value} (h : w.ownsRow base e size v n xs) (hs : ∀ g, v.ownBlock = some g → w'.heap[g]? = w.heap[g]?) : w'.ownsRow base e size v n xs := by
  obtain ⟨h1, h2⟩ := h
  refine ⟨h1, ?_⟩
  rcases h2 with h2 | ⟨g, cap, cur, rfl, h3, h4, h5⟩
  · exact .inl h2
  · exact .inr ⟨g, cap, cur, rfl, h3, (hs g rfl).trans h4, h5⟩
theorem own_base {w : World} {base base' : Nat} {e : TypeId} {size : Nat} {v : Value} {n : Nat} {xs : List Value} (h : w.ownsRow base e size v n xs) (hb : base' ≤ base) : w.ownsRow base' e size v n xs := by
  obtain ⟨h1, h2⟩ := h
  refine ⟨h1, ?_⟩
  rcases h2 with h2 | ⟨g, cap, cur, rfl, h3, h4⟩
  · exact .inl h2
  · exact .inr ⟨g, cap, cur, rfl, by omega, h4⟩
theorem wpList_makeMap {P : Program} {ops : Array Oper} {rest : List Oper} {o : Oper} {a : Act} {w : World} {Q : Exit → Act → World → Prop} (hgd : o.guard = none) (t : TypeId) (ho : o.op = .makeMap t none)
    (hk : wpList P ops Q rest (a.put o.dst (.map (some w.heap.size))) (w.alloc (.map #[] 0))) : wpList P ops Q (o :: rest) a w := by
  refine wpList_plain hgd fun K' hK' => ?_
  have h : (Instr.makeMap t none).run P w = .ok (.map (some w.heap.size)) (w.alloc (.map #[] 0)) := by simp [Instr.makeMap, newObj, Sem.run]
  unfold Oper.wp execOp
  simp only [ho, Option.map_none, Sem.run_bind, h, Result.andThen_ok, Sem.run_pure]
  exact hK' _ _ hk
theorem Places.wrote {w w' : World} {b : Nat} {p p' : Value} {L : List UInt8 → List Nat} (h : Places w b p.ownBlock L) (hW : Wrote p p' w w') (hb : some b ≠ p.ownBlock) : Places w' b p'.ownBlock L := by
  obtain ⟨f, hM, hf, hd⟩ := h
  refine ⟨f, hM.kept hW.grown hb, fun k => ?_, hd⟩
  rcases hf k with h1 | ⟨v, h1, h2, h3, h4, h5⟩
  · exact .inl h1
  · refine .inr ⟨v, h1, h2, h3.kept hW.grown h5, h4, fun e => ?_⟩
    obtain ⟨g, eg, hlt⟩ := h3.lt
    rcases hW.at_ with e1 | ⟨g', e1, hge⟩
    · exact h5 (e.trans e1)
    · rw [eg, e1] at e; injection e with e; omega
theorem Kept.refl (b : Nat) (pb : Option Nat) (w : World) : Kept b pb w w := ⟨Below.refl b w, fun _ _ => rfl⟩
theorem Kept.trans {b : Nat} {pb : Option Nat} {w w1 w2 : World} (h : Kept b pb w w1) (k : Kept b pb w1 w2) : Kept b pb w w2 := ⟨h.1.trans k.1, fun g hg => (k.2 g hg).trans (h.2 g hg)⟩
theorem lits_le (l : List UInt8) : (lits l).length ≤ 2 * l.length := by
  have := lits_len l.length l rfl
  omega

set_option maxRecDepth 20000 in
set_option maxHeartbeats 1000000 in
theorem pack_any (A : Option Addr) (n c : Nat) (bs : List UInt8) (w : World) (hl : bs.length = n) (hr : Lies w w.heap.size A (bs.map bv)) (hc : n ≤ c) (hn : n ≤ 1000000000) :
    Calls Tryd.prog 96 #[.slice A n c] w fun e w' => ∃ v, e = .returned v ∧ w'.ownsRow w.heap.size 5 1 v (packOf bs).length ((packOf bs).map bv) ∧ Grows w w' := by
  have HL := Lib.hid hl
  clear hl
  have HF : Hid (packOf bs = [] ++ packFrom bs 0 0) := rfl
  obtain ⟨W, hW⟩ : ∃ W, W = packOf bs := ⟨_, rfl⟩
  rw [← hW] at HF ⊢
  clear hW
  have hg0 : Grows w (w.alloc (.map #[] 0)) := grows_alloc w _
  have hP0 : Places (w.alloc (.map #[] 0)) w.heap.size none (wnd bs 0) := ⟨fun _ => none, MapAt.new w, fun k => .inl ⟨rfl, rfl⟩, fun _ _ _ _ _ h => by cases h⟩
  have hs0 : (w.alloc (.map #[] 0)).heap.size = w.heap.size + 1 := World.size_alloc _ _
  go_enter Tryd.func96, Tryd.ntmps96
  go_wp2_with (with_reducible refine wpList_makeMap rfl 178 rfl ?_)
  generalize w.alloc (.map #[] 0) = w0 at *
  go_loopw [3, 5, 6, 7, 8] (fun p f q _ _ wr => ∃ (i fr : Nat) (out : List UInt8), i ≤ n ∧ fr ≤ i ∧ f = iv fr ∧ q = iv i ∧ Hid (W = out ++ packFrom bs i fr) ∧ out.length ≤ 2 * fr ∧ wr.ownsRow (w.heap.size + 1) 5 1 p out.length (out.map bv) ∧
      Places wr w.heap.size p.ownBlock (wnd bs i) ∧ Grows w wr ∧ w0.heap.size ≤ wr.heap.size) (fun _ _ q _ _ _ => n - (intOf q).toNat)
  case atStart => exact ⟨0, 0, [], Nat.zero_le _, Nat.le_refl _, rfl, rfl, HF.out, Nat.le_refl _, World.ownsRow_nil _ _ _ _, hP0, hg0, Nat.le_refl _⟩
  case round =>
    clear hP0 hg0
    obtain ⟨i, fr, out, hin, hfi, rfl, rfl, HO, hol, hown, hPl, hgr, hsz⟩ := hrel
    have hbw : w.heap.size < wr.heap.size := by omega
    have hpw : ∀ g, (u3 : Value).ownBlock = some g → g < wr.heap.size := fun g hg => (hown.lt g hg).2
    have hpb : some w.heap.size ≠ (u3 : Value).ownBlock := fun e => by have := (hown.lt _ e.symm).1; omega
    by_cases hi : i < n
    · go_wp2_with fail
      refine (at_any w.heap.size _ (wnd bs i) A n c i bs wr hPl (wnd_short bs i) HL.out (hr.later hgr) hc hi (by omega)).mono ?_
      rintro e w1 ⟨A2, c2, rfl, hL2, rfl⟩
      have hlong := longest_any A n c i bs A2 _ c2 (wnd bs i ((bs.drop i).take 4)) w1 HL.out (hr.later hgr) rfl hL2 (fun j hj => wnd_lt hj) hi (by omega) (by have := wnd_len bs i ((bs.drop i).take 4); omega)
      rw [wnd_match (by rw [HL.out]; exact hi)] at hlong
      generalize wnd bs i ((bs.drop i).take 4) = js at *
      clear hL2
      go_wp2_with fail
      refine hlong.mono ?_
      rintro e w2 ⟨rfl, hg2⟩
      clear hlong
      have hgr2 := Grows.trans hgr hg2
      have hP2 := hPl.grows hg2
      have hown2 := own_later hown hg2
      have hsz2 := Nat.le_trans hsz hg2.size
      have hbw2 : w.heap.size < w2.heap.size := Nat.lt_of_lt_of_le hbw hg2.size
      have hpw2 : ∀ g, (u3 : Value).ownBlock = some g → g < w2.heap.size := fun g hg => (hown2.lt g hg).2
      clear hgr hPl hown hg2 hsz hbw hpw
      have HM1 := Lib.hid (@pack_none bs i fr (by rw [HL.out]; exact hi))
      have HM2 := Lib.hid (@pack_some bs i fr (by rw [HL.out]; exact hi))
      have HM3 := Lib.hid (@match_some bs i)
      obtain ⟨x, y, hxy⟩ : ∃ x y, matchOf bs i = (x, y) := ⟨_, _, rfl⟩
      rw [hxy] at HM1 HM2 HM3 ⊢
      simp only [] at HM1 HM2 HM3 ⊢
      have HXY := Lib.hid hxy
      clear hxy
      by_cases hx : x = 0
      · subst hx
        have HO2 : Hid (W = out ++ packFrom bs (i + 1) fr) := by show _ = _; rw [HO.out, HM1.out rfl]
        clear HM1 HM2 HM3 HO
        go_wp2_with fail
        go_loopw [6, 41] (fun q t wv => ∃ k i' : Nat, k ≤ 1 ∧ i' = i + k ∧ t = iv k ∧ q = iv i' ∧ Places wv w.heap.size (u3 : Value).ownBlock (wnd bs i') ∧ Kept w.heap.size (u3 : Value).ownBlock w2 wv) (fun _ t _ => 1 - (intOf t).toNat)
        case atStart => exact ⟨0, i, Nat.zero_le _, rfl, rfl, rfl, hP2, Kept.refl _ _ _⟩
        case round =>
          obtain ⟨k, i', hk, hi', rfl, rfl, hPk, hKk⟩ := hrel
          by_cases hkt : k < 1
          · have hin' : i' < n := by omega
            have HI := Lib.hid hi'
            clear hi'
            have hgk : Grows w wr := Below.trans hgr2 hKk.1
            have hbk : w.heap.size < wr.heap.size := Nat.lt_of_lt_of_le hbw2 hKk.1.size
            have hpk : ∀ g, (u3 : Value).ownBlock = some g → g < wr.heap.size := fun g hg => Nat.lt_of_lt_of_le (hpw2 g hg) hKk.1.size
            by_cases h1024 : i' < 1024
            · rw [(wnd_low h1024).1] at hPk
              have hn12 : n ≤ 1000000000000 := by omega
              have hz0 : 0 + i' = i' := Nat.zero_add _
              have hkeep := keep_any w.heap.size (u3 : Value).ownBlock A n c i' 0 i' bs wr hPk hz0 hpb hpk hbk HL.out (hr.later hgk) hc hin' hn12
              have HKEEP := Lib.hid hkeep
              clear hkeep
              go_wp2_with fail
              refine HKEEP.out.mono ?_
              rintro e w5 ⟨⟨ve, rfl⟩, hP5, hK5⟩
              rw [← (wnd_low h1024).2] at hP5
              go_wp2_with fail
              refine (forget_none w.heap.size A n c _ w5 (by omega)).mono ?_
              rintro e w6 ⟨⟨vf, rfl⟩, rfl⟩
              go_wp2_with fail
              go_roundw
              case rel => exact ⟨k + 1, i' + 1, by omega, by have := HI.out; omega, by go_num, by go_num, hP5, hKk.trans hK5⟩
              case measure => simp [intOf]; omega
            · rw [(wnd_high h1024).1] at hPk
              have e24 : (i' : Int) - 1024 = ((i' - 1024 : Nat) : Int) := by omega
              have hn12 : n ≤ 1000000000000 := by omega
              have hz0 : i' - 1024 + 1024 = i' := by omega
              have hkeep := keep_any w.heap.size (u3 : Value).ownBlock A n c i' (i' - 1024) 1024 bs wr hPk hz0 hpb hpk hbk HL.out (hr.later hgk) hc hin' hn12
              have HKEEP := Lib.hid hkeep
              clear hkeep
              go_wp2_with fail
              refine HKEEP.out.mono ?_
              rintro e w5 ⟨⟨ve, rfl⟩, hP5, hK5⟩
              have hg5 : Grows w w5 := Below.trans hgk hK5.1
              go_wp2_with fail
              refine (forget_any w.heap.size _ A n c (i' - 1024) 1024 bs w5 hP5 hpb (fun g hg => Nat.lt_of_lt_of_le (hpk g hg) hK5.1.size) (Nat.lt_of_lt_of_le hbk hK5.1.size) HL.out (hr.later hg5) hc (by omega) (by omega) (by omega)).mono ?_
              rintro e w6 ⟨⟨vf, rfl⟩, hP6, hK6⟩
              rw [← (wnd_high h1024).2] at hP6
              go_wp2_with fail
              go_roundw
              case rel => exact ⟨k + 1, i' + 1, by omega, by have := HI.out; omega, by go_num, by go_num, hP6, (hKk.trans hK5).trans hK6⟩
              case measure => simp [intOf]; omega
          · obtain rfl : i' = i + 1 := by omega
            go_wp2_with fail
            go_roundw
            case rel => exact ⟨i + 1, fr, out, by omega, by omega, rfl, by go_num, HO2.out, hol, own_same hown2 hKk.2, hPk, Below.trans hgr2 hKk.1, Nat.le_trans hsz2 hKk.1.size⟩
            case measure => simp [intOf]; omega
      · obtain ⟨x4, x131, y1, yi, y1024, xn, _⟩ := HM3.out hx
        rw [HL.out] at xn
        have hxp : (0 : Int) < (x : Int) := by omega
        have hmax : (if (1 : Int) < (x : Int) then (x : Int) else 1) = (x : Int) := by split <;> omega
        have HO2 : Hid (W = out ++ (lits ((bs.drop fr).take (i - fr)) ++ (mtok (x, y) ++ packFrom bs (i + x) (i + x)))) := by show _ = _; rw [HO.out, HM2.out hx]
        clear HM1 HM2 HM3 HO
        have HPL : Hid (((bs.drop fr).take (i - fr)).length = i - fr) := by show _ = _; rw [List.length_take, List.length_drop, HL.out]; omega
        have hLB : Lies w2 (w.heap.size + 1) A (bs.map bv) := (hr.below hgr2).mono (by omega)
        have hLt : Lies w2 (w.heap.size + 1) (if c = fr then A else A.map (·.add fr)) (((bs.drop fr).take (i - fr)).map bv) := by
          rw [List.map_take, List.map_drop]; exact (hLB.cut (by rw [List.length_map, HL.out]; exact hc)).take _
        have hLt2 : Lies w2 (w.heap.size + 1) (A.map (·.add fr)) (((bs.drop fr).take (i - fr)).map bv) := by
          rw [List.map_take, List.map_drop]; exact (hLB.from_ _).take _
        go_wp2_with fail
        refine (putlits_any u3 (w.heap.size + 1) out.length out _ (i - fr) (c - fr) ((bs.drop fr).take (i - fr)) w2 hown2 HPL.out hLt2 (by omega) (by omega) (by omega)).mono ?_
        rintro e w3 ⟨v1, rfl, hown3, hW3⟩
        have hll := lits_le ((bs.drop fr).take (i - fr))
        rw [HPL.out] at hll
        have hlo : (out ++ lits ((bs.drop fr).take (i - fr))).length ≤ 2 * i := by rw [List.length_append]; omega
        go_wp2_with fail
        refine (putmatch_any v1 (w.heap.size + 1) _ _ x y w3 hown3 (by have := hW3.grown.size; omega) (by omega) ⟨x4, x131⟩ ⟨y1, by omega⟩).mono ?_
        rintro e w4 ⟨v2, rfl, hown4, hW4⟩
        have hWW := hW3.trans hW4
        have hP4 := hP2.wrote hWW hpb
        have hgr4 : Grows w w4 := Below.trans hgr2 (hWW.below (by omega) (fun g hg => by have := (hown2.lt g hg).1; omega))
        have hbw4 : w.heap.size < w4.heap.size := Nat.lt_of_lt_of_le hbw2 hWW.grown.size
        have hpw4 : ∀ g, (v2 : Value).ownBlock = some g → g < w4.heap.size := fun g hg => (hown4.lt g hg).2
        have hpb4 : some w.heap.size ≠ (v2 : Value).ownBlock := fun e => by have := (hown4.lt _ e.symm).1; omega
        have hsz4 := Nat.le_trans hsz2 hWW.grown.size
        have hol4 : (out ++ lits ((bs.drop fr).take (i - fr)) ++ mtok (x, y)).length ≤ 2 * (i + x) := by rw [List.length_append, mtok_len]; omega
        have HO3 : Hid (W = (out ++ lits ((bs.drop fr).take (i - fr)) ++ mtok (x, y)) ++ packFrom bs (i + x) (i + x)) := by show _ = _; rw [HO2.out]; simp
        clear hown3 hW3 hW4 hlo hll HO2 hLt hLt2 hLB HPL hown2 hP2 hWW
        go_wp2_with fail
        go_loopw [6, 41] (fun q t wv => ∃ k i' : Nat, k ≤ x ∧ i' = i + k ∧ t = iv k ∧ q = iv i' ∧ Places wv w.heap.size (v2 : Value).ownBlock (wnd bs i') ∧ Kept w.heap.size (v2 : Value).ownBlock w4 wv) (fun _ t _ => x - (intOf t).toNat)
        case atStart => exact ⟨0, i, Nat.zero_le _, rfl, rfl, rfl, hP4, Kept.refl _ _ _⟩
        case round =>
          obtain ⟨k, i', hk, hi', rfl, rfl, hPk, hKk⟩ := hrel
          by_cases hkt : k < x
          · have hin' : i' < n := by omega
            have HI := Lib.hid hi'
            clear hi'
            have hgk : Grows w wr := Below.trans hgr4 hKk.1
            have hbk : w.heap.size < wr.heap.size := Nat.lt_of_lt_of_le hbw4 hKk.1.size
            have hpk : ∀ g, (v2 : Value).ownBlock = some g → g < wr.heap.size := fun g hg => Nat.lt_of_lt_of_le (hpw4 g hg) hKk.1.size
            by_cases h1024 : i' < 1024
            · rw [(wnd_low h1024).1] at hPk
              have hn12 : n ≤ 1000000000000 := by omega
              have hz0 : 0 + i' = i' := Nat.zero_add _
              have hkeep := keep_any w.heap.size (v2 : Value).ownBlock A n c i' 0 i' bs wr hPk hz0 hpb4 hpk hbk HL.out (hr.later hgk) hc hin' hn12
              have HKEEP := Lib.hid hkeep
              clear hkeep
              go_wp2_with fail
              refine HKEEP.out.mono ?_
              rintro e w5 ⟨⟨ve, rfl⟩, hP5, hK5⟩
              rw [← (wnd_low h1024).2] at hP5
              go_wp2_with fail
              refine (forget_none w.heap.size A n c _ w5 (by omega)).mono ?_
              rintro e w6 ⟨⟨vf, rfl⟩, rfl⟩
              go_wp2_with fail
              go_roundw
              case rel => exact ⟨k + 1, i' + 1, by omega, by have := HI.out; omega, by go_num, by go_num, hP5, hKk.trans hK5⟩
              case measure => simp [intOf]; omega
            · rw [(wnd_high h1024).1] at hPk
              have e24 : (i' : Int) - 1024 = ((i' - 1024 : Nat) : Int) := by omega
              have hn12 : n ≤ 1000000000000 := by omega
              have hz0 : i' - 1024 + 1024 = i' := by omega
              have hkeep := keep_any w.heap.size (v2 : Value).ownBlock A n c i' (i' - 1024) 1024 bs wr hPk hz0 hpb4 hpk hbk HL.out (hr.later hgk) hc hin' hn12
              have HKEEP := Lib.hid hkeep
              clear hkeep
              go_wp2_with fail
              refine HKEEP.out.mono ?_
              rintro e w5 ⟨⟨ve, rfl⟩, hP5, hK5⟩
              have hg5 : Grows w w5 := Below.trans hgk hK5.1
              go_wp2_with fail
              refine (forget_any w.heap.size _ A n c (i' - 1024) 1024 bs w5 hP5 hpb4 (fun g hg => Nat.lt_of_lt_of_le (hpk g hg) hK5.1.size) (Nat.lt_of_lt_of_le hbk hK5.1.size) HL.out (hr.later hg5) hc (by omega) (by omega) (by omega)).mono ?_
              rintro e w6 ⟨⟨vf, rfl⟩, hP6, hK6⟩
              rw [← (wnd_high h1024).2] at hP6
              go_wp2_with fail
              go_roundw
              case rel => exact ⟨k + 1, i' + 1, by omega, by have := HI.out; omega, by go_num, by go_num, hP6, (hKk.trans hK5).trans hK6⟩
              case measure => simp [intOf]; omega
          · obtain rfl : i' = i + x := by omega
            go_wp2_with fail
            go_roundw
            case rel => exact ⟨i + x, i + x, out ++ lits ((bs.drop fr).take (i - fr)) ++ mtok (x, y), by omega, Nat.le_refl _, by go_num, by go_num, HO3.out, hol4, own_same hown4 hKk.2, hPk, Below.trans hgr4 hKk.1, Nat.le_trans hsz4 hKk.1.size⟩
            case measure => simp [intOf]; omega
    · have HO2 : Hid (W = out ++ lits (bs.drop fr)) := by show _ = _; rw [HO.out, pack_end (by rw [HL.out]; exact hi)]
      have HPL : Hid ((bs.drop fr).length = n - fr) := by show _ = _; rw [List.length_drop, HL.out]
      have hLB : Lies wr (w.heap.size + 1) A (bs.map bv) := (hr.below hgr).mono (by omega)
      by_cases hcf : c = fr
      · obtain rfl : fr = n := by omega
        subst hcf
        have HE : Hid (bs.drop c = []) := List.drop_eq_nil_of_le (by rw [HL.out]; omega)
        have hLt : Lies wr (w.heap.size + 1) A ((bs.drop c).map bv) := by rw [HE.out]; exact Lies.empty
        have HPL0 : Hid ((bs.drop c).length = 0) := by show _ = _; rw [HE.out]; rfl
        go_wp2_with fail
        refine (putlits_any u3 (w.heap.size + 1) out.length out A 0 0 (bs.drop c) wr hown HPL0.out hLt (by omega) (by omega) (by omega)).mono ?_
        rintro e w3 ⟨v1, rfl, hown3, hW3⟩
        rw [← HO2.out] at hown3
        have hgr3 : Grows w w3 := Below.trans hgr (hW3.below (by omega) (fun g hg => by have := (hown.lt g hg).1; omega))
        go_wp2_with fail
        go_ret
        exact ⟨v1, rfl, own_base hown3 (by omega), hgr3⟩
      · have hLt : Lies wr (w.heap.size + 1) (A.map (·.add fr)) ((bs.drop fr).map bv) := by
          rw [List.map_drop]; exact hLB.from_ _
        go_wp2_with fail
        refine (putlits_any u3 (w.heap.size + 1) out.length out _ (n - fr) (c - fr) (bs.drop fr) wr hown HPL.out hLt (by omega) (by omega) (by omega)).mono ?_
        rintro e w3 ⟨v1, rfl, hown3, hW3⟩
        rw [← HO2.out] at hown3
        have hgr3 : Grows w w3 := Below.trans hgr (hW3.below (by omega) (fun g hg => by have := (hown.lt g hg).1; omega))
        go_wp2_with fail
        go_ret
        exact ⟨v1, rfl, own_base hown3 (by omega), hgr3⟩
end Go.Proofs.YtbcldknecdbemaaDoor

/-
  Contracts of lz's first and repeat.
-/
namespace Go.Proofs.YtbcldknecdbemaaDoor
open Go.RowKit
set_option linter.unusedVariables false
set_option maxRecDepth 20000

/-- What the first token tells: how many bytes it has, how many it makes, its distance, whether it is whole. -/
def tokOf : List UInt8 → Nat × Nat × Nat × Bool
  | [] => (0, 0, 0, false)
  | c :: r => if c.toNat < 128 then (c.toNat + 2, c.toNat + 1, 0, decide (c.toNat + 1 ≤ r.length)) else if r.length < 2 then (0, 0, 0, false) else (3, c.toNat - 124, 1 + (r.getD 0 0).toNat + 256 * (r.getD 1 0).toNat, true)
/-- A token as a value. -/
abbrev tvL (t : Nat × Nat × Nat × Bool) : Value := .agg #[iv t.1, iv t.2.1, iv t.2.2.1]

theorem wrap_eq {a : Int} {n : Nat} (h : a = (n : Int)) (hn : n ≤ 1000000000000000) : IntKind.i64.wrap a = (n : Int) := by
  subst h
  simp [IntKind.wrap, IntKind.bits, IntKind.signed]
  omega
theorem tok_desc : (Tryd.prog.underlying 225).map (·.isRow) = some true := by kernel_rfl
theorem tok_size : (Tryd.prog.info? 225).map (·.size) = some 3 := by kernel_rfl
theorem res_has_tmp {P : Program} {w : World} {b : Nat} {vs : List Value} {fn : Func} {p q : Tmp} {t : TypeId} {d : TypeDesc} (h : fn.results = #[.cell p t, .tmp q]) (tmps : Array Value) (hp : tmps.getD p undef = .pointer (some ⟨b, 0, none⟩))
    (ht : P.underlying t = some d) (hd : d.isRow = true) (hi : (P.info? t).map (·.size) = some vs.length) (hb : Has w b vs) : (results fn tmps).run P w = .ok (.tuple #[.agg vs.toArray, tmps.getD q undef]) w := by
  rw [results_cell_tmp h, hp]
  simp only [asAddr, Sem.run_pure, Result.andThen_ok, run_loadVar_mid w b 0 t vs d hb.cells ht hd hi]

set_option maxRecDepth 20000 in
set_option maxHeartbeats 1000000 in
theorem first_any (A : Option Addr) (n c : Nat) (x : UInt8) (r : List UInt8) (w : World) (hl : r.length + 1 = n) (hr : Lies w w.heap.size A ((x :: r).map bv)) (hn : n ≤ 1000000000000) :
    Calls Tryd.prog 146 #[.slice A n c] w fun e w' => e = .returned (.tuple #[tvL (tokOf (x :: r)), .bool (tokOf (x :: r)).2.2.2]) ∧ Grows w w' := by
  have HL := Lib.hid hl
  clear hl
  obtain ⟨td, htd, htr⟩ := Option.map_eq_some_iff.1 tok_desc
  obtain ⟨ad, rfl, _, cx⟩ := hr.at_ (j := 0) (u := bv x) rfl
  have hbox := Has.new w 225 [.int .i64 0, .int .i64 0, .int .i64 0]
  have c0 : (w.alloc (.cells #[.int .i64 0, .int .i64 0, .int .i64 0] 225)).cell? ad = some (bv x) := by rw [add_zero_addr] at cx; exact hcell_later cx (grows_alloc _ _)
  have hn0 : (0 : Int) < (n : Int) := by have := HL.out; omega
  have hx8 := x.toNat_lt
  by_cases h1 : x.toNat < 128
  · have HT : Hid (tokOf (x :: r) = (x.toNat + 2, x.toNat + 1, 0, decide (x.toNat + 1 ≤ r.length))) := by show _ = _; rw [tokOf, if_pos h1]
    go_enter Tryd.func146, Tryd.ntmps146
    go_wp2_with fail
    refine bodyPost_ret (res_has_tmp (vs := [.int .i64 (1 + ((x.toNat : Int) + 1)), .int .i64 ((x.toNat : Int) + 1), .int .i64 0]) rfl _ rfl htd htr tok_size (Has.new w 225 _)) rfl ?_
    refine ⟨?_, grows_alloc _ _⟩
    rw [HT.out]
    have e1 : (1 : Int) + ((x.toNat : Int) + 1) = ((x.toNat + 2 : Nat) : Int) := by omega
    have e2 : (x.toNat : Int) + 1 = ((x.toNat + 1 : Nat) : Int) := by omega
    have e3 : decide ((x.toNat : Int) + 1 < (n : Int)) = decide (x.toNat + 1 ≤ r.length) := by have := HL.out; rw [decide_eq_decide]; omega
    show Ending.returned (.tuple #[.agg #[.int .i64 (1 + ((x.toNat : Int) + 1)), .int .i64 ((x.toNat : Int) + 1), .int .i64 0], .bool (decide ((x.toNat : Int) + 1 < (n : Int)))]) = _
    rw [e1, e3, e2]
    rfl
  · by_cases h2 : r.length < 2
    · have HT : Hid (tokOf (x :: r) = (0, 0, 0, false)) := by show _ = _; rw [tokOf, if_neg h1, if_pos h2]
      have hn3 : (n : Int) < 3 := by have := HL.out; omega
      go_enter Tryd.func146, Tryd.ntmps146
      go_wp2_with fail
      refine bodyPost_ret (res_has_tmp (vs := [.int .i64 0, .int .i64 0, .int .i64 0]) rfl _ rfl htd htr tok_size (Has.new w 225 _)) rfl ?_
      refine ⟨?_, grows_alloc _ _⟩
      rw [HT.out]
      rfl
    · obtain ⟨y, z, r', rfl⟩ : ∃ y z r', r = y :: z :: r' := by
        match r, h2 with
        | y :: z :: r', _ => exact ⟨y, z, r', rfl⟩
        | [], h => simp at h
        | [_], h => simp at h
      have HT : Hid (tokOf (x :: y :: z :: r') = (3, x.toNat - 124, 1 + y.toNat + 256 * z.toNat, true)) := by show _ = _; rw [tokOf, if_neg h1, if_neg h2]; rfl
      have hn3 : (3 : Int) ≤ (n : Int) := by have := HL.out; simp at this; omega
      obtain ⟨ad1, e1, _, c1⟩ := hr.at_ (j := 1) (u := bv y) rfl
      injection e1 with e1
      subst e1
      obtain ⟨ad2, e2, _, c2⟩ := hr.at_ (j := 2) (u := bv z) rfl
      injection e2 with e2
      subst e2
      have hy8 := y.toNat_lt
      have hz8 := z.toNat_lt
      go_enter Tryd.func146, Tryd.ntmps146
      go_wp2_with fail
      have hgA : Grows w (w.alloc (.cells #[.int .i64 0, .int .i64 0, .int .i64 0] 225)) := grows_alloc _ _
      generalize w.alloc (.cells #[.int .i64 0, .int .i64 0, .int .i64 0] 225) = wa at *
      have l1 : ∀ u, Grows wa.drew u → u.cell? ⟨ad.block, ad.off + 1, none⟩ = some (bv y) := fun u hu => hcell_later (by simpa [Addr.add] using c1) (Grows.trans hgA (Grows.trans (Grows.refl wa).drew hu))
      have l2 : ∀ u, Grows wa.drew u → u.cell? ⟨ad.block, ad.off + 2, none⟩ = some (bv z) := fun u hu => hcell_later (by simpa [Addr.add] using c2) (Grows.trans hgA (Grows.trans (Grows.refl wa).drew hu))
      have k1 : (1 : Int) < (n : Int) := by omega
      have k2 : (2 : Int) < (n : Int) := by omega
      have k1' : 1 < n := by omega
      have k2' : 2 < n := by omega
      have v1 : IntKind.i64.wrap ((x.toNat : Int) - 128) = ((x.toNat - 128 : Nat) : Int) := wrap_eq (by omega) (by omega)
      have v2 : IntKind.i64.wrap (((x.toNat - 128 : Nat) : Int) + 4) = ((x.toNat - 124 : Nat) : Int) := wrap_eq (by omega) (by omega)
      have v3 : IntKind.i64.wrap (1 + (y.toNat : Int)) = 1 + (y.toNat : Int) := by rw [wrap_eq (n := 1 + y.toNat) (by omega) (by omega)]; omega
      have vy : IntKind.i64.wrap (y.toNat : Int) = (y.toNat : Int) := wrap_eq rfl (by omega)
      have vz : IntKind.i64.wrap (z.toNat : Int) = (z.toNat : Int) := wrap_eq rfl (by omega)
      have v4 : IntKind.i64.wrap ((z.toNat : Int) * 256) = 256 * (z.toNat : Int) := by rw [wrap_eq (n := 256 * z.toNat) (by omega) (by omega)]; omega
      have v5 : IntKind.i64.wrap (1 + (y.toNat : Int) + 256 * (z.toNat : Int)) = 1 + (y.toNat : Int) + 256 * (z.toNat : Int) := by rw [wrap_eq (n := 1 + y.toNat + 256 * z.toNat) (by omega) (by omega)]; omega
      have hO := Grows.refl wa.drew
      refine wp_region_ord 15 [(0, true), (1, true), (2, true), (3, true), (4, true), (5, true), (6, true), (7, true), (8, true), (9, true), (10, true), (11, true), (12, true), (13, true), (14, true)] (by kernel_rfl) (by kernel_rfl) ?_
      repeat (first | (refine ord_take hO _ ?_ (by simp only [List.getElem?_cons_succ, List.getElem?_cons_zero]; rfl) (by rfl) ?_ ?_; rotate_left; (· (intro u hu0 hu; (try go_simp); (try with_reducible rfl))); try simp only [Act.put, List.setIfInBounds_toArray, List.set_cons_zero, List.set_cons_succ]) | (refine ord_skip _ (by simp only [List.getElem?_cons_succ, List.getElem?_cons_zero]; rfl) (by rfl) ?_; try simp only [Act.put, List.setIfInBounds_toArray, List.set_cons_zero, List.set_cons_succ]))
      clear hO l1 l2 v1 v2 v3 v4 v5 vy vz
      (refine ord_done (fun u hu => ?_); simp only [List.drop_succ_cons, List.drop_zero])
      have hgu := Grows.trans hgA (Grows.trans (Grows.refl wa).drew hu)
      have hbu := hbox.later (Grows.trans (Grows.refl wa).drew hu)
      go_wp2_with (refine wpList_storev rfl 225 (.tmp 2) (.tmp 40) rfl w.heap.size [.int .i64 0, .int .i64 0, .int .i64 0] [.int .i64 3, iv (x.toNat - 124), .int .i64 (1 + (y.toNat : Int) + 256 * (z.toNat : Int))] 3 rfl rfl hbu rfl rfl tok_size (by simp [Value.oneCell']) ?_; intro w1 hbox1 hbel1)
      refine NoPanic.normal ?_
      go_wp2_with fail
      refine bodyPost_ret (res_has_tmp (vs := [.int .i64 3, iv (x.toNat - 124), .int .i64 (1 + (y.toNat : Int) + 256 * (z.toNat : Int))]) rfl _ rfl htd htr tok_size hbox1) rfl ?_
      refine ⟨?_, hbel1 w.heap.size w (Nat.le_refl _) hgu⟩
      have e9 : 1 + (y.toNat : Int) + 256 * (z.toNat : Int) = ((1 + y.toNat + 256 * z.toNat : Nat) : Int) := by omega
      rw [HT.out, e9]
      rfl

set_option maxRecDepth 20000 in
set_option maxHeartbeats 1000000 in
theorem repeat_any (v : Value) (base m : Nat) (out : List UInt8) (ln d : Nat) (w : World) (hown : w.ownsRow base 5 1 v m (out.map bv)) (hb : base ≤ w.heap.size) (hd : 1 ≤ d ∧ d ≤ m) (hn : m + ln ≤ 1000000000000) :
    Calls Tryd.prog 147 #[v, iv ln, iv d] w fun e w' => ∃ v', e = .returned v' ∧ w'.ownsRow base 5 1 v' (copyN ln d out).length ((copyN ln d out).map bv) ∧ Wrote v v' w w' := by
  obtain ⟨i0, hi0, hz0, hz1, hz2⟩ := info_parts byte_info
  have hm : out.length = m := by simpa using hown.1
  subst hm
  go_enter Tryd.func147, Tryd.ntmps147
  go_wp2
  go_loopw [0, 8] (fun p t wr => ∃ (k : Nat) (o' : List UInt8), k ≤ ln ∧ t = iv k ∧ Hid (o' = copyN k d out) ∧ o'.length = out.length + k ∧ wr.ownsRow base 5 1 p o'.length (o'.map bv) ∧ Wrote v p w wr) (fun _ t _ => ln - (intOf t).toNat)
  case atStart => exact ⟨0, out, Nat.zero_le _, rfl, rfl, rfl, hown, Wrote.refl _ _⟩
  case round =>
    obtain ⟨k, o', hk, rfl, HO, hol, hown', hw⟩ := hrel
    by_cases hlt : k < ln
    · obtain ⟨j, hj⟩ : ∃ j, j + d = o'.length := ⟨o'.length - d, by omega⟩
      have hjl : j < o'.length := by omega
      obtain ⟨x, hx⟩ : ∃ x, o'[j]? = some x := ⟨_, List.getElem?_eq_getElem hjl⟩
      have HN : Hid (o' ++ [x] = copyN (k + 1) d out) := by
        show _ = _
        rw [copyN_succ, ← HO.out, show o'.length - d = j by omega, List.getD, hx]; rfl
      obtain ⟨A', c', rfl, hk'⟩ := own_form hown'
      have hLo := Lies.of_own hown'
      obtain ⟨ad, rfl, _, cx⟩ := hLo.at_ (j := j) (u := bv x) (by rw [List.getElem?_map, hx]; rfl)
      clear hx hLo
      have hnew := Lies.new wr 5 [bv x]
      have hwb : base ≤ wr.heap.size := Nat.le_trans hb hw.grown.size
      generalize hol' : o'.length = L at *
      have hjd : (L : Int) - (d : Int) = (j : Int) := by omega
      have hLn : L + 1 ≤ 1000000000000 := by omega
      have HOL := Lib.hid hol
      have HOL' := Lib.hid hol'
      have HJ := Lib.hid hj
      clear hol hol' hj
      go_wp2_with (at_builtin; refine wpList_append_src _ rfl (.tmp 10) (.tmp 18) _ rfl base 5 i0 _ 1 Tryd.underlying22 hi0 hz0 hz1 hz2 rfl _ L _ rfl (hown'.alloc _) _ _ 1 1 [bv x] rfl rfl hnew (by simp [Value.oneCell']) (by unfold maxLen; omega) (by omega) (by rw [World.size_alloc]; omega) ?_; intro v1 w1 hown1 hg1 hat1)
      have hW1 := hw.trans (Wrote.later (grows_alloc _ _) (Wrote.app hg1 hat1))
      rw [show [bv x] = [x].map bv from rfl, ← List.map_append] at hown1
      go_roundw
      case rel => exact ⟨k + 1, o' ++ [x], by omega, by go_num, HN.out, by rw [List.length_append, HOL'.out, HOL.out]; rfl, by rw [List.length_append, HOL'.out]; exact hown1, hW1⟩
      case measure => simp [intOf]; omega
    · obtain rfl : k = ln := by omega
      have hown2 : wr.ownsRow base 5 1 u0 (copyN k d out).length ((copyN k d out).map bv) := by rw [← HO.out]; exact hown'
      go_wp2
      go_ret
      exact ⟨_, rfl, hown2, hw⟩

/-- A scope whose code jumps back to one label, ahead of which c0 stands. -/
theorem wp_jumps {P : Program} {a : Act} {w : World} {Q : Exit → Act → World → Prop} {c0 rest : Code} (l : Nat) (J : Act → World → Prop) (μ : Act → World → Nat) (hf : findLabel (c0.seq ((Code.label l).seq rest)) l = some (Code.skip.seq rest))
    (start : c0.wp P (Exit.then J (fun _ _ _ => False)) a w)
    (pass : ∀ a w, J a w → rest.wp P (Exit.jump l (fun a' w' => J a' w' ∧ μ a' w' < μ a w) Q) a w) : (Code.scope (c0.seq ((Code.label l).seq rest))).wp P Q a w := by
  refine wp_scope_jumps l J μ hf (wp_seq (wp_mono start fun e a w h => ?_)) (fun a w h => wp_seq (wp_skip (pass a w h)))
  cases e with
  | normal =>
    refine wp_seq (wp_label ?_)
    show rest.wp P (Exit.jump l J Q) a w
    refine wp_mono (pass a w h) fun e a w h => ?_
    cases e with
    | goto l' => exact ⟨h.1, h.2.1⟩
    | _ => exact h
  | _ => exact h.elim
end Go.Proofs.YtbcldknecdbemaaDoor

/-
  Contracts of lz's Count and Unpack.
-/
namespace Go.Proofs.YtbcldknecdbemaaDoor
open Go.RowKit
set_option linter.unusedVariables false
set_option maxRecDepth 20000

/-- What a token's parts say of the whole. -/
theorem tok_none {x : UInt8} {r : List UInt8} (h : (tokOf (x :: r)).2.2.2 = false) : (∀ k, cnt (x :: r) k = none) ∧ ∀ most out, unp most (x :: r) out = ([], 2) := by
  rw [tokOf] at h
  by_cases h1 : x.toNat < 128
  · rw [if_pos h1] at h
    have h2 : r.length < x.toNat + 1 := by simpa using h
    exact ⟨fun k => cnt_lit_none h1 h2, fun most out => unp_lit_form h1 h2⟩
  · rw [if_neg h1] at h
    by_cases h2 : r.length < 2
    · exact ⟨fun k => cnt_mat_none h1 h2, fun most out => unp_mat_short h1 h2⟩
    · rw [if_neg h2] at h; cases h
theorem tok_some {x : UInt8} {r : List UInt8} {sz ln ds : Nat} (h : tokOf (x :: r) = (sz, ln, ds, true)) : 1 ≤ sz ∧ sz ≤ r.length + 1 ∧ 1 ≤ ln ∧ ln ≤ 131 ∧ ds ≤ 65536 ∧ (∀ k, cnt (x :: r) k = cnt ((x :: r).drop sz) (k + 1)) ∧
    (ds = 0 → sz = ln + 1) ∧ (∀ (most : Int) (out : List UInt8), (out.length < ds → unp most (x :: r) out = ([], 2)) ∧ (¬ out.length < ds → most < (out.length : Int) + ln → unp most (x :: r) out = ([], 3)) ∧
      (¬ most < (out.length : Int) + ln → ds = 0 → unp most (x :: r) out = unp most ((x :: r).drop sz) (out ++ ((x :: r).drop 1).take ln)) ∧
      (¬ out.length < ds → ¬ most < (out.length : Int) + ln → ds ≠ 0 → unp most (x :: r) out = unp most ((x :: r).drop sz) (copyN ln ds out))) := by
  rw [tokOf] at h
  have hx := x.toNat_lt
  by_cases h1 : x.toNat < 128
  · rw [if_pos h1] at h
    simp only [Prod.mk.injEq] at h
    obtain ⟨rfl, rfl, rfl, h2⟩ := h
    have h3 : ¬ r.length < x.toNat + 1 := by have := of_decide_eq_true h2; omega
    refine ⟨by omega, by omega, by omega, by omega, by omega, fun k => by rw [cnt_lit h1 h3]; rfl, fun _ => rfl, fun most out => ⟨fun h => by omega, fun _ h => unp_lit_range h1 h3 (by omega), fun h _ => ?_, fun _ _ h => absurd rfl h⟩⟩
    rw [unp_lit h1 h3 (by omega)]; rfl
  · rw [if_neg h1] at h
    by_cases h2 : r.length < 2
    · rw [if_pos h2] at h; simp at h
    · rw [if_neg h2] at h
      simp only [Prod.mk.injEq] at h
      obtain ⟨rfl, rfl, rfl, _⟩ := h
      have hy := (r.getD 0 0).toNat_lt
      have hz := (r.getD 1 0).toNat_lt
      refine ⟨by omega, by omega, by omega, by omega, by omega, fun k => by rw [cnt_mat h1 h2]; rfl, fun h => by omega, fun most out => ⟨fun h => unp_mat_far h1 h2 h, fun h h' => unp_mat_range h1 h2 h (by omega), fun _ h => by omega, fun h h' _ => ?_⟩⟩
      rw [unp_mat h1 h2 h (by omega)]; rfl

/-- How many tokens, and the error, as values. -/
def countVal : Option Nat → Value
  | some t => .tuple #[iv t, .int .i64 0]
  | none => .tuple #[.int .i64 0, .int .i64 2]

set_option maxRecDepth 20000 in
set_option maxHeartbeats 4000000 in
theorem unpack_any (A : Option Addr) (n c : Nat) (bs : List UInt8) (most : Int) (w : World) (hl : bs.length = n) (hr : Lies w w.heap.size A (bs.map bv)) (hc : n ≤ c) (hn : n ≤ 1000000000) (hmo : -9223372036854775808 ≤ most ∧ most ≤ 9223372036854775807) :
    Calls Tryd.prog 135 #[.slice A n c, .int .i64 most] w fun e w' => ∃ v, e = .returned (.tuple #[v, iv (unpackOf bs most).2]) ∧ w'.ownsRow w.heap.size 5 1 v (unpackOf bs most).1.length ((unpackOf bs most).1.map bv) ∧ Grows w w' := by
  obtain ⟨i0, hi0, hz0, hz1, hz2⟩ := info_parts byte_info
  obtain ⟨mo1, mo2⟩ := hmo
  go_enter Tryd.func135, Tryd.ntmps135
  go_wp2
  refine wp_jumps 0 (fun a' w' => ∃ (A' : Option Addr) (m c' : Nat) (r : List UInt8) (pv : Value) (out : List UInt8) (u7 u8 u9 u10 u11 u12 u13 u14 u15 u16 u17 u18 u19 u20 u21 u22 u23 u24 u25 u26 u27 u28 u29 u30 u31 u32 u33 u34 u35 u36 u37 u38 u39 u40 u41 u42 u43 u44 u45 u46 u47 u48 u49 u50 u51 u52 : Value), a' = { tmps := #[.slice A' m c', .int .i64 most, undef, undef, .slice none 0 0, .int .i64 0, pv, u7, u8, u9, u10, u11, u12, u13, u14, u15, u16, u17, u18, u19, u20, u21, u22, u23, u24, u25, u26, u27, u28, u29, u30, u31, u32, u33, u34, u35, u36, u37, u38, u39, u40, u41, u42, u43, u44, u45, u46, u47, u48, u49, u50, u51, u52], defers := [] } ∧ r.length = m ∧ m ≤ c' ∧ out.length + 131 * m ≤ 131 * n ∧
    (out.length = 0 ∨ (out.length : Int) ≤ most) ∧ Lies w' w.heap.size A' (r.map bv) ∧ w'.ownsRow w.heap.size 5 1 pv out.length (out.map bv) ∧ Hid (unp most r out = unpackOf bs most) ∧ Grows w w') (fun a' _ => slen (a'.tmps.getD 0 undef)) rfl ?_ ?_
  · go_wp2
    exact ⟨A, n, c, bs, _, [], _, _, _, _, _, _, _, _, _, _, _, _, _, _, _, _, _, _, _, _, _, _, _, _, _, _, _, _, _, _, _, _, _, _, _, _, _, _, _, _, _, _, _, _, _, _, rfl, hl, hc, by simp, .inl rfl, hr, World.ownsRow_nil _ _ _ _, rfl, Grows.refl _⟩
  · rintro a1 w1 ⟨A', m, c', r, pv, out, u7, u8, u9, u10, u11, u12, u13, u14, u15, u16, u17, u18, u19, u20, u21, u22, u23, u24, u25, u26, u27, u28, u29, u30, u31, u32, u33, u34, u35, u36, u37, u38, u39, u40, u41, u42, u43, u44, u45, u46, u47, u48, u49, u50, u51, u52, rfl, hrl, hmc, hlen, hom, hL, hown, HC, hg1⟩
    match r, hrl, hL, HC with
    | [], hrl, hL, HC =>
      obtain rfl : m = 0 := by simpa using hrl.symm
      have HV : Hid (unpackOf bs most = (out, 0)) := by show _ = _; rw [← HC.out, unp_nil]
      go_wp2
      simp only [Exit.jump]
      go_ret2
      rw [HV.out]
      exact ⟨_, rfl, hown, hg1⟩
    | x :: r', hrl, hL, HC =>
      have hrl' : r'.length + 1 = m := by simpa using hrl
      have hwb1 : w.heap.size ≤ w1.heap.size := hg1.size
      have hfirst := first_any A' m c' x r' w1 hrl' (hL.mono hwb1) (by omega)
      have HTN := Lib.hid (@tok_none x r')
      have hm0 : ¬ ((m : Int) = 0) := by omega
      have hmb : ((m : Int) == 0) = false := by simpa using hm0
      obtain ⟨sz, ln, ds, wh, htok⟩ : ∃ sz ln ds wh, tokOf (x :: r') = (sz, ln, ds, wh) := ⟨_, _, _, _, rfl⟩
      rw [htok] at hfirst HTN
      simp only [] at hfirst HTN
      have HTK := Lib.hid htok
      clear htok
      have HRL := Lib.hid hrl
      have HRL' := Lib.hid hrl'
      clear hrl hrl'
      obtain ⟨L, hLo⟩ : ∃ L, out.length = L := ⟨_, rfl⟩
      have HOL := Lib.hid hLo
      rw [hLo] at hown hlen hom
      clear hLo
      obtain ⟨Ab, cb, rfl, hcb⟩ := own_form hown
      go_wp2_with fail
      refine hfirst.mono ?_
      rintro e w2 ⟨rfl, hg2⟩
      clear hfirst
      have hg3 := Grows.trans (Grows.trans hg1 hg2) (grows_alloc w2 (.cells #[.int .i64 (sz : Int), .int .i64 (ln : Int), .int .i64 (ds : Int)] 225))
      have hg13 := Grows.trans hg2 (grows_alloc w2 (.cells #[.int .i64 (sz : Int), .int .i64 (ln : Int), .int .i64 (ds : Int)] 225))
      have hL3 := hL.below (hg13.mono hwb1)
      have hown3 := own_later hown hg13
      have hwb3 := Nat.le_trans hwb1 hg13.size
      have hneb : some w2.heap.size ≠ (Value.slice Ab L cb).ownBlock := fun e => by have := (hown.lt _ e.symm).2; have := hg2.size; omega
      clear hL hown
      have f0 : (w2.alloc (.cells #[.int .i64 (sz : Int), .int .i64 (ln : Int), .int .i64 (ds : Int)] 225)).cell? ⟨w2.heap.size, 0, none⟩ = some (iv sz) := by rw [cell_of_row _ _ _ _ 225 (0, 0) (heap_alloc_new w2 _)]; rfl
      have f1 : (w2.alloc (.cells #[.int .i64 (sz : Int), .int .i64 (ln : Int), .int .i64 (ds : Int)] 225)).cell? ⟨w2.heap.size, 1, none⟩ = some (iv ln) := by rw [cell_of_row _ _ _ _ 225 (0, 0) (heap_alloc_new w2 _)]; rfl
      have f2 : (w2.alloc (.cells #[.int .i64 (sz : Int), .int .i64 (ln : Int), .int .i64 (ds : Int)] 225)).cell? ⟨w2.heap.size, 2, none⟩ = some (iv ds) := by rw [cell_of_row _ _ _ _ 225 (0, 0) (heap_alloc_new w2 _)]; rfl
      cases wh with
      | false =>
        have HV : Hid (unpackOf bs most = ([], 2)) := by show _ = _; rw [← HC.out]; exact (HTN.out rfl).2 most out
        go_wp2_with fail
        simp only [Exit.jump]
        go_ret2
        rw [HV.out]
        exact ⟨_, rfl, World.ownsRow_nil _ _ _ _, hg3⟩
      | true =>
        obtain ⟨s1, s2, s3, s4, s5, s6, s7, s8⟩ := tok_some HTK.out
        rw [HRL'.out] at s2
        clear s6
        by_cases hdl : L < ds
        · have HV : Hid (unpackOf bs most = ([], 2)) := by show _ = _; rw [← HC.out]; exact (s8 most out).1 (by rw [HOL.out]; exact hdl)
          go_wp2_with fail
          simp only [Exit.jump]
          go_ret2
          rw [HV.out]
          exact ⟨_, rfl, World.ownsRow_nil _ _ _ _, hg3⟩
        · have hsub : -9223372036854775808 ≤ most - (L : Int) ∧ most - (L : Int) ≤ 9223372036854775807 := by omega
          by_cases hrg : most - (L : Int) < (ln : Int)
          · have HV : Hid (unpackOf bs most = ([], 3)) := by show _ = _; rw [← HC.out]; exact (s8 most out).2.1 (by rw [HOL.out]; exact hdl) (by rw [HOL.out]; omega)
            go_wp2_with fail
            simp only [Exit.jump]
            go_ret2
            rw [HV.out]
            exact ⟨_, rfl, World.ownsRow_nil _ _ _ _, hg3⟩
          · by_cases hds : ds = 0
            · skip
              have HSZ := Lib.hid (s7 hds)
              have hsz2 : 2 ≤ sz := by have := HSZ.out; omega
              have hszl : sz - 1 ≤ 131 := by have := HSZ.out; omega
              have HPL : Hid ((((x :: r').drop 1).take ln).length = sz - 1) := by show _ = _; rw [List.length_take, List.length_drop, HRL.out, HSZ.out]; have := HSZ.out; omega
              have hLp : Lies (w2.alloc (.cells #[.int .i64 (sz : Int), .int .i64 (ln : Int), .int .i64 (ds : Int)] 225)) w.heap.size (A'.map (·.add 1)) ((((x :: r').drop 1).take ln).map bv) := by rw [List.map_take, List.map_drop]; exact (hL3.from_ 1).take ln
              have HC2 : Hid (unp most ((x :: r').drop sz) (out ++ ((x :: r').drop 1).take ln) = unpackOf bs most) := by show _ = _; rw [← (s8 most out).2.2.1 (by rw [HOL.out]; omega) hds]; exact HC.out
              have hml : ¬ ((L : Int) + (sz - 1 : Nat) > most) := by have := HSZ.out; omega
              have hs7' := hds
              generalize ((x :: r').drop 1).take ln = piece at *
              clear HTN HC s7 s8
              subst hs7'
              by_cases hcs : c' = sz
              · obtain rfl : sz = m := by omega
                subst hcs
                have HE : Hid ((x :: r').drop c' = []) := List.drop_eq_nil_of_le (by rw [HRL.out]; exact Nat.le_refl _)
                rw [HE.out] at HC2
                go_wp2_with (at_builtin; refine wpList_append_src _ rfl (.tmp 37) (.tmp 41) _ rfl w.heap.size 5 i0 _ 1 Tryd.underlying22 hi0 hz0 hz1 hz2 rfl _ L _ rfl hown3 w.heap.size _ _ _ (piece.map bv) rfl (by rw [List.length_map]; exact HPL.out) hLp (bv_one piece) (by unfold maxLen; omega) (by omega) hwb3 ?_; intro v4 w4 hown4 hg4 hat4; have f4 := hg4.cell f0 hneb)
                have hW4 := Wrote.app hg4 hat4
                have hB4 := hW4.below hwb3 (own_ge hown3)
                rw [← List.map_append] at hown4
                go_step3
                refine ⟨rfl, ⟨_, _, _, [], _, out ++ piece, _, _, _, _, _, _, _, _, _, _, _, _, _, _, _, _, _, _, _, _, _, _, _, _, _, _, _, _, _, _, _, _, _, _, _, _, _, _, _, _, _, _, _, _, _, _, rfl, rfl, Nat.le_refl _, by rw [List.length_append, HOL.out, HPL.out]; omega, by rw [List.length_append, HOL.out, HPL.out]; exact .inr (by omega), Lies.empty, (by rw [List.length_append, HOL.out, HPL.out]; exact hown4), HC2.out, Below.trans hg3 hB4⟩, ?_⟩
                simp [slen]; omega
              · skip
                go_wp2_with (at_builtin; refine wpList_append_src _ rfl (.tmp 37) (.tmp 41) _ rfl w.heap.size 5 i0 _ 1 Tryd.underlying22 hi0 hz0 hz1 hz2 rfl _ L _ rfl hown3 w.heap.size _ _ _ (piece.map bv) rfl (by rw [List.length_map]; exact HPL.out) hLp (bv_one piece) (by unfold maxLen; omega) (by omega) hwb3 ?_; intro v4 w4 hown4 hg4 hat4; have f4 := hg4.cell f0 hneb)
                have hW4 := Wrote.app hg4 hat4
                have hB4 := hW4.below hwb3 (own_ge hown3)
                rw [← List.map_append] at hown4
                go_step3
                refine ⟨rfl, ⟨_, m - sz, c' - sz, (x :: r').drop sz, _, out ++ piece, _, _, _, _, _, _, _, _, _, _, _, _, _, _, _, _, _, _, _, _, _, _, _, _, _, _, _, _, _, _, _, _, _, _, _, _, _, _, _, _, _, _, _, _, _, _, rfl, by rw [List.length_drop, HRL.out], by omega, by rw [List.length_append, HOL.out, HPL.out]; omega, by rw [List.length_append, HOL.out, HPL.out]; exact .inr (by omega), ?_, (by rw [List.length_append, HOL.out, HPL.out]; exact hown4), HC2.out, Below.trans hg3 hB4⟩, ?_⟩
                · rw [List.map_drop]; exact (hL3.below hB4).from_ sz
                · simp [slen]; omega
            · skip
              have HC2 : Hid (unp most ((x :: r').drop sz) (copyN ln ds out) = unpackOf bs most) := by show _ = _; rw [← (s8 most out).2.2.2 (by rw [HOL.out]; exact hdl) (by rw [HOL.out]; omega) hds]; exact HC.out
              have hrep := repeat_any _ w.heap.size L out ln ds (w2.alloc (.cells #[.int .i64 (sz : Int), .int .i64 (ln : Int), .int .i64 (ds : Int)] 225)) hown3 hwb3 ⟨by omega, by omega⟩ (by omega)
              have HCL : Hid ((copyN ln ds out).length = L + ln) := by show _ = _; rw [copyN_len, HOL.out]
              have hdsb : ((ds : Int) == 0) = false := by simp; omega
              clear HTN HC s7 s8
              by_cases hcs : c' = sz
              · obtain rfl : sz = m := by omega
                subst hcs
                have HE : Hid ((x :: r').drop c' = []) := List.drop_eq_nil_of_le (by rw [HRL.out]; exact Nat.le_refl _)
                rw [HE.out] at HC2
                go_wp2_with fail
                refine hrep.mono ?_
                rintro e w4 ⟨v4, rfl, hown4, hW4⟩
                have f4 := hW4.grown.cell f0 hneb
                have hB4 := hW4.below hwb3 (own_ge hown3)
                go_wp2_with fail
                go_step3
                refine ⟨rfl, ⟨_, _, _, [], _, copyN ln ds out, _, _, _, _, _, _, _, _, _, _, _, _, _, _, _, _, _, _, _, _, _, _, _, _, _, _, _, _, _, _, _, _, _, _, _, _, _, _, _, _, _, _, _, _, _, _, rfl, rfl, Nat.le_refl _, by rw [HCL.out]; omega, by rw [HCL.out]; exact .inr (by omega), Lies.empty, hown4, HC2.out, Below.trans hg3 hB4⟩, ?_⟩
                simp [slen]; omega
              · skip
                go_wp2_with fail
                refine hrep.mono ?_
                rintro e w4 ⟨v4, rfl, hown4, hW4⟩
                have f4 := hW4.grown.cell f0 hneb
                have hB4 := hW4.below hwb3 (own_ge hown3)
                go_wp2_with fail
                go_step3
                refine ⟨rfl, ⟨_, m - sz, c' - sz, (x :: r').drop sz, _, copyN ln ds out, _, _, _, _, _, _, _, _, _, _, _, _, _, _, _, _, _, _, _, _, _, _, _, _, _, _, _, _, _, _, _, _, _, _, _, _, _, _, _, _, _, _, _, _, _, _, rfl, by rw [List.length_drop, HRL.out], by omega, by rw [HCL.out]; omega, by rw [HCL.out]; exact .inr (by omega), ?_, hown4, HC2.out, Below.trans hg3 hB4⟩, ?_⟩
                · rw [List.map_drop]; exact (hL3.below hB4).from_ sz
                · simp [slen]; omega
end Go.Proofs.YtbcldknecdbemaaDoor

/-
  The laws of layer 5: the example (lives); one byte many times (the reference's Fill).
-/
namespace Go.Proofs.YtbcldknecdbemaaDoor
open Go.RowKit
set_option linter.unusedVariables false
set_option maxRecDepth 20000

theorem ret_true {a : Bool} (h : a = true) : Ending.returned (.bool a) = .returned (.bool true) := by rw [h]
def eightL : List UInt8 := [97, 97, 97, 97, 97, 97, 97, 97]
theorem pack_eight : packOf eightL = [0, 97, 131, 0, 0] := by
  have hm := rep_match 8 97 1 (by omega) (by omega)
  show packOf (List.replicate 8 97) = _
  unfold packOf
  rw [pack_none (by simp) (rep_none 8 97 0 (.inl rfl)), Nat.zero_add, pack_some (by simp) (by rw [hm]; decide), hm, pack_end (by simp)]
  simp [lits_nil]
  rw [lits_more (by simp)]
  simp [lits_nil, mtok]

/-- The contracts, with what they answer under letters. -/
theorem pack_out (A : Option Addr) (n c : Nat) (bs : List UInt8) (w : World) (hl : bs.length = n) (hr : Lies w w.heap.size A (bs.map bv)) (hc : n ≤ c) (hn : n ≤ 1000000000) :
    Calls Tryd.prog 96 #[.slice A n c] w fun e w' => ∃ (p : List UInt8) (pn c' : Nat) (A' : Option Addr), Hid (packOf bs = p) ∧ Hid (p.length = pn) ∧ pn ≤ n + (n + 127) / 128 ∧ e = .returned (.slice A' pn c') ∧ pn ≤ c' ∧ Lies w' w'.heap.size A' (p.map bv) ∧ Grows w w' := by
  refine (pack_any A n c bs w hl hr hc hn).mono ?_
  rintro e w' ⟨v, rfl, hown, hg⟩
  obtain ⟨A', c', rfl, hc'⟩ := own_form hown
  have hpl := packOf_len bs
  rw [hl] at hpl
  exact ⟨_, _, c', A', rfl, rfl, hpl, rfl, hc', Lies.of_own hown, hg⟩
theorem unpack_out (A : Option Addr) (n c : Nat) (bs : List UInt8) (most : Int) (w : World) (hl : bs.length = n) (hr : Lies w w.heap.size A (bs.map bv)) (hc : n ≤ c) (hn : n ≤ 1000000000) (hmo : -9223372036854775808 ≤ most ∧ most ≤ 9223372036854775807) :
    Calls Tryd.prog 135 #[.slice A n c, .int .i64 most] w fun e w' => ∃ (l : List UInt8) (er ln c' : Nat) (A' : Option Addr), Hid (unpackOf bs most = (l, er)) ∧ Hid (l.length = ln) ∧ e = .returned (.tuple #[.slice A' ln c', iv er]) ∧ ln ≤ c' ∧ Lies w' w'.heap.size A' (l.map bv) ∧ Grows w w' := by
  refine (unpack_any A n c bs most w hl hr hc hn hmo).mono ?_
  rintro e w' ⟨v, rfl, hown, hg⟩
  obtain ⟨A', c', rfl, hc'⟩ := own_form hown
  exact ⟨_, _, _, c', A', rfl, rfl, rfl, hc', Lies.of_own hown, hg⟩
end Go.Proofs.YtbcldknecdbemaaDoor

/-
  Contracts of frame's small functions: must, what is deferred, putNumber, number; and of bytes.Clone.
-/
namespace Go.Proofs.YtbcldknecdbemaaDoor
open Go.RowKit
set_option linter.unusedVariables false
set_option maxRecDepth 20000

/-- What is given up with an error's number. -/
abbrev why (er : Nat) : List PanicEntry := [{ v := .iface 38 (iv er), recovered := false }]

theorem must_yes (er : Nat) (w : World) : Calls Tryd.prog 106 #[.bool true, iv er] w fun e w' => e = .returned (.tuple #[]) ∧ w = w' := by
  go_enter Tryd.func106, Tryd.ntmps106
  go_wp2
  go_end0
  exact ⟨rfl, rfl⟩
theorem must_no (er : Nat) (w : World) : Calls Tryd.prog 106 #[.bool false, iv er] w fun e w' => e = .panicked (why er) ∧ w = w' := by
  go_enter Tryd.func106, Tryd.ntmps106
  go_wp2
  exact ⟨rfl, rfl, rfl⟩
theorem assert_err (W : World) (v : Value) : (Instr.typeAssert (.iface 38 v) 20 38 false).run Tryd.prog W = .ok v W := by kernel_rfl

theorem catch_panicking (p : Addr) (x : Int) (er : Nat) (older : List PanicEntry) (w : World) (hc : w.cell? p = some (.int .i64 x)) (hz : w.frozen? p = false) :
    CallsD Tryd.prog 132 #[.pointer (some p)] (.panicking ({ v := .iface 38 (iv er), recovered := false } :: older)) w fun e u' w' =>
      e = .returned (.tuple #[]) ∧ u' = .panicking ({ v := .iface 38 (iv er), recovered := true } :: older) ∧ w' = w.setCell p (iv er) := by
  refine callsD_of_wpS Tryd.func132 rfl fun c₀ cs hu => ?_
  apply wpS_seq
  apply wpS_region
  simp [wpOpsS, go_sem, recoverD, hu, Tryd.ntmps132, Exit.thenS]
  refine wpS_of_wp ?_
  have e1 : #[Value.pointer (some p)] ++ ((Array.replicate 6 undef).setIfInBounds 1 (Value.iface 38 (iv er))).setIfInBounds 0 (Value.iface 38 (iv er)) = #[.pointer (some p), .iface 38 (iv er), .iface 38 (iv er), undef, undef, undef, undef] := rfl
  rw [e1]
  clear e1
  have ha := assert_err w (iv er)
  go_wp2
  simp [bodyPostS, results, Tryd.results132]
theorem catch_idle (p : Addr) (w : World) :
    CallsD Tryd.prog 132 #[.pointer (some p)] .returning w fun e u' w' => e = .returned (.tuple #[]) ∧ u' = .returning ∧ w' = w := by
  refine callsD_of_wpS Tryd.func132 rfl fun c₀ cs hu => ?_
  apply wpS_seq
  apply wpS_region
  simp [wpOpsS, go_sem, recoverD, hu, Tryd.ntmps132, Exit.thenS]
  refine wpS_of_wp ?_
  have e1 : #[Value.pointer (some p)] ++ ((Array.replicate 6 undef).setIfInBounds 1 Value.nilIface).setIfInBounds 0 Value.nilIface = #[.pointer (some p), .nilIface, .nilIface, undef, undef, undef, undef] := rfl
  rw [e1]
  clear e1
  go_wp2
  cases c₀
  simp_all [bodyPostS, results, Tryd.results132]

set_option maxHeartbeats 1000000 in
theorem putnum_any (v : Value) (base n : Nat) (l : List UInt8) (s : Nat) (w : World) (hs : s < 4294967296) (hown : w.ownsRow base 5 1 v n (l.map bv)) (hbase : base ≤ w.heap.size) (hn : n ≤ 1000000000000) :
    Calls Tryd.prog 97 #[v, uv s] w fun e w' => ∃ v', e = .returned v' ∧ w'.ownsRow base 5 1 v' (n + 4) ((l ++ fourC s).map bv) ∧ Below base w w' := by
  obtain ⟨i0, hi0, hz0, hz1, hz2⟩ := info_parts byte_info
  go_enter Tryd.func97, Tryd.ntmps97
  go_wp2_with fail
  go_loopw [0, 6] (fun v i wr => ∃ k : Nat, k ≤ 4 ∧ i = .int .i64 k ∧ wr.ownsRow base 5 1 v (n + k) ((l ++ (fourC s).take k).map bv) ∧ Below base w wr) (fun _ i _ => 4 - (intOf i).toNat)
  case atStart => exact ⟨0, by omega, rfl, by simpa using hown, Below.refl _ _⟩
  case round =>
    clear hown
    obtain ⟨k, hk, rfl, hown, hgr⟩ := hrel
    have hsz := hgr.size
    by_cases hlt : k < 4
    · have HF := Lib.hid (four_take s k hlt)
      have hnew := Lies.new wr 5 [bv (UInt8.ofNat (s / 2 ^ (8 * k)))]
      go_wp2_with (at_builtin; refine wpList_append_src _ rfl (.tmp 9) (.tmp 15) _ rfl base 5 i0 _ 1 Tryd.underlying22 hi0 hz0 hz1 hz2 rfl _ (n + k) _ rfl (hown.alloc _) _ _ 1 1 [bv (UInt8.ofNat (s / 2 ^ (8 * k)))] rfl rfl hnew (by simp [Value.oneCell']) (by unfold maxLen; omega) (by omega) (by rw [World.size_alloc]; omega) ?_; intro v' w' hown' hg' hat')
      have hb2 : Below base wr w' := ((Below.refl _ wr).alloc (by omega) _).grown hg' (by rw [World.size_alloc]; omega) (own_ge hown)
      rw [show [bv (UInt8.ofNat (s / 2 ^ (8 * k)))] = [UInt8.ofNat (s / 2 ^ (8 * k))].map bv from rfl, ← List.map_append, List.append_assoc, ← HF.out] at hown'
      go_roundw
      case rel => exact ⟨k + 1, by omega, by go_num, hown', Below.trans hgr hb2⟩
      case measure => simp [intOf]; omega
    · obtain rfl : k = 4 := by omega
      go_wp2
      go_ret
      rw [List.take_of_length_le (by rw [four_len]; exact Nat.le_refl _)] at hown
      exact ⟨_, rfl, hown, hgr⟩

set_option maxHeartbeats 1000000 in
theorem fnumber_any (A : Option Addr) (c : Nat) (l : List UInt8) (w : World) (hl : l.length = 4) (hr : Lies w w.heap.size A (l.map bv)) :
    Calls Tryd.prog 133 #[.slice A 4 c] w fun e w' => e = .returned (uv (numTo l 4)) ∧ w = w' := by
  have HL := Lib.hid hl
  clear hl
  go_enter Tryd.func133, Tryd.ntmps133
  go_wp2
  go_loop [3, 5] (fun x i => ∃ k : Nat, k ≤ 4 ∧ i = .int .i64 k ∧ x = uv (numTo l k)) (fun _ i => 4 - (intOf i).toNat)
  case atStart => exact ⟨0, by omega, rfl, rfl⟩
  case round =>
    obtain ⟨k, hk, rfl, rfl⟩ := hrel
    by_cases hlt : k < 4
    · obtain ⟨b, hbk⟩ : ∃ b, l[k]? = some b := ⟨_, List.getElem?_eq_getElem (by rw [HL.out]; exact hlt)⟩
      obtain ⟨ad, rfl, _, cx⟩ := hr.at_ (j := k) (u := bv b) (by rw [List.getElem?_map, hbk]; rfl)
      have HS : Hid (numTo l (k + 1) = numTo l k + b.toNat * 2 ^ (8 * k)) := by show _ = _; rw [numTo, List.getD, hbk]; rfl
      have hx := numTo_lt l k
      clear hbk
      generalize numTo l k = x at *
      have hb8 := b.toNat_lt
      go_wp2
      go_round
      case rel => exact ⟨k + 1, by omega, by go_num, by rw [HS.out, or_place x b.toNat k hlt hx hb8]⟩
      case measure => simp [intOf]; omega
    · obtain rfl : k = 4 := by omega
      go_wp2
      go_ret
      exact ⟨rfl, rfl⟩
theorem fnumber_g (A : Option Addr) (c : Nat) {x : Nat} {l : List UInt8} (hx : Hid (numTo l 4 = x)) (w : World) (hl : l.length = 4) (hr : Lies w w.heap.size A (l.map bv)) :
    Calls Tryd.prog 133 #[.slice A 4 c] w fun e w' => e = .returned (uv x) ∧ Grows w w' := by
  have h := hx.out
  subst h
  exact (fnumber_any A c l w hl hr).mono fun e w' ⟨he, hw⟩ => ⟨he, by subst hw; exact Grows.refl _⟩

theorem clone_any (A : Option Addr) (n c : Nat) (l : List UInt8) (w : World) (hl : l.length = n) (hr : Lies w w.heap.size A (l.map bv)) (hn : n ≤ 1000000000000) :
    Calls Tryd.prog 134 #[.slice A n c] w fun e w' => ∃ v, e = .returned v ∧ w'.ownsRow w.heap.size 5 1 v n (l.map bv) ∧ Grows w w' := by
  obtain ⟨i0, hi0, hz0, hz1, hz2⟩ := info_parts byte_info
  cases A with
  | none =>
    have h0 := hr.none_empty
    have h1 : l = [] := by simpa using h0
    subst h1
    obtain rfl : n = 0 := by simpa using hl.symm
    have hq : ∀ u : World, (binOp .eql 22 (.slice none 0 c) (.slice none 0 0)).run Tryd.prog u = .ok (.bool true) u := fun u => by kernel_rfl
    go_enter Tryd.func134, Tryd.ntmps134
    go_wp2
    go_ret
    exact ⟨_, rfl, World.ownsRow_nil _ _ _ _, Grows.refl _⟩
  | some ad =>
    have hrow : (w.alloc (.cells #[] 5)).ownsRow w.heap.size 5 1 (.slice (some ⟨w.heap.size, 0, none⟩) 0 0) 0 [] :=
      ⟨rfl, .inr ⟨w.heap.size, 0, #[], rfl, Nat.le_refl _, heap_alloc_new w _, by omega, by unfold maxLen; omega, rfl, rfl⟩⟩
    have hga := grows_alloc w (.cells #[] 5)
    have hrl := hr.later hga
    have hq : ∀ u : World, (binOp .eql 22 (.slice (some ad) n c) (.slice none 0 0)).run Tryd.prog u = .ok (.bool false) u := fun u => by kernel_rfl
    go_enter Tryd.func134, Tryd.ntmps134
    go_wp2_with (at_builtin; refine wpList_append_src _ rfl (.tmp 5) (.tmp 6) _ rfl w.heap.size 5 i0 _ 1 Tryd.underlying22 hi0 hz0 hz1 hz2 rfl _ 0 _ rfl hrow _ _ n c (l.map bv) rfl (by rw [List.length_map]; exact hl) hrl (bv_one l) (by unfold maxLen; omega) (by omega) (by rw [World.size_alloc]; omega) ?_; intro v' w' hown' hg' hat')
    have hb2 : Grows w w' := Below.grown hga hg' (by rw [World.size_alloc]; omega) (own_ge hrow)
    rw [Nat.zero_add, List.nil_append] at hown'
    go_ret
    exact ⟨_, rfl, hown', hb2⟩
end Go.Proofs.YtbcldknecdbemaaDoor

/-
  Contract of frame's Seal.
-/
namespace Go.Proofs.YtbcldknecdbemaaDoor
open Go.RowKit
set_option linter.unusedVariables false
set_option maxRecDepth 20000

set_option maxRecDepth 20000 in
set_option maxHeartbeats 4000000 in
theorem seal_any (A : Option Addr) (n c : Nat) (bs : List UInt8) (w : World) (hl : bs.length = n) (hr : Lies w w.heap.size A (bs.map bv)) (hc : n ≤ c) (hn : n ≤ 1000000000) :
    Calls Tryd.prog 69 #[.slice A n c] w fun e w' => ∃ v, e = .returned v ∧ w'.ownsRow w.heap.size 5 1 v (sealOf bs).length ((sealOf bs).map bv) ∧ Grows w w' := by
  obtain ⟨i0, hi0, hz0, hz1, hz2⟩ := info_parts byte_info
  have HL := Lib.hid hl
  have hC := crcOf_lt bs
  have hwn : IntKind.u32.wrap (n : Int) = (n : Int) := by unfold IntKind.wrap; simp [IntKind.signed, IntKind.bits]; omega
  go_enter Tryd.func69, Tryd.ntmps69
  go_wp2_with fail
  refine (pack_out A n c bs w hl hr hc hn).mono ?_
  rintro e w1 ⟨p, pn, cp, Ap, HP, HPN, hpn, rfl, hcp, hLp, hg1⟩
  have hr1 := hr.later hg1
  have hpn2 : pn ≤ 2000000001 := by omega
  clear hr hl hpn
  by_cases hlt : pn < n
  · have hlt' : (pn : Int) < (n : Int) := by omega
    have HS : Hid (sealOf bs = frameOf 1 n p (crcOf bs)) := by show _ = _; unfold sealOf; rw [HP.out, HPN.out, HL.out, if_pos hlt]
    have HFL : Hid ((frameOf 1 n p (crcOf bs)).length = 2 + 4 + pn + 4) := by show _ = _; rw [frame_len, HPN.out]; omega
    have hnew := fun u : World => Lies.new u 5 [.int .u8 76, .int .u8 1]
    have hkn : pn ≤ 2000000001 := by omega
    go_wp2_with (first
      | (at_make; refine wpList_make_room _ rfl _ _ _ rfl w1.heap.size 5 i0 _ Tryd.underlying22 hi0 hz0 hz1 rfl .i64 .i64 _ _ 0 (10 + pn) rfl rfl (by omega) (by omega) (by omega) (by rw [hz2]; omega) (by unfold maxLen; omega) (Nat.le_refl _) ?_; intro w2 hown2 hg2 hsz2; clear hsz2)
      | (at_builtin; (refine wpList_append_src _ rfl (.tmp 20) (.tmp 22) _ rfl w1.heap.size 5 i0 _ 1 Tryd.underlying22 hi0 hz0 hz1 hz2 rfl _ 0 _ rfl (hown2.alloc _) _ _ 2 2 [.int .u8 76, .int .u8 1] rfl rfl (hnew _) (by simp [Value.oneCell']) (by unfold maxLen; omega) (by omega) (by rw [World.size_alloc]; have := hg2.size; omega) ?_; intro v3 w3 hown3 hg3 hat3)))
    have hB3 : Below w1.heap.size w1 w3 := (Below.alloc hg2 (by have := hg2.size; omega) _).grown hg3 (by rw [World.size_alloc]; have := hg2.size; omega) (own_ge hown2)
    rw [show List.replicate 0 (Value.int IntKind.u8 0) ++ [Value.int IntKind.u8 76, Value.int IntKind.u8 1] = ([76, 1] : List UInt8).map bv from rfl] at hown3
    clear hown2 hg2 hg3 hat3 hnew
    refine (putnum_any v3 w1.heap.size (0 + 2) [76, 1] n w3 (by omega) hown3 hB3.size (by omega)).mono ?_
    rintro e w4 ⟨v4, rfl, hown4, hB4⟩
    have hB14 := hB3.trans hB4
    have hLk := (hLp).below hB14
    have hszk := hB14.size
    clear hown3 hB3 hB4
    go_wp2_with (at_builtin; refine wpList_append_src _ rfl (.tmp 29) (.tmp 30) _ rfl w1.heap.size 5 i0 _ 1 Tryd.underlying22 hi0 hz0 hz1 hz2 rfl _ (0 + 2 + 4) _ rfl hown4 _ _ pn _ (p.map bv) rfl (by rw [List.length_map]; exact HPN.out) hLk (bv_one p) (by unfold maxLen; omega) (by omega) hszk ?_; intro v5 w5 hown5 hg5 hat5)
    have hB15 : Below w1.heap.size w1 w5 := hB14.grown hg5 hszk (own_ge hown4)
    rw [← List.map_append] at hown5
    clear hown4 hg5 hat5 hLk hB14 hszk
    refine (crcsum_any A n c bs w5 HL.out (hr1.later hB15) (by omega)).mono ?_
    rintro e w6 ⟨rfl, hg6⟩
    have hown6 := own_later hown5 hg6
    have hB16 := Below.trans hB15 (hg6.mono hB15.size)
    clear hown5 hB15 hg6
    generalize hsx : crcOf bs = s at *
    have HSX := Lib.hid hsx
    clear hsx
    go_wp2_with fail
    refine (putnum_any v5 w1.heap.size (0 + 2 + 4 + pn) _ s w6 hC hown6 hB16.size (by omega)).mono ?_
    rintro e w7 ⟨v7, rfl, hown7, hB7⟩
    have hB17 := hB16.trans hB7
    go_wp2_with fail
    go_ret
    refine ⟨_, rfl, ?_, Grows.trans hg1 hB17⟩
    rw [HS.out, HFL.out]
    have := own_base hown7 hg1.size
    rw [Nat.zero_add] at this
    exact this
  · have hlt' : ¬ ((pn : Int) < (n : Int)) := by omega
    have HS : Hid (sealOf bs = frameOf 0 n bs (crcOf bs)) := by show _ = _; unfold sealOf; rw [HP.out, HPN.out, HL.out, if_neg hlt]
    have HFL : Hid ((frameOf 0 n bs (crcOf bs)).length = 2 + 4 + n + 4) := by show _ = _; rw [frame_len, HL.out]; omega
    have hnew := fun u : World => Lies.new u 5 [.int .u8 76, .int .u8 0]
    have hkn : n ≤ 2000000001 := by omega
    go_wp2_with (first
      | (at_make; refine wpList_make_room _ rfl _ _ _ rfl w1.heap.size 5 i0 _ Tryd.underlying22 hi0 hz0 hz1 rfl .i64 .i64 _ _ 0 (10 + n) rfl rfl (by omega) (by omega) (by omega) (by rw [hz2]; omega) (by unfold maxLen; omega) (Nat.le_refl _) ?_; intro w2 hown2 hg2 hsz2; clear hsz2)
      | (at_builtin; (refine wpList_append_src _ rfl (.tmp 20) (.tmp 22) _ rfl w1.heap.size 5 i0 _ 1 Tryd.underlying22 hi0 hz0 hz1 hz2 rfl _ 0 _ rfl (hown2.alloc _) _ _ 2 2 [.int .u8 76, .int .u8 0] rfl rfl (hnew _) (by simp [Value.oneCell']) (by unfold maxLen; omega) (by omega) (by rw [World.size_alloc]; have := hg2.size; omega) ?_; intro v3 w3 hown3 hg3 hat3)))
    have hB3 : Below w1.heap.size w1 w3 := (Below.alloc hg2 (by have := hg2.size; omega) _).grown hg3 (by rw [World.size_alloc]; have := hg2.size; omega) (own_ge hown2)
    rw [show List.replicate 0 (Value.int IntKind.u8 0) ++ [Value.int IntKind.u8 76, Value.int IntKind.u8 0] = ([76, 0] : List UInt8).map bv from rfl] at hown3
    clear hown2 hg2 hg3 hat3 hnew
    refine (putnum_any v3 w1.heap.size (0 + 2) [76, 0] n w3 (by omega) hown3 hB3.size (by omega)).mono ?_
    rintro e w4 ⟨v4, rfl, hown4, hB4⟩
    have hB14 := hB3.trans hB4
    have hLk := (hr1).below hB14
    have hszk := hB14.size
    clear hown3 hB3 hB4
    go_wp2_with (at_builtin; refine wpList_append_src _ rfl (.tmp 29) (.tmp 30) _ rfl w1.heap.size 5 i0 _ 1 Tryd.underlying22 hi0 hz0 hz1 hz2 rfl _ (0 + 2 + 4) _ rfl hown4 _ _ n _ (bs.map bv) rfl (by rw [List.length_map]; exact HL.out) hLk (bv_one bs) (by unfold maxLen; omega) (by omega) hszk ?_; intro v5 w5 hown5 hg5 hat5)
    have hB15 : Below w1.heap.size w1 w5 := hB14.grown hg5 hszk (own_ge hown4)
    rw [← List.map_append] at hown5
    clear hown4 hg5 hat5 hLk hB14 hszk
    refine (crcsum_any A n c bs w5 HL.out (hr1.later hB15) (by omega)).mono ?_
    rintro e w6 ⟨rfl, hg6⟩
    have hown6 := own_later hown5 hg6
    have hB16 := Below.trans hB15 (hg6.mono hB15.size)
    clear hown5 hB15 hg6
    generalize hsx : crcOf bs = s at *
    have HSX := Lib.hid hsx
    clear hsx
    go_wp2_with fail
    refine (putnum_any v5 w1.heap.size (0 + 2 + 4 + n) _ s w6 hC hown6 hB16.size (by omega)).mono ?_
    rintro e w7 ⟨v7, rfl, hown7, hB7⟩
    have hB17 := hB16.trans hB7
    go_wp2_with fail
    go_ret
    refine ⟨_, rfl, ?_, Grows.trans hg1 hB17⟩
    rw [HS.out, HFL.out]
    have := own_base hown7 hg1.size
    rw [Nat.zero_add] at this
    exact this
theorem seal_out (A : Option Addr) (n c : Nat) (bs : List UInt8) (w : World) (hl : bs.length = n) (hr : Lies w w.heap.size A (bs.map bv)) (hc : n ≤ c) (hn : n ≤ 1000000000) :
    Calls Tryd.prog 69 #[.slice A n c] w fun e w' => ∃ (f : List UInt8) (fn c' : Nat) (A' : Option Addr), Hid (sealOf bs = f) ∧ Hid (f.length = fn) ∧ 10 ≤ fn ∧ fn ≤ n + 10 ∧ e = .returned (.slice A' fn c') ∧ fn ≤ c' ∧ w'.ownsRow w.heap.size 5 1 (.slice A' fn c') fn (f.map bv) ∧ Lies w' w'.heap.size A' (f.map bv) ∧ Grows w w' := by
  refine (seal_any A n c bs w hl hr hc hn).mono ?_
  rintro e w' ⟨v, rfl, hown, hg⟩
  obtain ⟨A', c', rfl, hc'⟩ := own_form hown
  have h1 := seal_len bs
  rw [hl] at h1
  exact ⟨_, _, c', A', rfl, rfl, h1.2.1, h1.1, rfl, hc', hown, Lies.of_own hown, hg⟩
end Go.Proofs.YtbcldknecdbemaaDoor

/-
  Contracts of frame's split.
-/
namespace Go.Proofs.YtbcldknecdbemaaDoor
open Go.RowKit
set_option linter.unusedVariables false
set_option maxRecDepth 20000

theorem parts_desc : (Tryd.prog.underlying 154).map (·.isRow) = some true := by kernel_rfl
theorem parts_size : (Tryd.prog.info? 154).map (·.size) = some 4 := by kernel_rfl

/-- What split answers. -/
def SOut (f : List UInt8) (w : World) (e : Ending) (w' : World) : Prop :=
  (formB f = true ∧ ∃ (A' : Option Addr) (c' : Nat), e = .returned (.agg #[.bool (pkB f), iv (toldN f), .slice A' (f.length - 10) c', uv (sumN f)]) ∧ f.length - 10 ≤ c' ∧ Lies w' w.heap.size A' ((keptL f).map bv) ∧ Grows w w') ∨
  (formB f = false ∧ e = .panicked (why 2) ∧ Grows w w')

set_option maxRecDepth 20000 in
set_option maxHeartbeats 4000000 in
theorem split_any (A : Option Addr) (n c : Nat) (f : List UInt8) (w : World) (hl : f.length = n) (hr : Lies w w.heap.size A (f.map bv)) (hc : n ≤ c) (hn : n ≤ 1000000000) :
    Calls Tryd.prog 105 #[.slice A n c] w fun e w' => SOut f w e w' := by
  obtain ⟨td, htd, htr⟩ := Option.map_eq_some_iff.1 parts_desc
  have hb0 := Has.new w 154 [.bool false, .int .i64 0, .slice none 0 0, .int .u32 0]
  have hg0 := grows_alloc w (.cells #[.bool false, .int .i64 0, .slice none 0 0, .int .u32 0] 154)
  have no : ∀ w', Grows w w' → formB f = false → SOut f w (.panicked (why 2)) w' := fun w' hg h => .inr ⟨h, rfl, hg⟩
  go_enter Tryd.func105, Tryd.ntmps105
  by_cases h10 : n < 10
  · have h10' : ¬ (10 ≤ (n : Int)) := by omega
    have HF : Hid (formB f = false) := by show _ = _; unfold formB; rw [hl]; simp; omega
    go_wp2_with fail
    refine (must_no 2 _).mono ?_
    rintro e w' ⟨rfl, rfl⟩
    exact ⟨rfl, no _ hg0 HF.out⟩
  · have h10' : 10 ≤ (n : Int) := by omega
    obtain ⟨m, hm⟩ : ∃ m, n = m + 10 := ⟨n - 10, by omega⟩
    have HM := Lib.hid hm
    clear hm
    obtain ⟨x0, hx0⟩ : ∃ x, f[0]? = some x := ⟨_, List.getElem?_eq_getElem (by omega)⟩
    obtain ⟨x1, hx1⟩ : ∃ x, f[1]? = some x := ⟨_, List.getElem?_eq_getElem (by omega)⟩
    have HL := Lib.hid hl
    have HF : Hid (formB f = (x0 == 76 && (x1 == 0 || x1 == 1))) := by
      show _ = _
      unfold formB
      rw [hl, List.getD, List.getD, hx0, hx1]
      rw [decide_eq_true (by omega)]
      simp
    have HP : Hid (pkB f = (x1 == 1)) := by show _ = _; unfold pkB; rw [List.getD, hx1]; rfl
    clear hl
    have hr0 := hr.later hg0
    obtain ⟨ad, rfl, _, c0⟩ := hr0.at_ (j := 0) (u := bv x0) (by rw [List.getElem?_map, hx0]; rfl)
    have c1 := hr0.cells 1 (bv x1) (by rw [List.getElem?_map, hx1]; rfl)
    rw [add_zero_eq] at c0
    have c1 : (w.alloc (.cells #[.bool false, .int .i64 0, .slice none 0 0, .int .u32 0] 154)).cell? ⟨ad.block, ad.off + 1, none⟩ = some (bv x1) := by rw [show ad.add 1 = ⟨ad.block, ad.off + 1, none⟩ from by simp [Addr.add]] at c1; exact c1
    clear hx0 hx1
    by_cases h76 : x0 = 76
    · subst h76
      by_cases h01 : x1 = 0 ∨ x1 = 1
      · have HT : Hid (formB f = true) := by show _ = _; rw [HF.out]; rcases h01 with rfl | rfl <;> rfl
        have HN : Hid (f.length - 10 = m) := by show _ = _; rw [HL.out, HM.out]; omega
        have HE : Hid ((n : Int) - 4 = ((m + 6 : Nat) : Int)) := by show _ = _; rw [HM.out]; omega
        obtain ⟨Aa, hca, hLa⟩ := cut_mid (P := Tryd.prog) Tryd.underlying22 byte_one (some ad) n c .i64 .i64 2 6 2 6 rfl rfl (by omega) (by omega)
        obtain ⟨Ab, hcb, hLb⟩ := cut_mid (P := Tryd.prog) Tryd.underlying22 byte_one (some ad) n c .i64 .i64 6 ((n : Int) - 4) 6 (m + 6) rfl HE.out (by omega) (by have := HM.out; omega)
        obtain ⟨Ac, hcc, hLc⟩ := cut_from (P := Tryd.prog) Tryd.underlying22 byte_one (some ad) n c .i64 ((n : Int) - 4) (m + 6) HE.out (by have := HM.out; omega) hc
        rw [show 6 - 2 = 4 from rfl] at hca
        rw [show m + 6 - 6 = m by omega] at hcb
        rw [show n - (m + 6) = 4 by have := HM.out; omega] at hcc
        have hla := hLa _ _ _ hr0
        have hlb := hLb _ _ _ hr
        have hlc := hLc _ _ _ (by rw [List.length_map]; exact HL.out) hr0
        rw [← List.map_drop, ← List.map_take] at hla hlb
        rw [← List.map_drop] at hlc
        have hX : toldN f < 4294967296 := toldN_lt f
        have hS : sumN f < 4294967296 := sumN_lt f
        have HX : Hid (numTo ((f.drop 2).take (6 - 2)) 4 = toldN f) := rfl
        have HS : Hid (numTo (f.drop (m + 6)) 4 = sumN f) := by show _ = _; unfold sumN; rw [HL.out, show n - 4 = m + 6 by have := HM.out; omega]
        have HXL : Hid (((f.drop 2).take (6 - 2)).length = 4) := by show _ = _; rw [List.length_take, List.length_drop, HL.out]; omega
        have HSL : Hid ((f.drop (m + 6)).length = 4) := by show _ = _; rw [List.length_drop, HL.out]; have := HM.out; omega
        have HKL : Hid ((f.drop 6).take (m + 6 - 6) = keptL f) := by show _ = _; unfold keptL; rw [HL.out, show n - 10 = m + 6 - 6 by have := HM.out; omega]
        rw [HKL.out] at hlb
        clear hLa hLb hLc
        unfold SOut at *
        generalize toldN f = x at *
        generalize sumN f = s at *
        have H01 := Lib.hid h01
        rcases h01 with rfl | rfl
        all_goals
          go_wp2_with fail
          refine (must_yes 2 _).mono ?_
          rintro e w' ⟨rfl, rfl⟩
          go_wp2_with fail
          refine (must_yes 2 _).mono ?_
          rintro e w' ⟨rfl, rfl⟩
          go_wp2_with fail
          refine (must_yes 2 _).mono ?_
          rintro e w' ⟨rfl, rfl⟩
          go_wp2_with fail
          change Code.wp _ _ _ _ (w.alloc (.cells #[.bool false, .int .i64 0, .slice none 0 0, .int .u32 0] 154))
          clear c0
          generalize w.alloc (.cells #[.bool false, .int .i64 0, .slice none 0 0, .int .u32 0] 154) = w0 at *
          refine wp_region_ord 16 [(0, true), (1, true), (2, true), (3, true), (4, true), (5, true), (6, true), (7, true), (8, true), (9, true), (10, true), (11, true), (12, true), (13, true), (14, true), (15, true)] (by kernel_rfl) (by kernel_rfl) ?_
          have hgd : Grows w0 w0.drew := (Grows.refl w0).drew
          have hla := Lib.hid (hla.later hgd)
          have hlc := Lib.hid (hlc.later hgd)
          have hld := hcell_later c1 hgd
          have hO := Grows.refl w0.drew
          have HGD := Lib.hid hgd
          clear hgd c1 hr0
          have hn1 : (1 : Int) < (n : Int) := by omega
          have hwx : IntKind.i64.wrap (x : Int) = (x : Int) := by unfold IntKind.wrap; simp [IntKind.signed, IntKind.bits]; omega
          generalize w0.drew = wd at *
          have ld1 : ∀ u, Grows wd u → u.cell? ⟨ad.block, ad.off + 1, none⟩ = some (bv _) := fun u h => hcell_later hld h
          repeat (first | (refine ord_cut hO _ ?_ (by simp only [List.getElem?_cons_succ, List.getElem?_cons_zero]; rfl) (by rfl) 22 (.tmp 31) (some (.const (.int .i64 2))) (some (.const (.int .i64 6))) none (by rfl) ?_ ?_; rotate_left; (· (exact hca)); try simp only [Act.put, List.setIfInBounds_toArray, List.set_cons_zero, List.set_cons_succ]) | (refine ord_cut hO _ ?_ (by simp only [List.getElem?_cons_succ, List.getElem?_cons_zero]; rfl) (by rfl) 22 (.tmp 35) (some (.const (.int .i64 6))) (some (.tmp 36)) none (by rfl) ?_ ?_; rotate_left; (· (exact hcb)); try simp only [Act.put, List.setIfInBounds_toArray, List.set_cons_zero, List.set_cons_succ]) | (refine ord_cut hO _ ?_ (by simp only [List.getElem?_cons_succ, List.getElem?_cons_zero]; rfl) (by rfl) 22 (.tmp 38) (some (.tmp 39)) none none (by rfl) ?_ ?_; rotate_left; (· (exact hcc)); try simp only [Act.put, List.setIfInBounds_toArray, List.set_cons_zero, List.set_cons_succ]) | (refine ord_take hO _ ?_ (by simp only [List.getElem?_cons_succ, List.getElem?_cons_zero]; rfl) (by rfl) ?_ ?_; rotate_left; (· (intro u hu0 hu; (try go_simp); (try with_reducible rfl))); try simp only [Act.put, List.setIfInBounds_toArray, List.set_cons_zero, List.set_cons_succ]) | (refine ord_skip _ (by simp only [List.getElem?_cons_succ, List.getElem?_cons_zero]; rfl) (by rfl) ?_; try simp only [Act.put, List.setIfInBounds_toArray, List.set_cons_zero, List.set_cons_succ]) | (refine ord_call hO _ ?_ (by simp only [List.getElem?_cons_succ, List.getElem?_cons_zero]; rfl) (by rfl) ?_ ?_; rotate_left; (· (intro u hu0 hu; go_simp; (try refine quiet_enter ?_); (first | with_reducible exact fnumber_g _ _ HX _ HXL.out (hla.out.later hu0) | with_reducible exact fnumber_g _ _ HS _ HSL.out (hlc.out.later hu0)))); try simp only [Act.put, List.setIfInBounds_toArray, List.set_cons_zero, List.set_cons_succ]))
          clear hO ld1 hca hcb hcc hld
          (refine ord_done (fun u hu => ?_); simp only [List.drop_succ_cons, List.drop_zero])
          have hgu := Grows.trans HGD.out hu
          have hb1 := hb0.later hgu
          have hgu := Grows.trans hg0 hgu
          clear hu HGD hla hlc hb0 hg0
          go_wp2_with (refine wpList_storev rfl 154 (.tmp 2) (.tmp 42) rfl w.heap.size [.bool false, .int .i64 0, .slice none 0 0, .int .u32 0] [.bool _, iv x, .slice Ab m (c - 6), uv s] 4 rfl rfl hb1 rfl rfl parts_size (by simp [Value.oneCell']) ?_; intro w5 hb5 hbel5)
          refine NoPanic.normal ?_
          go_wp2_with fail
          refine bodyPost_ret (res_has (vs := [.bool _, iv x, .slice Ab m (c - 6), uv s]) rfl _ rfl htd htr parts_size hb5) rfl ?_
          have hgf := hbel5 w.heap.size w (Nat.le_refl _) hgu
          refine .inl ⟨HT.out, Ab, c - 6, ?_, by rw [HN.out]; have := HM.out; omega, hlb.below hgf, hgf⟩
          rw [HN.out, HP.out]
          rfl
      · have HT : Hid (formB f = false) := by
          show _ = _
          rw [HF.out]
          have h0 : (x1 == 0) = false := by simpa using fun h => h01 (.inl h)
          have h1 : (x1 == 1) = false := by simpa using fun h => h01 (.inr h)
          rw [h0, h1]; rfl
        have g0 : ((x1.toNat : Int) == 0) = false := by simpa using fun h : (x1.toNat : Int) = 0 => h01 (.inl (UInt8.toNat_inj.1 (by simp; omega)))
        have g1 : ((x1.toNat : Int) == 1) = false := by simpa using fun h : (x1.toNat : Int) = 1 => h01 (.inr (UInt8.toNat_inj.1 (by simp; omega)))
        go_wp2_with fail
        refine (must_yes 2 _).mono ?_
        rintro e w' ⟨rfl, rfl⟩
        go_wp2_with fail
        refine (must_yes 2 _).mono ?_
        rintro e w' ⟨rfl, rfl⟩
        go_wp2_with fail
        refine (must_no 2 _).mono ?_
        rintro e w' ⟨rfl, rfl⟩
        exact ⟨rfl, no _ hg0 HT.out⟩
    · have HT : Hid (formB f = false) := by
        show _ = _
        rw [HF.out]
        have h0 : (x0 == 76) = false := by simpa using h76
        rw [h0]; rfl
      have g0 : ((x0.toNat : Int) == 76) = false := by simpa using fun h : (x0.toNat : Int) = 76 => h76 (UInt8.toNat_inj.1 (by simp; omega))
      go_wp2_with fail
      refine (must_yes 2 _).mono ?_
      rintro e w' ⟨rfl, rfl⟩
      go_wp2_with fail
      refine (must_no 2 _).mono ?_
      rintro e w' ⟨rfl, rfl⟩
      exact ⟨rfl, no _ hg0 HT.out⟩
end Go.Proofs.YtbcldknecdbemaaDoor

/-
  Contracts of frame's asTheyWere.
-/
namespace Go.Proofs.YtbcldknecdbemaaDoor
open Go.RowKit
set_option linter.unusedVariables false
set_option maxRecDepth 20000

/-- What asTheyWere answers. -/
def WOut (o : Option (List UInt8)) (w : World) (e : Ending) (w' : World) : Prop :=
  (∃ b v, o = some b ∧ e = .returned v ∧ w'.ownsRow w.heap.size 5 1 v b.length (b.map bv) ∧ Grows w w') ∨ (o = none ∧ e = .panicked (why 2) ∧ Grows w w')

set_option maxRecDepth 20000 in
set_option maxHeartbeats 4000000 in
theorem were_any (pk : Bool) (A : Option Addr) (m c : Nat) (l : List UInt8) (k s : Nat) (w : World) (hl : l.length = m) (hr : Lies w w.heap.size A (l.map bv)) (hc : m ≤ c) (hm : m ≤ 1000000000) (hk : k < 4294967296) :
    Calls Tryd.prog 107 #[.agg #[.bool pk, iv k, .slice A m c, uv s]] w fun e w' => WOut (wereOf pk k l) w e w' := by
  have hb0 := Has.new w 154 [.bool pk, iv k, .slice A m c, uv s]
  have hg0 := grows_alloc w (.cells #[.bool pk, iv k, .slice A m c, uv s] 154)
  have hr0 := hr.later hg0
  have f0 := hb0.cell (k := 0) rfl
  have f1 := hb0.cell (k := 1) rfl
  have f2 := hb0.cell (k := 2) rfl
  cases pk with
  | false =>
    go_enter Tryd.func107, Tryd.ntmps107
    by_cases hmk : m = k
    · subst hmk
      have HW : Hid (wereOf false m l = some l) := by show _ = _; unfold wereOf; rw [if_neg (by decide), if_pos hl]
      have HL := Lib.hid hl
      go_wp2_with fail
      refine (must_yes 2 _).mono ?_
      rintro e w' ⟨rfl, rfl⟩
      go_wp2_with fail
      refine (clone_any A m c l _ HL.out hr0 (by omega)).mono ?_
      rintro e w1 ⟨v, rfl, hown, hg1⟩
      go_wp2_with fail
      go_ret
      exact .inl ⟨l, _, HW.out, rfl, by rw [HL.out]; exact own_base hown hg0.size, Grows.trans hg0 hg1⟩
    · have HW : Hid (wereOf false k l = none) := by show _ = _; unfold wereOf; rw [if_neg (by decide), if_neg (by omega)]
      have hq : ((m : Int) == (k : Int)) = false := by simp; omega
      go_wp2_with fail
      refine (must_no 2 _).mono ?_
      rintro e w' ⟨rfl, rfl⟩
      exact ⟨rfl, .inr ⟨HW.out, rfl, hg0⟩⟩
  | true =>
    have HW : Hid (wereOf true k l = if (unpackOf l k).2 = 0 ∧ (unpackOf l k).1.length = k then some (unpackOf l k).1 else none) := by show _ = _; unfold wereOf; rw [if_pos rfl]
    go_enter Tryd.func107, Tryd.ntmps107
    go_wp2_with fail
    refine (unpack_any A m c l (k : Int) _ hl hr0 hc hm (by omega)).mono ?_
    rintro e w1 ⟨v, rfl, hown, hg1⟩
    have f1' := hcell_later f1 hg1
    have hgf := Grows.trans hg0 hg1
    replace hown := own_base hown hg0.size
    clear f0 f2 hb0 hr0 hr hl hg1
    change World at w1
    obtain ⟨b, er, hu⟩ : ∃ b er, unpackOf l k = (b, er) := ⟨_, _, rfl⟩
    rw [hu] at hown HW
    simp only [hu]
    clear hu
    obtain ⟨ln, hln⟩ : ∃ ln, b.length = ln := ⟨_, rfl⟩
    simp only [hln] at hown HW
    have HLN := Lib.hid hln
    clear hln
    obtain ⟨A', c', rfl, hc'⟩ := own_form hown
    by_cases he : er = 0
    · subst he
      by_cases hk2 : ln = k
      · subst hk2
        go_wp2_with fail
        refine (must_yes 2 _).mono ?_
        rintro e w' ⟨rfl, rfl⟩
        go_wp2_with fail
        refine (must_yes 2 _).mono ?_
        rintro e w' ⟨rfl, rfl⟩
        go_wp2_with fail
        go_ret
        exact .inl ⟨b, _, by rw [HW.out, if_pos (by simp)], rfl, by rw [HLN.out]; exact hown, hgf⟩
      · have hq : ((ln : Int) == (k : Int)) = false := by simp; omega
        go_wp2_with fail
        refine (must_yes 2 _).mono ?_
        rintro e w' ⟨rfl, rfl⟩
        go_wp2_with fail
        refine (must_no 2 _).mono ?_
        rintro e w' ⟨rfl, rfl⟩
        exact ⟨rfl, .inr ⟨by rw [HW.out, if_neg (by simpa using hk2)], rfl, hgf⟩⟩
    · have hq : ((er : Int) == 0) = false := by simp; omega
      go_wp2_with fail
      refine (must_no 2 _).mono ?_
      rintro e w' ⟨rfl, rfl⟩
      exact ⟨rfl, .inr ⟨by rw [HW.out, if_neg (by simp [he])], rfl, hgf⟩⟩
end Go.Proofs.YtbcldknecdbemaaDoor
