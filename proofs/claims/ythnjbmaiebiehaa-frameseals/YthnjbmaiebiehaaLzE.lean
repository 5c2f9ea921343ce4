/-
  Contract of lz's Pack.
-/
import Derived.Test.YthnjbmaiebiehaaLzD
namespace Go.Proofs.Ythnjbmaiebiehaa
open Go.RowKit
set_option linter.unusedVariables false

/-- The places that a match at i may begin at. -/
def wnd (bs : List UInt8) (i : Nat) : List UInt8 → List Nat := win bs (i - min i 1024) (min i 1024)
theorem wnd_short (bs : List UInt8) (i : Nat) (k : List UInt8) (h : k.length ≠ 4) : wnd bs i k = [] := win_short h
theorem wnd_low {bs : List UInt8} {i : Nat} (h : i < 1024) : wnd bs i = win bs 0 i ∧ wnd bs (i + 1) = win bs 0 (i + 1) := by
  unfold wnd
  rw [Nat.min_eq_left (by omega), Nat.min_eq_left (by omega), Nat.sub_self, Nat.sub_self]
  exact ⟨rfl, rfl⟩
theorem wnd_high {bs : List UInt8} {i : Nat} (h : ¬ i < 1024) : wnd bs i = win bs (i - 1024) 1024 ∧ wnd bs (i + 1) = win bs (i - 1024 + 1) 1024 := by
  unfold wnd
  rw [Nat.min_eq_right (by omega), Nat.min_eq_right (by omega), show i + 1 - 1024 = i - 1024 + 1 by omega]
  exact ⟨rfl, rfl⟩
theorem wnd_lt {bs : List UInt8} {i : Nat} {k : List UInt8} {j : Nat} (h : j ∈ wnd bs i k) : j < i := by
  unfold wnd win at h
  have := (List.mem_filter.1 h).1
  rw [List.mem_range'_1] at this
  omega
theorem wnd_len (bs : List UInt8) (i : Nat) (k : List UInt8) : (wnd bs i k).length ≤ 1024 := Nat.le_trans (win_len _ _ _ _) (Nat.min_le_right _ _)
theorem take4 {bs : List UInt8} {i j : Nat} (h : ∀ t, t < 4 → i + t < bs.length ∧ bs[i + t]? = bs[j + t]?) : (bs.drop j).take 4 = (bs.drop i).take 4 ∧ ((bs.drop i).take 4).length = 4 := by
  refine ⟨List.ext_getElem? fun t => ?_, ?_⟩
  · rw [List.getElem?_take, List.getElem?_take]
    split
    · rw [List.getElem?_drop, List.getElem?_drop]; exact (h t ‹_›).2.symm
    · rfl
  · have := (h 3 (by omega)).1
    rw [List.length_take, List.length_drop]
    omega
theorem wnd_match {bs : List UInt8} {i : Nat} (h : i < bs.length) : lgo bs i (wnd bs i ((bs.drop i).take 4)) = matchOf bs i := by
  unfold wnd win
  rw [lgo_filter, lgo_match h]
  intro j hj hp
  rw [List.mem_range'_1] at hj
  rcases Nat.lt_or_ge (mlen bs i (i - j)) 4 with h4 | h4
  · exact h4
  · have := take4 (bs := bs) (i := i) (j := j) fun t ht => by
      have := mlen_at (b := bs) (i := i) (d := i - j) (t := t) (by omega)
      rwa [show i + t - (i - j) = j + t by omega] at this
    simp [this.1, this.2] at hp
theorem own_same {w w' : World} {base : Nat} {e : TypeId} {size : Nat} {v : Value} {n : Nat} {xs : List Value} (h : w.ownsRow base e size v n xs) (hs : ∀ g, v.ownBlock = some g → w'.heap[g]? = w.heap[g]?) : w'.ownsRow base e size v n xs := by
  obtain ⟨h1, h2⟩ := h
  refine ⟨h1, ?_⟩
  rcases h2 with h2 | ⟨g, cap, cur, rfl, h3, h4, h5⟩
  · exact .inl h2
  · exact .inr ⟨g, cap, cur, rfl, h3, (hs g rfl).trans h4, h5⟩
theorem own_base {w : World} {base base' : Nat} {e : TypeId} {size : Nat} {v : Value} {n : Nat} {xs : List Value} (h : w.ownsRow base e size v n xs) (hb : base' ≤ base) : w.ownsRow base' e size v n xs := by
  obtain ⟨h1, h2⟩ := h
  refine ⟨h1, ?_⟩
  rcases h2 with h2 | ⟨g, cap, cur, rfl, h3, h4⟩
  · exact .inl h2
  · exact .inr ⟨g, cap, cur, rfl, by omega, h4⟩
theorem wpList_makeMap {P : Program} {ops : Array Oper} {rest : List Oper} {o : Oper} {a : Act} {w : World} {Q : Exit → Act → World → Prop} (hgd : o.guard = none) (t : TypeId) (ho : o.op = .makeMap t none)
    (hk : wpList P ops Q rest (a.put o.dst (.map (some w.heap.size))) (w.alloc (.map #[] 0))) : wpList P ops Q (o :: rest) a w := by
  refine wpList_plain hgd fun K' hK' => ?_
  have h : (Instr.makeMap t none).run P w = .ok (.map (some w.heap.size)) (w.alloc (.map #[] 0)) := by simp [Instr.makeMap, newObj, Sem.run]
  unfold Oper.wp execOp
  simp only [ho, Option.map_none, Sem.run_bind, h, Result.andThen_ok, Sem.run_pure]
  exact hK' _ _ hk
theorem Places.wrote {w w' : World} {b : Nat} {p p' : Value} {L : List UInt8 → List Nat} (h : Places w b p.ownBlock L) (hW : Wrote p p' w w') (hb : some b ≠ p.ownBlock) : Places w' b p'.ownBlock L := by
  obtain ⟨f, hM, hf, hd⟩ := h
  refine ⟨f, hM.kept hW.grown hb, fun k => ?_, hd⟩
  rcases hf k with h1 | ⟨v, h1, h2, h3, h4, h5⟩
  · exact .inl h1
  · refine .inr ⟨v, h1, h2, h3.kept hW.grown h5, h4, fun e => ?_⟩
    obtain ⟨g, eg, hlt⟩ := h3.lt
    rcases hW.at_ with e1 | ⟨g', e1, hge⟩
    · exact h5 (e.trans e1)
    · rw [eg, e1] at e; injection e with e; omega
theorem Kept.refl (b : Nat) (pb : Option Nat) (w : World) : Kept b pb w w := ⟨Below.refl b w, fun _ _ => rfl⟩
theorem Kept.trans {b : Nat} {pb : Option Nat} {w w1 w2 : World} (h : Kept b pb w w1) (k : Kept b pb w1 w2) : Kept b pb w w2 := ⟨h.1.trans k.1, fun g hg => (k.2 g hg).trans (h.2 g hg)⟩
theorem lits_le (l : List UInt8) : (lits l).length ≤ 2 * l.length := by
  have := lits_len l.length l rfl
  omega

set_option maxRecDepth 20000 in
set_option maxHeartbeats 1000000 in
theorem pack_any (A : Option Addr) (n c : Nat) (bs : List UInt8) (w : World) (hl : bs.length = n) (hr : Lies w w.heap.size A (bs.map bv)) (hc : n ≤ c) (hn : n ≤ 1000000000) :
    Calls Try.prog 21 #[.slice A n c] w fun e w' => ∃ v, e = .returned v ∧ w'.ownsRow w.heap.size 5 1 v (packOf bs).length ((packOf bs).map bv) ∧ Grows w w' := by
  have HL := Lib.hid hl
  clear hl
  have HF : Hid (packOf bs = [] ++ packFrom bs 0 0) := rfl
  obtain ⟨W, hW⟩ : ∃ W, W = packOf bs := ⟨_, rfl⟩
  rw [← hW] at HF ⊢
  clear hW
  have hg0 : Grows w (w.alloc (.map #[] 0)) := grows_alloc w _
  have hP0 : Places (w.alloc (.map #[] 0)) w.heap.size none (wnd bs 0) := ⟨fun _ => none, MapAt.new w, fun k => .inl ⟨rfl, rfl⟩, fun _ _ _ _ _ h => by cases h⟩
  have hs0 : (w.alloc (.map #[] 0)).heap.size = w.heap.size + 1 := World.size_alloc _ _
  go_enter Try.func21, Try.ntmps21
  go_wp2_with (with_reducible refine wpList_makeMap rfl 62 rfl ?_)
  generalize w.alloc (.map #[] 0) = w0 at *
  go_loopw [3, 5, 6, 7, 8] (fun p f q _ _ wr => ∃ (i fr : Nat) (out : List UInt8), i ≤ n ∧ fr ≤ i ∧ f = iv fr ∧ q = iv i ∧ Hid (W = out ++ packFrom bs i fr) ∧ out.length ≤ 2 * fr ∧ wr.ownsRow (w.heap.size + 1) 5 1 p out.length (out.map bv) ∧
      Places wr w.heap.size p.ownBlock (wnd bs i) ∧ Grows w wr ∧ w0.heap.size ≤ wr.heap.size) (fun _ _ q _ _ _ => n - (intOf q).toNat)
  case atStart => exact ⟨0, 0, [], Nat.zero_le _, Nat.le_refl _, rfl, rfl, HF.out, Nat.le_refl _, World.ownsRow_nil _ _ _ _, hP0, hg0, Nat.le_refl _⟩
  case round =>
    clear hP0 hg0
    obtain ⟨i, fr, out, hin, hfi, rfl, rfl, HO, hol, hown, hPl, hgr, hsz⟩ := hrel
    have hbw : w.heap.size < wr.heap.size := by omega
    have hpw : ∀ g, (u3 : Value).ownBlock = some g → g < wr.heap.size := fun g hg => (hown.lt g hg).2
    have hpb : some w.heap.size ≠ (u3 : Value).ownBlock := fun e => by have := (hown.lt _ e.symm).1; omega
    by_cases hi : i < n
    · go_wp2_with fail
      refine (at_any w.heap.size _ (wnd bs i) A n c i bs wr hPl (wnd_short bs i) HL.out (hr.later hgr) hc hi (by omega)).mono ?_
      rintro e w1 ⟨A2, c2, rfl, hL2, rfl⟩
      have hlong := longest_any A n c i bs A2 _ c2 (wnd bs i ((bs.drop i).take 4)) w1 HL.out (hr.later hgr) rfl hL2 (fun j hj => wnd_lt hj) hi (by omega) (by have := wnd_len bs i ((bs.drop i).take 4); omega)
      rw [wnd_match (by rw [HL.out]; exact hi)] at hlong
      generalize wnd bs i ((bs.drop i).take 4) = js at *
      clear hL2
      go_wp2_with fail
      refine hlong.mono ?_
      rintro e w2 ⟨rfl, hg2⟩
      clear hlong
      have hgr2 := Grows.trans hgr hg2
      have hP2 := hPl.grows hg2
      have hown2 := own_later hown hg2
      have hsz2 := Nat.le_trans hsz hg2.size
      have hbw2 : w.heap.size < w2.heap.size := Nat.lt_of_lt_of_le hbw hg2.size
      have hpw2 : ∀ g, (u3 : Value).ownBlock = some g → g < w2.heap.size := fun g hg => (hown2.lt g hg).2
      clear hgr hPl hown hg2 hsz hbw hpw
      have HM1 := Lib.hid (@pack_none bs i fr (by rw [HL.out]; exact hi))
      have HM2 := Lib.hid (@pack_some bs i fr (by rw [HL.out]; exact hi))
      have HM3 := Lib.hid (@match_some bs i)
      obtain ⟨x, y, hxy⟩ : ∃ x y, matchOf bs i = (x, y) := ⟨_, _, rfl⟩
      rw [hxy] at HM1 HM2 HM3 ⊢
      simp only [] at HM1 HM2 HM3 ⊢
      have HXY := Lib.hid hxy
      clear hxy
      by_cases hx : x = 0
      · subst hx
        have HO2 : Hid (W = out ++ packFrom bs (i + 1) fr) := by show _ = _; rw [HO.out, HM1.out rfl]
        clear HM1 HM2 HM3 HO
        go_wp2_with fail
        go_loopw [6, 41] (fun q t wv => ∃ k i' : Nat, k ≤ 1 ∧ i' = i + k ∧ t = iv k ∧ q = iv i' ∧ Places wv w.heap.size (u3 : Value).ownBlock (wnd bs i') ∧ Kept w.heap.size (u3 : Value).ownBlock w2 wv) (fun _ t _ => 1 - (intOf t).toNat)
        case atStart => exact ⟨0, i, Nat.zero_le _, rfl, rfl, rfl, hP2, Kept.refl _ _ _⟩
        case round =>
          obtain ⟨k, i', hk, hi', rfl, rfl, hPk, hKk⟩ := hrel
          by_cases hkt : k < 1
          · have hin' : i' < n := by omega
            have HI := Lib.hid hi'
            clear hi'
            have hgk : Grows w wr := Below.trans hgr2 hKk.1
            have hbk : w.heap.size < wr.heap.size := Nat.lt_of_lt_of_le hbw2 hKk.1.size
            have hpk : ∀ g, (u3 : Value).ownBlock = some g → g < wr.heap.size := fun g hg => Nat.lt_of_lt_of_le (hpw2 g hg) hKk.1.size
            by_cases h1024 : i' < 1024
            · rw [(wnd_low h1024).1] at hPk
              have hn12 : n ≤ 1000000000000 := by omega
              have hz0 : 0 + i' = i' := Nat.zero_add _
              have hkeep := keep_any w.heap.size (u3 : Value).ownBlock A n c i' 0 i' bs wr hPk hz0 hpb hpk hbk HL.out (hr.later hgk) hc hin' hn12
              have HKEEP := Lib.hid hkeep
              clear hkeep
              go_wp2_with fail
              refine HKEEP.out.mono ?_
              rintro e w5 ⟨⟨ve, rfl⟩, hP5, hK5⟩
              rw [← (wnd_low h1024).2] at hP5
              go_wp2_with fail
              refine (forget_none w.heap.size A n c _ w5 (by omega)).mono ?_
              rintro e w6 ⟨⟨vf, rfl⟩, rfl⟩
              go_wp2_with fail
              go_roundw
              case rel => exact ⟨k + 1, i' + 1, by omega, by have := HI.out; omega, by go_num, by go_num, hP5, hKk.trans hK5⟩
              case measure => simp [intOf]; omega
            · rw [(wnd_high h1024).1] at hPk
              have e24 : (i' : Int) - 1024 = ((i' - 1024 : Nat) : Int) := by omega
              have hn12 : n ≤ 1000000000000 := by omega
              have hz0 : i' - 1024 + 1024 = i' := by omega
              have hkeep := keep_any w.heap.size (u3 : Value).ownBlock A n c i' (i' - 1024) 1024 bs wr hPk hz0 hpb hpk hbk HL.out (hr.later hgk) hc hin' hn12
              have HKEEP := Lib.hid hkeep
              clear hkeep
              go_wp2_with fail
              refine HKEEP.out.mono ?_
              rintro e w5 ⟨⟨ve, rfl⟩, hP5, hK5⟩
              have hg5 : Grows w w5 := Below.trans hgk hK5.1
              go_wp2_with fail
              refine (forget_any w.heap.size _ A n c (i' - 1024) 1024 bs w5 hP5 hpb (fun g hg => Nat.lt_of_lt_of_le (hpk g hg) hK5.1.size) (Nat.lt_of_lt_of_le hbk hK5.1.size) HL.out (hr.later hg5) hc (by omega) (by omega) (by omega)).mono ?_
              rintro e w6 ⟨⟨vf, rfl⟩, hP6, hK6⟩
              rw [← (wnd_high h1024).2] at hP6
              go_wp2_with fail
              go_roundw
              case rel => exact ⟨k + 1, i' + 1, by omega, by have := HI.out; omega, by go_num, by go_num, hP6, (hKk.trans hK5).trans hK6⟩
              case measure => simp [intOf]; omega
          · obtain rfl : i' = i + 1 := by omega
            go_wp2_with fail
            go_roundw
            case rel => exact ⟨i + 1, fr, out, by omega, by omega, rfl, by go_num, HO2.out, hol, own_same hown2 hKk.2, hPk, Below.trans hgr2 hKk.1, Nat.le_trans hsz2 hKk.1.size⟩
            case measure => simp [intOf]; omega
      · obtain ⟨x4, x131, y1, yi, y1024, xn, _⟩ := HM3.out hx
        rw [HL.out] at xn
        have hxp : (0 : Int) < (x : Int) := by omega
        have hmax : (if (1 : Int) < (x : Int) then (x : Int) else 1) = (x : Int) := by split <;> omega
        have HO2 : Hid (W = out ++ (lits ((bs.drop fr).take (i - fr)) ++ (mtok (x, y) ++ packFrom bs (i + x) (i + x)))) := by show _ = _; rw [HO.out, HM2.out hx]
        clear HM1 HM2 HM3 HO
        have HPL : Hid (((bs.drop fr).take (i - fr)).length = i - fr) := by show _ = _; rw [List.length_take, List.length_drop, HL.out]; omega
        have hLB : Lies w2 (w.heap.size + 1) A (bs.map bv) := (hr.below hgr2).mono (by omega)
        have hLt : Lies w2 (w.heap.size + 1) (if c = fr then A else A.map (·.add fr)) (((bs.drop fr).take (i - fr)).map bv) := by
          rw [List.map_take, List.map_drop]; exact (hLB.cut (by rw [List.length_map, HL.out]; exact hc)).take _
        have hLt2 : Lies w2 (w.heap.size + 1) (A.map (·.add fr)) (((bs.drop fr).take (i - fr)).map bv) := by
          rw [List.map_take, List.map_drop]; exact (hLB.from_ _).take _
        go_wp2_with fail
        refine (putlits_any u3 (w.heap.size + 1) out.length out _ (i - fr) (c - fr) ((bs.drop fr).take (i - fr)) w2 hown2 HPL.out hLt2 (by omega) (by omega) (by omega)).mono ?_
        rintro e w3 ⟨v1, rfl, hown3, hW3⟩
        have hll := lits_le ((bs.drop fr).take (i - fr))
        rw [HPL.out] at hll
        have hlo : (out ++ lits ((bs.drop fr).take (i - fr))).length ≤ 2 * i := by rw [List.length_append]; omega
        go_wp2_with fail
        refine (putmatch_any v1 (w.heap.size + 1) _ _ x y w3 hown3 (by have := hW3.grown.size; omega) (by omega) ⟨x4, x131⟩ ⟨y1, by omega⟩).mono ?_
        rintro e w4 ⟨v2, rfl, hown4, hW4⟩
        have hWW := hW3.trans hW4
        have hP4 := hP2.wrote hWW hpb
        have hgr4 : Grows w w4 := Below.trans hgr2 (hWW.below (by omega) (fun g hg => by have := (hown2.lt g hg).1; omega))
        have hbw4 : w.heap.size < w4.heap.size := Nat.lt_of_lt_of_le hbw2 hWW.grown.size
        have hpw4 : ∀ g, (v2 : Value).ownBlock = some g → g < w4.heap.size := fun g hg => (hown4.lt g hg).2
        have hpb4 : some w.heap.size ≠ (v2 : Value).ownBlock := fun e => by have := (hown4.lt _ e.symm).1; omega
        have hsz4 := Nat.le_trans hsz2 hWW.grown.size
        have hol4 : (out ++ lits ((bs.drop fr).take (i - fr)) ++ mtok (x, y)).length ≤ 2 * (i + x) := by rw [List.length_append, mtok_len]; omega
        have HO3 : Hid (W = (out ++ lits ((bs.drop fr).take (i - fr)) ++ mtok (x, y)) ++ packFrom bs (i + x) (i + x)) := by show _ = _; rw [HO2.out]; simp
        clear hown3 hW3 hW4 hlo hll HO2 hLt hLt2 hLB HPL hown2 hP2 hWW
        go_wp2_with fail
        go_loopw [6, 41] (fun q t wv => ∃ k i' : Nat, k ≤ x ∧ i' = i + k ∧ t = iv k ∧ q = iv i' ∧ Places wv w.heap.size (v2 : Value).ownBlock (wnd bs i') ∧ Kept w.heap.size (v2 : Value).ownBlock w4 wv) (fun _ t _ => x - (intOf t).toNat)
        case atStart => exact ⟨0, i, Nat.zero_le _, rfl, rfl, rfl, hP4, Kept.refl _ _ _⟩
        case round =>
          obtain ⟨k, i', hk, hi', rfl, rfl, hPk, hKk⟩ := hrel
          by_cases hkt : k < x
          · have hin' : i' < n := by omega
            have HI := Lib.hid hi'
            clear hi'
            have hgk : Grows w wr := Below.trans hgr4 hKk.1
            have hbk : w.heap.size < wr.heap.size := Nat.lt_of_lt_of_le hbw4 hKk.1.size
            have hpk : ∀ g, (v2 : Value).ownBlock = some g → g < wr.heap.size := fun g hg => Nat.lt_of_lt_of_le (hpw4 g hg) hKk.1.size
            by_cases h1024 : i' < 1024
            · rw [(wnd_low h1024).1] at hPk
              have hn12 : n ≤ 1000000000000 := by omega
              have hz0 : 0 + i' = i' := Nat.zero_add _
              have hkeep := keep_any w.heap.size (v2 : Value).ownBlock A n c i' 0 i' bs wr hPk hz0 hpb4 hpk hbk HL.out (hr.later hgk) hc hin' hn12
              have HKEEP := Lib.hid hkeep
              clear hkeep
              go_wp2_with fail
              refine HKEEP.out.mono ?_
              rintro e w5 ⟨⟨ve, rfl⟩, hP5, hK5⟩
              rw [← (wnd_low h1024).2] at hP5
              go_wp2_with fail
              refine (forget_none w.heap.size A n c _ w5 (by omega)).mono ?_
              rintro e w6 ⟨⟨vf, rfl⟩, rfl⟩
              go_wp2_with fail
              go_roundw
              case rel => exact ⟨k + 1, i' + 1, by omega, by have := HI.out; omega, by go_num, by go_num, hP5, hKk.trans hK5⟩
              case measure => simp [intOf]; omega
            · rw [(wnd_high h1024).1] at hPk
              have e24 : (i' : Int) - 1024 = ((i' - 1024 : Nat) : Int) := by omega
              have hn12 : n ≤ 1000000000000 := by omega
              have hz0 : i' - 1024 + 1024 = i' := by omega
              have hkeep := keep_any w.heap.size (v2 : Value).ownBlock A n c i' (i' - 1024) 1024 bs wr hPk hz0 hpb4 hpk hbk HL.out (hr.later hgk) hc hin' hn12
              have HKEEP := Lib.hid hkeep
              clear hkeep
              go_wp2_with fail
              refine HKEEP.out.mono ?_
              rintro e w5 ⟨⟨ve, rfl⟩, hP5, hK5⟩
              have hg5 : Grows w w5 := Below.trans hgk hK5.1
              go_wp2_with fail
              refine (forget_any w.heap.size _ A n c (i' - 1024) 1024 bs w5 hP5 hpb4 (fun g hg => Nat.lt_of_lt_of_le (hpk g hg) hK5.1.size) (Nat.lt_of_lt_of_le hbk hK5.1.size) HL.out (hr.later hg5) hc (by omega) (by omega) (by omega)).mono ?_
              rintro e w6 ⟨⟨vf, rfl⟩, hP6, hK6⟩
              rw [← (wnd_high h1024).2] at hP6
              go_wp2_with fail
              go_roundw
              case rel => exact ⟨k + 1, i' + 1, by omega, by have := HI.out; omega, by go_num, by go_num, hP6, (hKk.trans hK5).trans hK6⟩
              case measure => simp [intOf]; omega
          · obtain rfl : i' = i + x := by omega
            go_wp2_with fail
            go_roundw
            case rel => exact ⟨i + x, i + x, out ++ lits ((bs.drop fr).take (i - fr)) ++ mtok (x, y), by omega, Nat.le_refl _, by go_num, by go_num, HO3.out, hol4, own_same hown4 hKk.2, hPk, Below.trans hgr4 hKk.1, Nat.le_trans hsz4 hKk.1.size⟩
            case measure => simp [intOf]; omega
    · have HO2 : Hid (W = out ++ lits (bs.drop fr)) := by show _ = _; rw [HO.out, pack_end (by rw [HL.out]; exact hi)]
      have HPL : Hid ((bs.drop fr).length = n - fr) := by show _ = _; rw [List.length_drop, HL.out]
      have hLB : Lies wr (w.heap.size + 1) A (bs.map bv) := (hr.below hgr).mono (by omega)
      by_cases hcf : c = fr
      · obtain rfl : fr = n := by omega
        subst hcf
        have HE : Hid (bs.drop c = []) := List.drop_eq_nil_of_le (by rw [HL.out]; omega)
        have hLt : Lies wr (w.heap.size + 1) A ((bs.drop c).map bv) := by rw [HE.out]; exact Lies.empty
        have HPL0 : Hid ((bs.drop c).length = 0) := by show _ = _; rw [HE.out]; rfl
        go_wp2_with fail
        refine (putlits_any u3 (w.heap.size + 1) out.length out A 0 0 (bs.drop c) wr hown HPL0.out hLt (by omega) (by omega) (by omega)).mono ?_
        rintro e w3 ⟨v1, rfl, hown3, hW3⟩
        rw [← HO2.out] at hown3
        have hgr3 : Grows w w3 := Below.trans hgr (hW3.below (by omega) (fun g hg => by have := (hown.lt g hg).1; omega))
        go_wp2_with fail
        go_ret
        exact ⟨v1, rfl, own_base hown3 (by omega), hgr3⟩
      · have hLt : Lies wr (w.heap.size + 1) (A.map (·.add fr)) ((bs.drop fr).map bv) := by
          rw [List.map_drop]; exact hLB.from_ _
        go_wp2_with fail
        refine (putlits_any u3 (w.heap.size + 1) out.length out _ (n - fr) (c - fr) (bs.drop fr) wr hown HPL.out hLt (by omega) (by omega) (by omega)).mono ?_
        rintro e w3 ⟨v1, rfl, hown3, hW3⟩
        rw [← HO2.out] at hown3
        have hgr3 : Grows w w3 := Below.trans hgr (hW3.below (by omega) (fun g hg => by have := (hown.lt g hg).1; omega))
        go_wp2_with fail
        go_ret
        exact ⟨v1, rfl, own_base hown3 (by omega), hgr3⟩
end Go.Proofs.Ythnjbmaiebiehaa
