/-
  Contracts, joined (DkI DkJ DkK DkL).
-/
import Derived.Test.YtbcldknecdbemaaGreatDoorQ12
import Derived.Maps.RangeWalk
import Derived.Lib.SlBytesConst
import Derived.Lib.SmallJoins

/-
  disk: List. A map of files, gone through in whatever row.
-/
namespace Go.Proofs.YtbcldknecdbemaaGreatDoor
open Go.RowKit
set_option linter.unusedVariables false
set_option maxRecDepth 20000

/-- Block r goes through the map of block b; what is still to come: L. -/
def Rng (w : World) (b r : Nat) (L : Fls) : Prop := ∃ es clock since seen c0 l, w.heap[b]? = some (.map es clock) ∧ MapKept.Stamped es clock ∧ ekv es = kvs l ∧ w.heap[r]? = some (.mapIter (some b) since seen c0) ∧
  (∀ x ∈ es.toList, x.born < since) ∧ since ≤ c0 ∧ since ≤ clock ∧ ekv (leftOf es seen) = kvs L
theorem Rng.ne {w : World} {b r : Nat} {L : Fls} (h : Rng w b r L) : r ≠ b := by
  obtain ⟨es, clock, since, seen, c0, l, hb, _, _, hr, _⟩ := h
  intro e
  rw [e, hb] at hr; cases hr
theorem Rng.lt {w : World} {b r : Nat} {L : Fls} (h : Rng w b r L) : r < w.heap.size ∧ b < w.heap.size := by
  obtain ⟨es, clock, since, seen, c0, l, hb, _, _, hr, _⟩ := h
  exact ⟨(Array.getElem?_eq_some_iff.1 hr).1, (Array.getElem?_eq_some_iff.1 hb).1⟩
theorem Rng.turned {w w' : World} {b r : Nat} {L : Fls} {Q : Nat → Prop} (h : Rng w b r L) (ht : Turns Q w w') (h1 : ¬ Q b) (h2 : ¬ Q r) : Rng w' b r L := by
  have hl := h.lt
  obtain ⟨es, clock, since, seen, c0, l, hb, a1, a2, hr, a3⟩ := h
  exact ⟨es, clock, since, seen, c0, l, (ht.block b hl.2 h1).trans hb, a1, a2, (ht.block r hl.1 h2).trans hr, a3⟩
/-- Is this its key? -/
def isK (p : Byts) (v : Value) : Bool := match v with
  | .string s => s.data.toList == p
  | _ => false
theorem isK_iff (p : Byts) (v : Value) : isK p v = true ↔ v = tv p := by
  unfold isK
  split
  · rename_i s
    rw [beq_iff_eq]
    constructor
    · intro h
      show Value.string s = Value.string ⟨p.toArray⟩
      rw [← h]
    · intro h
      injection h with h
      rw [h]
  · rename_i h
    constructor
    · intro h; cases h
    · intro e; exact absurd e (h _)
theorem isK_no {p : Byts} {v : Value} (h : v ≠ tv p) : isK p v = false := by
  cases e : isK p v
  · rfl
  · exact absurd ((isK_iff p v).1 e) h
theorem kv_filter {es : List MapEntry} {L : Fls} (h : es.map (fun e => (e.key, e.val)) = kvs L) (p : Byts) : (es.filter (fun e => !isK p e.key)).map (fun e => (e.key, e.val)) = kvs (fDel L p) := by
  induction es generalizing L with
  | nil => cases L with
    | nil => rfl
    | cons y r => simp [kvs] at h
  | cons e r ih =>
    cases L with
    | nil => simp [kvs] at h
    | cons y L =>
      simp only [List.map_cons, kvs, List.cons.injEq, Prod.mk.injEq] at h
      obtain ⟨⟨h1, h2⟩, h3⟩ := h
      rw [fDel_cons]
      by_cases hy : y.1 = p
      · rw [if_pos hy, List.filter_cons_of_neg (by rw [(isK_iff p e.key).2 (by rw [h1, hy])]; simp)]
        exact ih h3
      · rw [if_neg hy, List.filter_cons_of_pos (by rw [isK_no (by rw [h1]; exact fun e => hy (tv_inj e))]; rfl)]
        simp only [List.map_cons, kvs, h1, h2]
        congr 1
        exact ih h3
section
variable {P : Program} {w : World} {b r : Nat} {S L : Fls}
theorem Rng.start {T K E : TypeId} (hT : P.underlying T = some (.map K E)) (h : Files w b S) : ∃ w' L, (Instr.range T (.map (some b))).run P w = .ok (.pointer (some ⟨w.heap.size, 0, none⟩)) w' ∧ Rng w' b w.heap.size L ∧ L.Perm S ∧ Grows w w' := by
  have hlt := h.lt
  obtain ⟨es, clock, l, hb, hs, hl, hp⟩ := h
  refine ⟨_, l, run_range_map w T K E b es clock hT hb, ⟨es, clock, clock, #[], clock, l, ((MapKept.heap_alloc w _).2 b hlt).trans hb, hs, hl, (MapKept.heap_alloc w _).1, hs.1, Nat.le_refl _, Nat.le_refl _, ?_⟩, hp, grows_alloc _ _⟩
  have : leftOf es #[] = es := by simp [leftOf]
  rw [this]; exact hl
theorem Rng.next (h : Rng w b r L) (ty : TypeId) : (L = [] ∧ (Instr.next (.pointer (some ⟨r, 0, none⟩)) false ty).run P w = .ok (.tuple #[.bool false]) w) ∨
    ∃ x w', L.Perm (x :: fDel L x.1) ∧ (Instr.next (.pointer (some ⟨r, 0, none⟩)) false ty).run P w = .ok (.tuple #[.bool true, tv x.1, tv x.2]) w' ∧ Rng w' b r (fDel L x.1) ∧ w.grownBy w' (some r) ∧ w'.heap.size = w.heap.size ∧
      (Instr.entry (.pointer (some ⟨r, 0, none⟩))).run P w' = .ok (.tuple #[tv x.1, tv x.2]) w' := by
  have hne := h.ne
  obtain ⟨es, clock, since, seen, c0, l, hb, hs, hl, hr, hold, hsc, hsk, hL⟩ := h
  rcases run_next_at (P := P) w ty r b since c0 seen es clock hr hb hold hsc with ⟨h0, hrun⟩ | ⟨e, he, w1, hal, hrun⟩
  · refine .inl ⟨?_, hrun⟩
    have : leftOf es seen = #[] := Array.eq_empty_of_size_eq_zero h0
    rw [this] at hL
    cases L with
    | nil => rfl
    | cons y r => simp [ekv, kvs] at hL
  · obtain ⟨hem, hes⟩ := mem_left he
    obtain ⟨j, hj⟩ := List.getElem?_of_mem he
    obtain ⟨x, hx, hk, hv⟩ := kv_at hL j hj
    have hr1 : w1.heap[r]? = some (.mapIter (some b) since seen c0) := by rcases hal with rfl | rfl <;> exact hr
    have hb1 : w1.heap[b]? = some (.map es clock) := by rcases hal with rfl | rfl <;> exact hb
    have hset := MapKept.heap_set (o' := .mapIter (some b) since (seen.push e.born) clock) hr1
    have hst := (MapKept.stamped_iff es clock).1 hs
    have hleft : (leftOf es (seen.push e.born)).toList = (leftOf es seen).toList.filter (fun y => !isK x.1 y.key) := by
      unfold leftOf
      rw [Array.toList_filter, Array.toList_filter, List.filter_filter]
      refine List.filter_congr fun y hy => ?_
      rw [contains_push]
      have hbk : (y.born == e.born) = isK x.1 y.key := by
        rw [Bool.eq_iff_iff, beq_iff_eq, isK_iff, ← hk]
        constructor
        · intro h; rw [born_inj hst.2.1 hy hem h]
        · intro h
          have := entry_eq_of_key hst.2.2 hy hem h
          rw [this]
      rw [hbk]
      cases seen.contains y.born <;> cases isK x.1 y.key <;> rfl
    have hLn : (L.map (·.1)).Nodup := by
      have h1 : (leftOf es seen).toList.map (·.key) = L.map (fun x => tv x.1) := by
        have := congrArg (List.map Prod.fst) hL
        simpa [ekv, kvs, Function.comp_def] using this
      have h2 : ((leftOf es seen).toList.map (·.key)).Nodup := by
        unfold leftOf
        rw [Array.toList_filter]
        exact hs.2.2.sublist ((List.filter_sublist (l := es.toList)).map _)
      rw [h1] at h2
      rw [List.Nodup, List.pairwise_map] at h2 ⊢
      exact h2.imp fun h e => h (by rw [e])
    refine .inr ⟨x, _, ?_, by rw [← hk, ← hv]; exact hrun, ⟨es, clock, since, seen.push e.born, clock, l, (hset.2 b (fun e1 => hne e1.symm)).trans hb1, hs, hl, hset.1, hold, hsk, hsk, ?_⟩, ?_, ?_, ?_⟩
    · have h1 := fPut_perm (p := x.1) (b := x.2) L
      have h2 := set_perm1 hLn hx x.2
      have h3 : L.set j (x.1, x.2) = L := by
        apply List.ext_getElem?
        intro i
        by_cases hi : j = i
        · subst hi; rw [List.getElem?_set_self (List.getElem?_eq_some_iff.1 hx).1, hx]
        · rw [List.getElem?_set_ne hi]
      rw [h3] at h2
      exact h2
    · show ((leftOf es (seen.push e.born)).toList).map _ = _
      rw [hleft]
      exact kv_filter hL x.1
    · rcases hal with rfl | rfl <;> exact ⟨rfl, rfl, rfl, by simp [ChangeMaps.setBlock], fun i _ hi => hset.2 i (fun e1 => hi (by rw [e1]))⟩
    · rcases hal with rfl | rfl <;> simp [ChangeMaps.setBlock]
    · have := run_entry_at (P := P) (ChangeMaps.setBlock w1 r (.mapIter (some b) since (seen.push e.born) clock)) r b since seen es clock e hset.1 ((hset.2 b (fun e1 => hne e1.symm)).trans hb1) hem hst.2.1
      rw [← hk, ← hv]
      exact this
end
end Go.Proofs.YtbcldknecdbemaaGreatDoor

/-
  disk: List.
-/
namespace Go.Proofs.YtbcldknecdbemaaGreatDoor
open Go.RowKit
set_option linter.unusedVariables false
set_option maxRecDepth 20000

section
variable {P : Program} {ops : Array Oper} {rest : List Oper} {oper : Oper} {ac : Act} {Q : Exit → Act → World → Prop} {w : World} {b r : Nat} {L : Fls}
theorem wpList_nextF (hg : oper.guard = none) (it : Operand) (hop : oper.op = Op.next it false) (hit : ac.eval it = .pointer (some ⟨r, 0, none⟩)) (h : Rng w b r L)
    (hDone : L = [] → wpList P ops Q rest (ac.put oper.dst (.tuple #[.bool false])) w)
    (hMore : ∀ x w', L.Perm (x :: fDel L x.1) → Rng w' b r (fDel L x.1) → Turns (fun k => k = r) w w' → w'.heap.size = w.heap.size → (Instr.entry (.pointer (some ⟨r, 0, none⟩))).run P w' = .ok (.tuple #[tv x.1, tv x.2]) w' → wpList P ops Q rest (ac.put oper.dst (.tuple #[.bool true, tv x.1, tv x.2])) w') :
    wpList P ops Q (oper :: rest) ac w := by
  refine wpList_plain hg fun K' hK' => ?_
  unfold Oper.wp
  rcases h.next (P := P) oper.type with ⟨h0, hrun⟩ | ⟨x, w', hp, hrun, hrg, hgr, hsz, hen⟩
  · simp [execOp, hop, hit, hrun, Result.andThen]
    exact hK' _ _ (hDone h0)
  · simp [execOp, hop, hit, hrun, Result.andThen]
    exact hK' _ _ (hMore x w' hp hrg (Turns.of_by hgr fun g hg _ => by cases hg; rfl) hsz hen)
end
def preF (S : Fls) (q : Byts) : List Byts := (S.filter (fun x => prefB x.1 q)).map (·.1)
theorem preF_cons (x : Byts × Byts) (S : Fls) (q : Byts) : preF (x :: S) q = if prefB x.1 q = true then x.1 :: preF S q else preF S q := by
  unfold preF
  by_cases h : prefB x.1 q = true
  · simp [h]
  · simp [h]
theorem preF_perm {S S' : Fls} (h : S.Perm S') (q : Byts) : (preF S q).Perm (preF S' q) := (h.filter _).map _
theorem preF_srt {S : Fls} (h : Srt S) (q : Byts) : (preF S q).Pairwise (fun x y => cmpB x y = -1) := by
  unfold preF
  rw [List.pairwise_map]
  exact h.sub List.filter_sublist
theorem preF_len (S : Fls) (q : Byts) : (preF S q).length ≤ S.length := by
  unfold preF
  rw [List.length_map]
  exact List.length_filter_le _ _

section
variable (a bs bl : Nat) (v : Value) (D : Dk) (w : World)
set_option maxHeartbeats 4000000 in
theorem list_dk (q : Byts) (h : DiskAt w a bs bl v D) (hn : D.seen.length ≤ 1000000) :
    Calls Tryz.prog 26 #[.pointer (some ⟨a, 0, none⟩), tv q] w fun e w' => ∃ u, e = .returned u ∧ w'.ownsRow w.heap.size 9 1 u (preF D.seen q).length ((preF D.seen q).map tv) ∧ Grows w w' := by
  obtain ⟨x, h⟩ := h
  have c2 := h.has.cell (k := 2) rfl
  obtain ⟨i0, hi0, hz0, hz1, hz2⟩ := info_parts str_info
  obtain ⟨w1, L0, hrun, hR, hp, hg1⟩ := Rng.start (P := Tryz.prog) Tryz.underlying103 h.seen
  have hs1 := hR.lt.1
  have hsrt := preF_srt h.ok.srt q
  have hperm0 := preF_perm hp q
  have hlen0 := hp.length_eq
  have hlb := h.seen.lt
  generalize hSq : preF D.seen q = T at *
  clear hSq hp
  go_enter Tryz.func26, Tryz.ntmps26
  go_wp2_with fail
  generalize hBe : w.heap.size = B at *
  have hBw := Lib.hid (Nat.le_of_eq hBe)
  have hBx := Lib.hid (Nat.le_of_eq hBe.symm)
  clear hBe
  go_loopg [5] L0.length (fun k lv wr => ∃ (L : Fls) (acc : List Byts), L.length = k ∧ Rng wr bs B L ∧ wr.ownsRow (B + 1) 9 1 lv acc.length (acc.map tv) ∧ (acc ++ preF L q).Perm T ∧ acc.length + k ≤ 1000000 ∧ Turns (fun i => B ≤ i) w1 wr)
  case atStart => exact ⟨L0, [], rfl, hR, World.ownsRow_nil _ _ _ _, hperm0, by simp; omega, Turns.refl _ _⟩
  case round =>
    obtain ⟨L, acc, hLk, hRg, hown, hpm, hbd, TT⟩ := hrel
    have HLK := Lib.hid hLk
    clear hLk
    obtain ⟨A5, c5, rfl, hc5⟩ := own_form hown
    go_wp2_with (at_next; refine wpList_nextF rfl _ rfl rfl hRg ?_ ?_)
    · intro hL
      subst hL
      have hpm' : acc.Perm T := by simpa [preF] using hpm
      have hTl := Lib.hid hpm'.length_eq
      have hSo := sort_any wr rfl (by omega) hown hpm' hsrt
      have hB := hBw.out
      clear hpm hpm' hs1
      go_wp2_with fail
      with_reducible refine hSo.mono ?_
      rintro e w3 ⟨rfl, h3, g3⟩
      go_wp2_with fail
      go_ret
      have hT3 : Turns (fun i => B ≤ i) wr w3 := Turns.of_by g3 (fun g hg _ => by have := own_ge hown g hg; omega)
      have hfin : Grows w w3 := ((Turns.of_grows (S := fun i => B ≤ i) hg1).trans (TT.trans hT3)).grows (fun i hi => by omega)
      exact ⟨_, rfl, by rw [← hTl.out]; exact own_base h3 (by omega), hfin⟩
    · intro xn xd w2 hpx hR2 t2 hs2 hen
      have hlen2 := hpx.length_eq
      rw [List.length_cons, HLK.out] at hlen2
      have hne := hR2.lt
      have hown2 := own_turned hown t2 (fun g hg e => by have := own_ge hown g hg; omega)
      have TT2 : Turns (fun i => B ≤ i) w1 w2 := TT.trans (t2.mono fun i _ e => by omega)
      have hpp := preF_perm hpx q
      rw [preF_cons] at hpp
      have hHP := hpre_any xn q
      have HL2 := Lib.hid hlen2
      have hBs := hne.1
      clear hs2 hlen2 hs1
      generalize hLd : fDel L xn = L2 at *
      clear hLd
      cases hb : prefB xn q with
      | false =>
        rw [hb] at hHP
        rw [if_neg (by rw [hb]; exact Bool.false_ne_true)] at hpp
        have hpm2 := (hpp.append_left acc).symm.trans hpm
        clear hb
        go_wp2_with fail
        refine (hHP _).mono ?_
        rintro e w3 ⟨rfl, rfl⟩
        go_wp2_with fail
        go_roundg (gk - 1)
        case rel => exact ⟨L2, acc, by have := HL2.out; omega, hR2, hown2, hpm2, by have := HL2.out; omega, TT2⟩
        case measure => have := HL2.out; omega
      | true =>
        rw [hb] at hHP
        rw [if_pos hb] at hpp
        have hpm2 : (acc ++ [xn] ++ preF L2 q).Perm T := by
          rw [List.append_assoc]
          exact (hpp.append_left acc).symm.trans hpm
        have hga := grows_alloc w2 (.cells [tv xn].toArray 9)
        have hnew := Lies.new w2 9 [tv xn]
        have hown3 := own_later hown2 hga
        have hR3 := hR2.turned (Q := fun _ => False) (Turns.of_grows hga) (fun e => e) (fun e => e)
        have hsz3 : B + 1 ≤ (w2.alloc (.cells [tv xn].toArray 9)).heap.size := by have := hga.size; omega
        have hbd2 : acc.length + 1 ≤ 1000000 := by have := HL2.out; omega
        clear hb
        go_wp2_with fail
        refine (hHP _).mono ?_
        rintro e w3 ⟨rfl, rfl⟩
        go_wp2_with (at_builtin; refine wpList_append_src _ rfl (.tmp 20) (.tmp 22) _ rfl (B + 1) 9 i0 _ 16 Tryz.underlying60 hi0 hz0 hz1 hz2 rfl _ acc.length _ rfl hown3 _ _ 1 1 [tv xn] rfl rfl hnew (tv_one [xn]) (by unfold maxLen; omega) (by omega) hsz3 ?_; intro v4 w4 hown4 hg4 hat4; obtain ⟨A4, c4, rfl, hc4⟩ := own_form hown4)
        go_roundg (gk - 1)
        case rel =>
          refine ⟨L2, acc ++ [xn], by have := HL2.out; omega, ?_, ?_, hpm2, ?_, ?_⟩
          · exact hR3.turned (Turns.of_by (S := fun i => B + 1 ≤ i) hg4 (fun g hg _ => own_ge hown g hg)) (by omega) (by omega)
          · rw [List.map_append, List.length_append]; exact hown4
          · rw [List.length_append]; have := HL2.out; simp; omega
          · exact (TT2.trans (Turns.of_grows hga)).trans (Turns.of_by hg4 (fun g hg _ => by have := own_ge hown g hg; omega))
        case measure => have := HL2.out; omega
end
end Go.Proofs.YtbcldknecdbemaaGreatDoor

/-
  disk, for those who call it: a disk whose blocks are from m on, and none of X.
-/
namespace Go.Proofs.YtbcldknecdbemaaGreatDoor
open Go.RowKit
set_option linter.unusedVariables false
set_option maxRecDepth 20000

def Dsk (w : World) (a m : Nat) (X : Nat → Prop) (D : Dk) : Prop := ∃ bs bl v, DiskAt w a bs bl v D ∧ ∀ k, Foot a bs bl v k → m ≤ k ∧ ¬ X k
section
variable {w w' : World} {a m : Nat} {X X' Q : Nat → Prop} {D : Dk}
theorem Dsk.turned (h : Dsk w a m X D) (ht : Turns Q w w') (hQ : ∀ k, Q k → ¬ (m ≤ k ∧ ¬ X k)) : Dsk w' a m X D := by
  obtain ⟨bs, bl, v, ⟨x, h1⟩, h2⟩ := h
  exact ⟨bs, bl, v, ⟨x, h1.turned ht (fun k hk hq => hQ k hq (h2 k hk))⟩, h2⟩
theorem Dsk.later (h : Dsk w a m X D) (hg : Grows w w') : Dsk w' a m X D := h.turned (Q := fun _ => False) (Turns.of_grows hg) (fun _ e => e.elim)
theorem Dsk.more (h : Dsk w a m X D) (hX : ∀ k, X' k → X k ∨ w.heap.size ≤ k) : Dsk w a m X' D := by
  obtain ⟨bs, bl, v, ⟨x, h1⟩, h2⟩ := h
  exact ⟨bs, bl, v, ⟨x, h1⟩, fun k hk => ⟨(h2 k hk).1, fun e => (hX k e).elim (h2 k hk).2 (fun e => by have := h1.lt k hk; omega)⟩⟩
theorem Dsk.ok (h : Dsk w a m X D) : D.Ok := by
  obtain ⟨bs, bl, v, ⟨x, h1⟩, h2⟩ := h
  exact h1.ok
theorem Dsk.pos (h : Dsk w a m X D) : m ≤ w.heap.size := by
  obtain ⟨bs, bl, v, ⟨x, h1⟩, h2⟩ := h
  have := h1.lt a (.inl rfl)
  have := (h2 a (.inl rfl)).1
  omega
theorem Dsk.low (h : Dsk w a m X D) : -1 ≤ D.power := by
  obtain ⟨bs, bl, v, ⟨x, h1⟩, h2⟩ := h
  have := h1.pow
  omega
end
theorem Fresh.lies {w0 w : World} {v : Value} {l : Byts} (h : Fresh w0 w v l) : ∃ A c, v = .slice A l.length c ∧ Lies w w.heap.size A (l.map bv) := by
  rcases h with ⟨rfl, rfl⟩ | ⟨g, c, rfl, h1, h2, h3, h4, h5⟩
  · exact ⟨none, 0, rfl, Lies.empty⟩
  · refine ⟨_, c, rfl, fun j u hu => ?_⟩
    have := h4 j u hu
    exact ⟨⟨g, 0, none⟩, rfl, World.block_lt_of_cell? w ⟨g, j, none⟩ this, by rw [add_plain, Nat.zero_add]; exact this⟩
theorem Fresh.later {w0 w w' : World} {v : Value} {l : Byts} (h : Fresh w0 w v l) (hg : Grows w w') : Fresh w0 w' v l := by
  rcases h with ⟨rfl, rfl⟩ | ⟨g, c, rfl, h1, h2, h3, h4, h5⟩
  · exact .inl ⟨rfl, rfl⟩
  · refine .inr ⟨g, c, rfl, h1, h2, h3, fun j u hu => hcell_later (h4 j u hu) hg, fun j hj => ?_⟩
    obtain ⟨u, hu⟩ : ∃ u, (l.map bv)[j]? = some u := ⟨_, List.getElem?_eq_getElem (by simpa using hj)⟩
    rw [World.frozen?_of_block (hg.block g (World.block_lt_of_cell? w _ (h4 j u hu)))]
    exact h5 j hj
theorem Fresh.turned {w0 w w' : World} {v : Value} {l : Byts} {Q : Nat → Prop} (h : Fresh w0 w v l) (ht : Turns Q w w') (hQ : ∀ k, w0.heap.size ≤ k → k < w.heap.size → ¬ Q k) : Fresh w0 w' v l := by
  rcases h with ⟨rfl, rfl⟩ | ⟨g, c, rfl, h1, h2, h3, h4, h5⟩
  · exact .inl ⟨rfl, rfl⟩
  · have hlt : ∀ j, j < l.length → g < w.heap.size := fun j hj => by
      obtain ⟨u, hu⟩ : ∃ u, (l.map bv)[j]? = some u := ⟨_, List.getElem?_eq_getElem (by simpa using hj)⟩
      exact World.block_lt_of_cell? w ⟨g, j, none⟩ (h4 j u hu)
    refine .inr ⟨g, c, rfl, h1, h2, h3, fun j u hu => ?_, fun j hj => ?_⟩
    · have hj : j < l.length := by have := (List.getElem?_eq_some_iff.1 hu).1; simpa using this
      exact ht.cell (h4 j u hu) (hQ g h3 (hlt j hj))
    · rw [World.frozen?_of_block (ht.block g (hlt j hj) (hQ g h3 (hlt j hj)))]
      exact h5 j hj
/-- string(v), whatever bytes there are. -/
theorem Fresh.text {w0 w : World} {v : Value} {l : Byts} (h : Fresh w0 w v l) : (convert 27 9 v).run Tryz.prog w = .ok (tv l) w := by
  obtain ⟨A, c, rfl, hl⟩ := h.lies
  exact run_string_of w 27 5 Tryz.underlying27 Tryz.underlying5 9 Tryz.underlying9 _ A _ c l rfl hl

section
variable (a m : Nat) (X : Nat → Prop) (D : Dk) (w : World)
theorem up_d (h : Dsk w a m X D) : Calls Tryz.prog 42 #[.pointer (some ⟨a, 0, none⟩)] w fun e w' => e = .returned (.bool !(decide (D.power = 0))) ∧ w' = w := by
  obtain ⟨bs, bl, v, ⟨x, h1⟩, h2⟩ := h
  exact up_any a bs bl v x D w h1
theorem used_d (h : Dsk w a m X D) : Calls Tryz.prog 43 #[.pointer (some ⟨a, 0, none⟩)] w fun e w' => e = .returned (.int .i64 (fUsed D.seen : Int)) ∧ w' = w := by
  obtain ⟨bs, bl, v, ⟨x, h1⟩, h2⟩ := h
  exact used_any a bs bl v x D w h1
theorem waits_d (h : Dsk w a m X D) : Calls Tryz.prog 21 #[.pointer (some ⟨a, 0, none⟩)] w fun e w' => e = .returned (.int .i64 (D.waits.length : Int)) ∧ w' = w := by
  obtain ⟨bs, bl, v, ⟨x, h1⟩, h2⟩ := h
  exact waits_any a bs bl v x D w h1
theorem power_d (n : Int) (h : Dsk w a m X D) (hn : -9223372036854775808 ≤ n ∧ n ≤ 9223372036854775807) : Calls Tryz.prog 24 #[.pointer (some ⟨a, 0, none⟩), .int .i64 n] w fun e w' => e = .returned (.tuple #[]) ∧ Dsk w' a m X { D with power := max n (-1) } ∧ Turns (fun k => m ≤ k ∧ ¬ X k) w w' := by
  obtain ⟨bs, bl, v, ⟨x, h1⟩, h2⟩ := h
  refine (power_any a bs bl v x D w n h1 hn).mono ?_
  rintro e w' ⟨rfl, h3, t3⟩
  exact ⟨rfl, ⟨bs, bl, v, ⟨n, h3⟩, h2⟩, t3.mono fun k _ e => by rw [e]; exact h2 a (.inl rfl)⟩
theorem foot_next {a bs bl m : Nat} {X : Nat → Prop} {v v' : Value} {w : World} (h2 : ∀ k, Foot a bs bl v k → m ≤ k ∧ ¬ X k) (hX : ∀ k, X k → k < w.heap.size) (hm : m ≤ w.heap.size) (hl : Vloc w v v') : ∀ k, Foot a bs bl v' k → m ≤ k ∧ ¬ X k := by
  rintro k (rfl | rfl | rfl | hk)
  · exact h2 _ (.inl rfl)
  · exact h2 _ (.inr (.inl rfl))
  · exact h2 _ (.inr (.inr (.inl rfl)))
  · rcases hl k hk with e | e
    · exact h2 _ (.inr (.inr (.inr e)))
    · exact ⟨by omega, fun hx => by have := hX k hx; omega⟩
theorem write_d (p : Byts) (A : Option Addr) (n c : Nat) (d : Byts) (h : Dsk w a m X D) (hX : ∀ k, X k → k < w.heap.size) (hd : d.length = n) (hl : Lies w w.heap.size A (d.map bv)) (hW : D.weight + n ≤ 100000000) (hn : D.waits.length ≤ 1000000) (hr : 0 ≤ D.room ∧ D.room ≤ 1048576) :
    Calls Tryz.prog 56 #[.pointer (some ⟨a, 0, none⟩), tv p, .slice A n c] w fun e w' => e = .returned (rv (writeD D p d).2) ∧ Dsk w' a m X (writeD D p d).1 ∧ Turns (fun k => m ≤ k ∧ ¬ X k) w w' := by
  have hm := h.pos
  obtain ⟨bs, bl, v, h1, h2⟩ := h
  refine (write_dk a bs bl v D w p A n c d h1 hd hl hW hn hr).mono ?_
  rintro e w' ⟨v', rfl, h3, t3, l3⟩
  exact ⟨rfl, ⟨bs, bl, v', h3, foot_next h2 hX hm l3⟩, t3.mono fun k _ e => h2 k e⟩
theorem rename_d (p q : Byts) (h : Dsk w a m X D) (hX : ∀ k, X k → k < w.heap.size) (hW : D.weight ≤ 100000000) (hn : D.waits.length ≤ 1000000) (hp : p.length ≤ 100000000) :
    Calls Tryz.prog 60 #[.pointer (some ⟨a, 0, none⟩), tv p, tv q] w fun e w' => e = .returned (rv (renameD D p q).2) ∧ Dsk w' a m X (renameD D p q).1 ∧ Turns (fun k => m ≤ k ∧ ¬ X k) w w' := by
  have hm := h.pos
  obtain ⟨bs, bl, v, h1, h2⟩ := h
  refine (rename_dk a bs bl v D w p q h1 hW hn hp).mono ?_
  rintro e w' ⟨v', rfl, h3, t3, l3⟩
  exact ⟨rfl, ⟨bs, bl, v', h3, foot_next h2 hX hm l3⟩, t3.mono fun k _ e => h2 k e⟩
theorem remove_d (p : Byts) (h : Dsk w a m X D) (hX : ∀ k, X k → k < w.heap.size) (hW : D.weight ≤ 100000000) (hn : D.waits.length ≤ 1000000) (hp : p.length ≤ 100000000) :
    Calls Tryz.prog 36 #[.pointer (some ⟨a, 0, none⟩), tv p] w fun e w' => e = .returned (rv (removeD D p).2) ∧ Dsk w' a m X (removeD D p).1 ∧ Turns (fun k => m ≤ k ∧ ¬ X k) w w' := by
  have hm := h.pos
  obtain ⟨bs, bl, v, h1, h2⟩ := h
  refine (remove_dk a bs bl v D w p h1 hW hn hp).mono ?_
  rintro e w' ⟨v', rfl, h3, t3, l3⟩
  exact ⟨rfl, ⟨bs, bl, v', h3, foot_next h2 hX hm l3⟩, t3.mono fun k _ e => h2 k e⟩
theorem sync_d (h : Dsk w a m X D) (hX : ∀ k, X k → k < w.heap.size) (hW : D.weight ≤ 100000000) (hn : D.waits.length ≤ 1000000) :
    Calls Tryz.prog 58 #[.pointer (some ⟨a, 0, none⟩)] w fun e w' => e = .returned (rv (syncD D).2) ∧ Dsk w' a m X (syncD D).1 ∧ Turns (fun k => m ≤ k ∧ ¬ X k) w w' := by
  have hm := h.pos
  obtain ⟨bs, bl, v, h1, h2⟩ := h
  refine (sync_dk a bs bl v D w h1 hW hn).mono ?_
  rintro e w' ⟨v', rfl, h3, t3, l3⟩
  exact ⟨rfl, ⟨bs, bl, v', h3, foot_next h2 hX hm l3⟩, t3.mono fun k _ e => h2 k e⟩
theorem restart_d (Ak : Option Addr) (nk ck : Nat) (ks : List Bool) (h : Dsk w a m X D) (hX : ∀ k, X k → k < w.heap.size) (hks : ks.length = nk) (hkc : nk ≤ ck) (hkl : LiesIn (fun i => i < w.heap.size ∧ ¬ (m ≤ i ∧ ¬ X i)) w Ak (ks.map .bool)) (hW : D.weight ≤ 100000000) (hn : D.waits.length ≤ 1000000) :
    Calls Tryz.prog 19 #[.pointer (some ⟨a, 0, none⟩), .slice Ak nk ck] w fun e w' => e = .returned (.tuple #[]) ∧ Dsk w' a m X (restartD D ks) ∧ Turns (fun k => m ≤ k ∧ ¬ X k) w w' := by
  have hm := h.pos
  obtain ⟨bs, bl, v, h1, h2⟩ := h
  refine (restart_dk a bs bl v D w Ak nk ck ks h1 hks hkc (fun j u hu => ?_) hW hn).mono ?_
  · obtain ⟨ad, e1, ⟨e2, e3⟩, e4⟩ := hkl j u hu
    exact ⟨ad, e1, ⟨e2, fun hf => e3 (h2 _ hf)⟩, e4⟩
  · rintro e w' ⟨bs', rfl, h3, t3, l3⟩
    refine ⟨rfl, ⟨bs', bl, _, h3, ?_⟩, t3.mono fun k _ e => h2 k e⟩
    rintro k (rfl | rfl | rfl | hk)
    · exact h2 _ (.inl rfl)
    · exact ⟨by omega, fun hx => by have := hX _ hx; omega⟩
    · exact h2 _ (.inr (.inr (.inl rfl)))
    · simp [Value.ownBlock] at hk
theorem read_d (p : Byts) (h : Dsk w a m X D) (hW : D.weight ≤ 100000000) :
    Calls Tryz.prog 45 #[.pointer (some ⟨a, 0, none⟩), tv p] w fun e w' => ∃ u, e = .returned (.tuple #[u, rv (readD D p).2]) ∧ Fresh w w' u (readD D p).1 ∧ Grows w w' := by
  obtain ⟨bs, bl, v, h1, h2⟩ := h
  exact read_dk a bs bl v D w p h1 hW
theorem list_d (q : Byts) (h : Dsk w a m X D) (hn : D.seen.length ≤ 1000000) :
    Calls Tryz.prog 26 #[.pointer (some ⟨a, 0, none⟩), tv q] w fun e w' => ∃ u, e = .returned u ∧ w'.ownsRow w.heap.size 9 1 u (preF D.seen q).length ((preF D.seen q).map tv) ∧ Grows w w' := by
  obtain ⟨bs, bl, v, h1, h2⟩ := h
  exact list_dk a bs bl v D w q h1 hn
end
theorem new_d (room : Int) (w : World) (hr : 1 ≤ room ∧ room ≤ 1048576) : Calls Tryz.prog 33 #[rv room] w fun e w' => ∃ a, e = .returned (.tuple #[.pointer (some ⟨a, 0, none⟩), rv 0]) ∧ Dsk w' a w.heap.size (fun _ => False) (newD room) ∧ Grows w w' := by
  refine (new_dk room w).mono ?_
  rintro e w' ⟨hg, ⟨h, _⟩ | ⟨_, a, bs, bl, rfl, h1, h2⟩⟩
  · exact absurd hr h
  · exact ⟨a, rfl, ⟨bs, bl, _, h1, fun k hk => ⟨h2 k hk, fun e => e⟩⟩, hg⟩
theorem new_no (room : Int) (w : World) (hr : ¬ (1 ≤ room ∧ room ≤ 1048576)) : Calls Tryz.prog 33 #[rv room] w fun e w' => e = .returned (.tuple #[.pointer none, rv 1]) ∧ Grows w w' := by
  refine (new_dk room w).mono ?_
  rintro e w' ⟨hg, ⟨_, rfl⟩ | ⟨h, _⟩⟩
  · exact ⟨rfl, hg⟩
  · exact absurd h hr
end Go.Proofs.YtbcldknecdbemaaGreatDoor

/-
  Law 12's example.
-/
namespace Go.Proofs.YtbcldknecdbemaaGreatDoor
open Go.RowKit
set_option linter.unusedVariables false
set_option maxRecDepth 20000

theorem bool_one (l : List Bool) : ∀ u ∈ l.map Value.bool, u.oneCell' = true := fun u hu => by
  obtain ⟨b, _, rfl⟩ := List.mem_map.1 hu
  rfl
theorem lies_in_new (w : World) (t : TypeId) (vs : List Value) : LiesIn (fun k => k = w.heap.size) (w.alloc (.cells vs.toArray t)) (some ⟨w.heap.size, 0, none⟩) vs := fun j u hu => by
  refine ⟨_, rfl, rfl, ?_⟩
  rw [add_plain, Nat.zero_add]
  exact (Has.new w t vs).cell hu
theorem LiesIn.mono {ok ok' : Nat → Prop} {w : World} {A : Option Addr} {vs : List Value} (h : LiesIn ok w A vs) (hk : ∀ k, ok k → ok' k) : LiesIn ok' w A vs := fun j u hu => let ⟨ad, e, ho, hc⟩ := h j u hu; ⟨ad, e, hk _ ho, hc⟩
/-- Bytes of a constant, as the walk leaves them. -/
theorem lies_mark (w : World) (l : Byts) (fr : Nat × Nat) : Lies (w.alloc (.cells (l.map bv).toArray 5 fr)) (w.alloc (.cells (l.map bv).toArray 5 fr)).heap.size (some ⟨w.heap.size, 0, none⟩) (l.map bv) := fun j u hu => by
  refine ⟨_, rfl, by rw [World.size_alloc]; exact Nat.lt_succ_self _, ?_⟩
  rw [add_plain, Nat.zero_add, World.cell?_alloc_mark]
  simpa using hu
def exD1 : Dk := (writeD (newD 100) [97] [49, 50, 51, 52]).1
def exD2 : Dk := restartD exD1 [true, false]
def exD3 : Dk := (writeD exD2 [98] []).1
def exD4 : Dk := restartD exD3 []
end Go.Proofs.YtbcldknecdbemaaGreatDoor
