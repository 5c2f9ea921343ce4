/-
  The walk of the law StoreKeeps.
-/
import Derived.Test.YtbcldknecdbemaaGreatDoorQ19
import Derived.Test.YtbcldknecdbemaaGreatDoorQ14
import Derived.Test.YtbcldknecdbemaaGreatDoorQ8
import Derived.Test.YtbcldknecdbemaaGreatDoorQ1
import Derived.Test.YtbcldknecdbemaaGreatDoorS13A
import Derived.Test.YtbcldknecdbemaaGreatDoorQ18
namespace Go.Proofs.YtbcldknecdbemaaGreatDoor
open Go.RowKit
set_option linter.unusedVariables false
set_option maxRecDepth 20000

theorem orc_cut {P : Program} {Q : Exit → Act → World → Prop} {S : Nat → Prop} {l : List Oper} {E : Act → World → Prop} {w0 w : World} {i : Nat} {s : List (Nat × Bool)} {a : Act} (h0 : Turns S w0 w) (o : Oper) (v : Value) (ho : l[i]? = some o)
    (hw : Region.wanted o (yielded l.toArray a.tmps) = true) (t : TypeId) (x : Operand) (lo hi mx : Option Operand) (hop : o.op = .slice t x lo hi mx)
    (hy : ∀ u, (Instr.sliceAt t (a.eval x) (lo.map a.eval) (hi.map a.eval) (mx.map a.eval)).run P u = .ok v u)
    (h : wpOrdC S P l.toArray Q E s (a.put o.dst v) w) : wpOrdC S P l.toArray Q E ((i, true) :: s) a w :=
  orc_take h0 o v ho hw (fun u hu _ => exec_slice hop (hy u)) h
theorem lies_in_turned {ok Q : Nat → Prop} {w w' : World} {A : Option Addr} {vs : List Value} (h : LiesIn ok w A vs) (ht : Turns Q w w') (hQ : ∀ k, ok k → ¬ Q k) : LiesIn ok w' A vs := fun j u hu => by
  obtain ⟨ad, e, h1, h2⟩ := h j u hu
  exact ⟨ad, e, h1, ht.cell h2 (by rw [add_block]; exact hQ _ h1)⟩
theorem lies_in_later {ok : Nat → Prop} {w w' : World} {A : Option Addr} {vs : List Value} (h : LiesIn ok w A vs) (hg : Grows w w') : LiesIn ok w' A vs := lies_in_turned (Q := fun _ => False) h (Turns.of_grows hg) (fun _ _ e => e)
theorem lies_of_in {ok : Nat → Prop} {w : World} {A : Option Addr} {vs : List Value} {B : Nat} (h : LiesIn ok w A vs) (hB : ∀ k, ok k → k < B) : Lies w B A vs := fun j u hu => by
  obtain ⟨ad, e, h1, h2⟩ := h j u hu
  exact ⟨ad, e, hB _ h1, h2⟩
theorem lies_in_mono {ok ok' : Nat → Prop} {w : World} {A : Option Addr} {vs : List Value} (h : LiesIn ok w A vs) (hk : ∀ k, ok k → ok' k) : LiesIn ok' w A vs := fun j u hu => by
  obtain ⟨ad, e, h1, h2⟩ := h j u hu
  exact ⟨ad, e, hk _ h1, h2⟩
theorem fresh_in {w0 w : World} {A : Option Addr} {n c : Nat} {l : Byts} (h : Fresh w0 w (.slice A n c) l) : LiesIn (fun k => w0.heap.size ≤ k ∧ k < w.heap.size) w A (l.map bv) := by
  rcases h with ⟨e, rfl⟩ | ⟨g, c', e, h1, h2, h3, h4, _⟩
  · intro j u hu; simp at hu
  · injection e with e1 e2 e3
    subst e1
    intro j u hu
    have := h4 j u hu
    exact ⟨_, rfl, ⟨h3, World.block_lt_of_cell? w ⟨g, j, none⟩ this⟩, by rw [add_plain, Nat.zero_add]; exact this⟩
theorem dig_infoz : (Tryz.prog.info? 46).map (fun i => (i.zero, i.size, i.bytes)) = some (some (dv zero32), 32, 32) := by kernel_rfl
theorem slice_dig (nm : Byts) (hl : nm.length = 32) (u : World) : (Instr.buildSlice 33 1 #[(0, dv nm)]).run Tryz.prog u = .ok (.slice (some ⟨u.heap.size, 0, none⟩) 1 1) (u.alloc (.cells (nm.map bv).toArray 46)) := by
  obtain ⟨i0, hi0, hz0, hz1, _⟩ := info_parts dig_infoz
  have := slice_recsR (P := Tryz.prog) u 33 46 32 (by decide) i0 _ Tryz.underlying33 hi0 hz0 hz1 [nm.map bv] (fun r hr => by rw [List.mem_singleton] at hr; rw [hr, List.length_map, hl]) (by simp) (by simp)
  simpa using this
theorem seal_one_seen (b p q : Byts) (room k : Int) : (still room [(p, sealOf b)] k).seen.length ≤ 1000000 := by show (1 : Nat) ≤ _; omega

set_option maxHeartbeats 4000000 in
theorem storekeeps_walk (A : Option Addr) (n c : Nat) (bs : Byts) (Ak : Option Addr) (kl kc : Nat) (ks0 : List Bool) (w : World) (hk : Keys w) (hl : bs.length = n) (hr : Lies w w.heap.size A (bs.map bv)) (hc : n ≤ c) (hm : c ≤ maxLen)
    (hkl0 : ks0.length = kl) (hkr : Lies w w.heap.size Ak (ks0.map .bool)) (hkc : kl ≤ kc) (hkm' : kc ≤ maxLen) :
    Calls Tryz.prog 4 #[.slice A n c, .slice Ak kl kc] w fun e w' => e = .returned (.bool true) ∧ Below w.heap.size w w' := by
  have B0 := begin_any 1000 w (by omega)
  have FW := fun u (h : Grows w u) => few_bytes A n c 60 bs u hl (hr.later h) hc (by omega) hm
  have hol : (bs.take 60).length = min n 60 := by rw [List.length_take, hl]; omega
  have hmn : min n 60 ≤ 60 := by omega
  generalize bs.take 60 = own at *
  generalize min n 60 = ln at *
  have hp := put_first own 1000 (by omega) (by omega)
  have hpa := put_again (b := own) (room := 1000) (-1) (by omega) (by decide)
  have hgw := get_whole (b := own) (room := 1000) (by omega) (-1) (by decide)
  have hwt := still_wt own 1000 (-1) (placeB (shaOf own))
  have hrs := fun ks => restart_still 1000 [(placeB (shaOf own), sealOf own)] (-1) ks
  have hgg : (getD (still 1000 [(placeB (shaOf own), sealOf own)] (-1)) (shaOf own)).2 = 0 := by rw [hgw]
  have hw0 : (newD 1000).weight ≤ 90000000 ∧ (newD 1000).waits.length ≤ 100000 := ⟨by decide, by decide⟩
  have hro : (still 1000 [(placeB (shaOf own), sealOf own)] (-1)).room = 1000 ∧ (still 1000 [(placeB (shaOf own), sealOf own)] (-1)).waits = [] := ⟨rfl, rfl⟩
  have hro0 : (newD 1000).room = 1000 := rfl
  have hnl := shaOf_len own
  have RS := fun (u : World) (A' : Option Addr) (n' c' : Nat) (h1 : own.length = n') (h : Lies u u.heap.size A' (own.map bv)) => rsum_any A' n' c' own u h1 h (by omega)
  have PU0 := fun (u : World) (a m : Nat) (X : Nat → Prop) (A' : Option Addr) (n' c' : Nat) (hd : Dsk u a m X (newD 1000)) (hX : ∀ k, X k → k < u.heap.size) (hk : Keys u) (h1 : own.length = n') (hr : LiesIn (fun k => k < u.heap.size ∧ ¬ (m ≤ k ∧ ¬ X k)) u A' (own.map bv)) (hc : n' ≤ c') => sput_any a m X (newD 1000) u A' n' c' own hd hX hk h1 hr hc (by omega) hw0.1 hw0.2 (by rw [hro0]; omega)
  unfold PutOut at PU0
  rw [hp] at PU0
  have PU1 := fun (u : World) (a m : Nat) (X : Nat → Prop) (A' : Option Addr) (n' c' : Nat) (hd : Dsk u a m X (still 1000 [(placeB (shaOf own), sealOf own)] (-1))) (hX : ∀ k, X k → k < u.heap.size) (hk : Keys u) (h1 : own.length = n') (hr : LiesIn (fun k => k < u.heap.size ∧ ¬ (m ≤ k ∧ ¬ X k)) u A' (own.map bv)) (hc : n' ≤ c') => sput_any a m X _ u A' n' c' own hd hX hk h1 hr hc (by omega) (by omega) (by rw [hro.2]; simp) (by rw [hro.1]; omega)
  unfold PutOut at PU1
  rw [hpa] at PU1
  have PU1 := fun (u : World) (a m : Nat) (X : Nat → Prop) (A' : Option Addr) (n' c' : Nat) (hd : Dsk u a m X (still 1000 [(placeB (shaOf own), sealOf own)] (-1))) (hX : ∀ k, X k → k < u.heap.size) (hk : Keys u) (h1 : own.length = n') (hr : LiesIn (fun k => k < u.heap.size ∧ ¬ (m ≤ k ∧ ¬ X k)) u A' (own.map bv)) (hc : n' ≤ c') => (PU1 u a m X A' n' c' hd hX hk h1 hr hc).mono fun e w' ⟨h1, h2, h3, h4⟩ => (⟨h1, h4 (.inr hgg)⟩ : e = Ending.returned (.tuple #[dv (shaOf own), rv 0]) ∧ Grows u w')
  have GT := fun (u : World) (a m : Nat) (X : Nat → Prop) (hd : Dsk u a m X (still 1000 [(placeB (shaOf own), sealOf own)] (-1))) (hk : Keys u) => sget_any a m X _ u (shaOf own) hd hk (by omega) hnl
  unfold GetOut at GT
  have HA := fun (u : World) (a m : Nat) (X : Nat → Prop) (hd : Dsk u a m X (still 1000 [(placeB (shaOf own), sealOf own)] (-1))) (hk : Keys u) => shas_any a m X _ u (shaOf own) hd hk (by omega) hnl
  have MS := fun (u : World) (a m : Nat) (X : Nat → Prop) (g : Nat) (hd : Dsk u a m X (still 1000 [(placeB (shaOf own), sealOf own)] (-1))) (hk : Keys u) (hg : Has u g ((shaOf own).map bv)) => missing_one a m X _ u (shaOf own) g hd hk (by omega) hnl hg (by rw [hgw])
  rw [hgw] at GT HA
  generalize shaOf own = nm at *
  generalize still 1000 [(placeB nm, sealOf own)] (-1) = D1 at *
  generalize newD 1000 = D0 at *
  have hkl : (ks0.take 9).length = min kl 9 := by rw [List.length_take, hkl0]; omega
  have hkt : (min (kl : Int) 9).toNat = min kl 9 := by omega
  have hmk : min kl 9 ≤ kl := by omega
  have hlk : Lies w w.heap.size Ak ((ks0.take 9).map .bool) := fun j u hu => hkr j u (by
    rw [List.getElem?_map, List.getElem?_take] at hu
    split at hu
    · rw [List.getElem?_map]; exact hu
    · cases hu)
  generalize ks0.take 9 = ks at *
  generalize min kl 9 = kn at *
  have hnl2 : (nm.map bv).length = 32 := by rw [List.length_map]; exact hnl
  have z4 := zero32_len
  have hkp := hk.pos
  unfold maxLen at hkm'
  clear hp hpa hgw hgg hkr hkl0 hw0 hro0
  have HKT := Lib.hid hkt
  have HOL := Lib.hid hol
  have HWT := Lib.hid hwt
  have HRO := Lib.hid hro
  clear hkt hol hwt hro
  go_enter Tryz.func4, Tryz.ntmps4
  go_wp2_with fail
  refine B0.mono ?_
  rintro e w1 ⟨bw, a, rfl, hb, d1, hbw, g1⟩
  generalize hme : w.heap.size = m at *
  have HM := Lib.hid hme
  clear hme B0
  have hkm : ¬ (m ≤ 1) := by omega
  have hbl := hb.lt
  go_wp2_with fail
  refine (FW w1 g1).mono ?_
  rintro e w2 ⟨A1, c1, rfl, hc1, hown, hL2, g2⟩
  have FI := fresh_in (fresh_own hown (Nat.le_refl _))
  have h12 := g2.size
  have d2 := (d1.more (X' := fun k => k = bw ∨ w1.heap.size ≤ k) (fun k h => h)).later g2
  have d2 := d2.more (X' := fun k => k = bw ∨ (w1.heap.size ≤ k ∧ k < w2.heap.size)) (fun k h => .inl (h.imp id (fun h => h.1)))
  have hb2 := hb.later g2
  have T2 : Turns (fun q => m ≤ q) w w2 := Turns.of_grows (Grows.trans g1 g2)
  have hs2 : m ≤ w1.heap.size := by have := HM.out; have := g1.size; omega
  generalize hX2 : (fun k => k = bw ∨ (w1.heap.size ≤ k ∧ k < w2.heap.size)) = X at *
  have xbw : X bw := by rw [← hX2]; exact .inl rfl
  have xin : ∀ k, w1.heap.size ≤ k ∧ k < w2.heap.size → X k := fun k h => by rw [← hX2]; exact .inr h
  have xlt : ∀ k, X k → k < w2.heap.size := fun k h => by rw [← hX2] at h; rcases h with h | h <;> omega
  generalize hok : (fun k => w1.heap.size ≤ k ∧ k < w2.heap.size) = ok at *
  have oklt : ∀ k, ok k → k < w2.heap.size := fun k h => by rw [← hok] at h; exact h.2
  have okx : ∀ k, ok k → X k := fun k h => by rw [← hok] at h; exact xin k h
  have cw2 := hb2.cell (k := 0) rfl
  have C2 := PU0 w2 a m X A1 ln c1 d2 xlt (hk.turned T2 hkm) HOL.out (lies_in_mono FI (fun k h => ⟨oklt k h, fun e => e.2 (okx k h)⟩)) hc1
  clear hX2 hok d1 hb hown hL2 g2 FW PU0 d2 xin
  go_wp2_with fail
  refine C2.mono ?_
  rintro e w3 ⟨rfl, d3, t3, _⟩
  have hb3 := hb2.turned t3 (fun e => e.2 xbw)
  have FI3 := lies_in_turned FI t3 (fun k h e => e.2 (okx k h))
  have T3 := T2.trans (t3.mono fun q _ e => e.1)
  have t3s := t3.size
  clear C2 FI hb2 t3 cw2
  have hz4 := Has.new w3 46 (zero32.map bv)
  have ga3 := grows_alloc w3 (.cells (zero32.map bv).toArray 46)
  have d4 := (d3.more (X' := fun k => X k ∨ k = w3.heap.size) (fun k h => h.imp id (fun e => Nat.le_of_eq e.symm))).later ga3
  have hb4 := hb3.later ga3
  obtain ⟨w4, hw4⟩ : ∃ u, u = w3.alloc (.cells (zero32.map bv).toArray 46) := ⟨_, rfl⟩
  obtain ⟨B7, hB7⟩ : ∃ u, u = w3.heap.size := ⟨_, rfl⟩
  rw [← hw4] at hz4 ga3 hb4 d4
  rw [← hB7] at hz4 d4
  have HW4 := Lib.hid hw4.symm
  have HB7 := Lib.hid hB7.symm
  have n7 : ¬ bw = B7 := by have := xlt bw xbw; omega
  have h7 : m ≤ B7 ∧ w2.heap.size ≤ B7 := by omega
  clear hw4 hB7 d3
  go_wp2_with (first
    | (change wpList _ _ _ _ _ (w3.alloc (.cells (zero32.map bv).toArray 46)); rw [HW4.out, HB7.out])
    | (refine wpList_storeT rfl 46 (.tmp 7) (.tmp 25) rfl B7 (zero32.map bv) (nm.map bv) 32 rfl rfl hz4 z4 hnl2 Hx.dig_size (bv_one _) ?_; intro w5 b7 t5))
  have hb5 := hb4.turned t5 n7
  have d5 := d4.turned t5 (fun k e h => h.2 (.inr e))
  have T5 : Turns (fun q => m ≤ q) w w5 := (T3.trans (Turns.of_grows ga3)).trans (t5.mono fun k _ e => by rw [e]; exact h7.1)
  have FI5 := lies_in_turned (lies_in_later FI3 ga3) t5 (fun k h e => by have := oklt k h; omega)
  have xlt5 : ∀ k, (X k ∨ k = B7) → k < w5.heap.size := fun k h => by
    have := b7.lt; have := t5.size; have := ga3.size
    rcases h with h | h
    · have := xlt k h; omega
    · omega
  have oklt5 : ∀ k, ok k → k < w5.heap.size := fun k h => xlt5 k (.inl (okx k h))
  clear hz4 hb4 d4 t5 FI3 hb3 T3 ga3 HW4
  generalize hXX : (fun k => X k ∨ k = B7) = X5 at *
  have xbw5 : X5 bw := by rw [← hXX]; exact .inl xbw
  have x75 : X5 B7 := by rw [← hXX]; exact .inr rfl
  have okx5 : ∀ k, ok k → X5 k := fun k h => by rw [← hXX]; exact .inl (okx k h)
  have xlt5 : ∀ k, X5 k → k < w5.heap.size := fun k h => xlt5 k (by rw [← hXX] at h; exact h)
  clear hXX xlt okx oklt xbw T2
  -- the name is the bytes' own
  have gd5 := (Grows.refl w5).drew
  have ld5 : ∀ u, Grows w5.drew u → (Instr.loadAt 46 (.pointer (some ⟨B7, 0, none⟩))).run Tryz.prog u = .ok (dv nm) u := fun u h => dig_load hnl (b7.later (Grows.trans gd5 h))
  have RS5 : Hid (∀ u, Grows w5.drew u → Calls Tryz.prog 18 #[.slice A1 ln c1] u fun e w' => e = .returned (dv nm) ∧ Grows u w') := fun u h => RS u A1 ln c1 HOL.out (lies_of_in (lies_in_later FI5 (Grows.trans gd5 h)) (fun k hk => Nat.lt_of_lt_of_le (oklt5 k hk) (Grows.trans gd5 h).size))
  have hne : ∀ u, (binOp .neq 46 (dv nm) (dv nm)).run Tryz.prog u = .ok (.bool false) u := fun u => by rw [Hx.neq_dig nm nm hnl hnl u]; simp
  refine wp_region_ord 8 [(0, true), (1, true), (2, true), (3, true), (4, true), (5, true), (6, true), (7, true)] (by kernel_rfl) (by kernel_rfl) ?_
  have hO := Grows.refl w5.drew
  repeat (first | (refine ord_load hO _ _ (by simp only [List.getElem?_cons_succ, List.getElem?_cons_zero]; rfl) (by rfl) 46 (.tmp 7) (by rfl) _ (by rfl) ld5 ?_; try simp only [Act.put, List.setIfInBounds_toArray, List.set_cons_zero, List.set_cons_succ]) | (refine ord_take hO _ ?_ (by simp only [List.getElem?_cons_succ, List.getElem?_cons_zero]; rfl) (by rfl) ?_ ?_; rotate_left; (· (intro u hu0 hu; (try go_simp); (try with_reducible rfl))); try simp only [Act.put, List.setIfInBounds_toArray, List.set_cons_zero, List.set_cons_succ]) | (refine ord_skip _ (by simp only [List.getElem?_cons_succ, List.getElem?_cons_zero]; rfl) (by rfl) ?_; try simp only [Act.put, List.setIfInBounds_toArray, List.set_cons_zero, List.set_cons_succ]) | (refine ord_call hO _ ?_ (by simp only [List.getElem?_cons_succ, List.getElem?_cons_zero]; rfl) (by rfl) ?_ ?_; rotate_left; (· (intro u hu0 hu; go_simp; (try refine quiet_enter ?_); (with_reducible exact RS5.out u hu0))); try simp only [Act.put, List.setIfInBounds_toArray, List.set_cons_zero, List.set_cons_succ]))
  refine ord_done (fun w6 hu6 => ?_)
  simp only [List.drop_succ_cons, List.drop_zero]
  have G6 := Grows.trans gd5 hu6
  clear ld5 RS5 hO RS
  go_wp2_with fail
  refine NoPanic.normal ?_
  have hb6 := hb5.later G6
  have b7 := b7.later G6
  have d6 := d5.later G6
  have FI6 := lies_in_later FI5 G6
  have T6 := T5.trans (Turns.of_grows G6)
  have g6s := G6.size
  have xlt6 : ∀ k, X5 k → k < w6.heap.size := fun k h => by have := xlt5 k h; omega
  clear hb5 d5 FI5 T5
  -- Restart
  have gd6 := (Grows.refl w6).drew
  have hmi : min (kl : Int) 9 = (kn : Int) := by have := HKT.out; omega
  have hcut : ∀ u, (Instr.sliceAt 28 (.slice Ak kl kc) none (some (.int .i64 (kn : Int))) none).run Tryz.prog u = .ok (.slice Ak kn kc) u := fun u => run_cutK_to (P := Tryz.prog) (t := 28) (e := 4) Tryz.underlying28 (sz := 1) bool_size Ak kl kc kn .i64 (by omega) u
  have cw6 : ∀ u, Turns (fun k => m ≤ k ∧ ¬ X5 k) w6.drew u → u.cell? ⟨bw, 0, none⟩ = some (.pointer (some ⟨a, 0, none⟩)) := fun u h => ((hb6.later gd6).turned h (fun e => e.2 xbw5)).cell (k := 0) rfl
  have RT := fun (u : World) (h : Grows w6 u) => restart_d a m X5 D1 u Ak kn kc ks (d6.later h) (fun k hk => Nat.lt_of_lt_of_le (xlt6 k hk) h.size) hkl (by omega) (fun j u' hu => by
    obtain ⟨ad, e1, e2, e3⟩ := hlk j u' hu
    have := HM.out
    have := (T6.trans (Turns.of_grows h)).size
    exact ⟨ad, e1, ⟨by omega, fun h => by have := h.1; omega⟩, (T6.trans (Turns.of_grows h)).cell e3 (fun h => by rw [add_block] at h; omega)⟩) (by have := HWT.out; have := HOL.out; omega) (by rw [HRO.out.2]; simp)
  rw [hrs] at RT
  have hO := Turns.refl (fun k => m ≤ k ∧ ¬ X5 k) w6.drew
  go_wp2_with fail
  refine wp_region_callw (S := fun k => m ≤ k ∧ ¬ X5 k) 10 [(0, true), (1, true), (2, true), (3, true), (4, true), (5, true), (6, true), (7, true), (8, true), (9, false)] (by kernel_rfl) (by kernel_rfl) ?_
  repeat (first | (refine orc_cut hO _ ?_ (by simp only [List.getElem?_cons_succ, List.getElem?_cons_zero]; rfl) (by rfl) 28 (.tmp 39) none (some (.tmp 42)) none (by rfl) ?_ ?_; rotate_left; (· (exact hcut)); try simp only [Act.put, List.setIfInBounds_toArray, List.set_cons_zero, List.set_cons_succ]) | (refine orc_take hO _ ?_ (by simp only [List.getElem?_cons_succ, List.getElem?_cons_zero]; rfl) (by rfl) ?_ ?_; rotate_left; (· (intro u hu0 hu; (try go_simp); (try with_reducible rfl))); try simp only [Act.put, List.setIfInBounds_toArray, List.set_cons_zero, List.set_cons_succ]))
  refine orc_move _ (by simp only [List.getElem?_cons_succ, List.getElem?_cons_zero]; rfl) (by rfl) (fun v2 hv2 K hK => ?_)
  go_simp
  have G2 := Grows.trans gd6 hv2
  refine (RT v2 G2).mono ?_
  rintro e v3 ⟨rfl, d7, t7⟩
  refine hK.out _ _ t7 ?_
  clear hK K hO cw6
  have hO := Turns.refl (fun k => m ≤ k ∧ ¬ X5 k) v3
  repeat (refine orc_take hO _ ?_ (by simp only [List.getElem?_cons_succ, List.getElem?_cons_zero]; rfl) (by rfl) ?_ ?_; rotate_left; (· (intro u hu0 hu; (try go_simp); (try with_reducible rfl))); try simp only [Act.put, List.setIfInBounds_toArray, List.set_cons_zero, List.set_cons_succ])
  refine orc_done (fun w8 hv4 => ?_)
  simp only [List.drop_succ_cons, List.drop_zero]
  clear hO RT hcut hmi
  have hb8 := ((hb6.later G2).turned t7 (fun e => e.2 xbw5)).later hv4
  have b7 := ((b7.later G2).turned t7 (fun e => e.2 x75)).later hv4
  have d8 := d7.later hv4
  have FI8 := lies_in_later (lies_in_turned (lies_in_later FI6 G2) t7 (fun k h e => e.2 (okx5 k h))) hv4
  have T8 := ((T6.trans (Turns.of_grows G2)).trans (t7.mono fun q _ e => e.1)).trans (Turns.of_grows hv4)
  have g8s := Nat.le_trans (Nat.le_trans G2.size t7.size) hv4.size
  have xlt8 : ∀ k, X5 k → k < w8.heap.size := fun k h => by have := xlt6 k h; omega
  clear hb6 d6 FI6 T6 t7 d7 G2
  go_wp2_with fail
  refine NoPanic.normal ?_
  -- Get
  have gd8 := (Grows.refl w8).drew
  have cw8 : ∀ u, Grows w8.drew u → u.cell? ⟨bw, 0, none⟩ = some (.pointer (some ⟨a, 0, none⟩)) := fun u h => hcell_later (hb8.cell (k := 0) rfl) (Grows.trans gd8 h)
  have ld8 : ∀ u, Grows w8.drew u → (Instr.loadAt 46 (.pointer (some ⟨B7, 0, none⟩))).run Tryz.prog u = .ok (dv nm) u := fun u h => dig_load hnl (b7.later (Grows.trans gd8 h))
  have k8 := hk.turned T8 hkm
  go_wp2_with fail
  refine wp_region_ord 11 [(0, true), (1, true), (2, true), (3, true), (4, true), (5, false), (6, true), (7, true), (8, true), (9, true), (10, true)] (by kernel_rfl) (by kernel_rfl) ?_
  have hO := Grows.refl w8.drew
  repeat (first | (refine ord_load hO _ _ (by simp only [List.getElem?_cons_succ, List.getElem?_cons_zero]; rfl) (by rfl) 46 (.tmp 7) (by rfl) _ (by rfl) ld8 ?_; try simp only [Act.put, List.setIfInBounds_toArray, List.set_cons_zero, List.set_cons_succ]) | (refine ord_take hO _ ?_ (by simp only [List.getElem?_cons_succ, List.getElem?_cons_zero]; rfl) (by rfl) ?_ ?_; rotate_left; (· (intro u hu0 hu; (try go_simp); (try with_reducible rfl))); try simp only [Act.put, List.setIfInBounds_toArray, List.set_cons_zero, List.set_cons_succ]) | (refine ord_skip _ (by simp only [List.getElem?_cons_succ, List.getElem?_cons_zero]; rfl) (by rfl) ?_; try simp only [Act.put, List.setIfInBounds_toArray, List.set_cons_zero, List.set_cons_succ]))
  (refine ord_move _ (by simp only [List.getElem?_cons_succ, List.getElem?_cons_zero]; rfl) (by rfl) (fun u hu K hK => ?_); go_simp)
  have gu := Grows.trans gd8 hu
  refine (GT u a m X5 (d8.later gu) (k8.later gu)).mono ?_
  rintro e w9 ⟨A9, c9, rfl, hc9, hL9, g9⟩
  refine hK.out _ _ g9 ?_
  clear hK K hO cw8 ld8
  have hO := Grows.refl w9
  repeat (first | (refine ord_take hO _ ?_ (by simp only [List.getElem?_cons_succ, List.getElem?_cons_zero]; rfl) (by rfl) ?_ ?_; rotate_left; (· (intro u hu0 hu; (try go_simp); (try with_reducible rfl))); try simp only [Act.put, List.setIfInBounds_toArray, List.set_cons_zero, List.set_cons_succ]) | (refine ord_skip _ (by simp only [List.getElem?_cons_succ, List.getElem?_cons_zero]; rfl) (by rfl) ?_; try simp only [Act.put, List.setIfInBounds_toArray, List.set_cons_zero, List.set_cons_succ]))
  refine ord_done (fun w10 hu10 => ?_)
  simp only [List.drop_succ_cons, List.drop_zero]
  have G10 := Grows.trans gu (Grows.trans g9 hu10)
  have hb10 := hb8.later G10
  have b7 := b7.later G10
  have d10 := d8.later G10
  have FI10 := lies_in_later FI8 G10
  have T10 := T8.trans (Turns.of_grows G10)
  have hL10 := hL9.later hu10
  have g10s := G10.size
  have xlt10 : ∀ k, X5 k → k < w10.heap.size := fun k h => by have := xlt8 k h; omega
  -- the read bytes are in X
  clear hb8 d8 FI8 T8 hL9 gu k8 GT hO
  go_wp2_with fail
  refine NoPanic.normal ?_
  -- Put again
  have cw10 := hb10.cell (k := 0) rfl
  have k10 := hk.turned T10 hkm
  have C10 := PU1 w10 a m X5 A1 ln c1 d10 xlt10 k10 HOL.out (lies_in_mono FI10 (fun k h => ⟨by have := oklt5 k h; omega, fun e => e.2 (okx5 k h)⟩)) hc1
  clear PU1
  go_wp2_with fail
  refine C10.mono ?_
  rintro e w11 ⟨rfl, g11⟩
  have hz12 := Has.new w11 46 (zero32.map bv)
  have ga11 := grows_alloc w11 (.cells (zero32.map bv).toArray 46)
  obtain ⟨w12, hw12⟩ : ∃ u, u = w11.alloc (.cells (zero32.map bv).toArray 46) := ⟨_, rfl⟩
  obtain ⟨B11, hB11⟩ : ∃ u, u = w11.heap.size := ⟨_, rfl⟩
  rw [← hw12] at hz12 ga11
  rw [← hB11] at hz12
  have HW12 := Lib.hid hw12.symm
  have HB11 := Lib.hid hB11.symm
  have g11s := g11.size
  have hbB : w10.heap.size ≤ B11 := by omega
  clear hw12 hB11 C10 cw10
  go_wp2_with (first
    | (change wpList _ _ _ _ _ (w11.alloc (.cells (zero32.map bv).toArray 46)); rw [HW12.out, HB11.out])
    | (refine wpList_storeT rfl 46 (.tmp 11) (.tmp 61) rfl B11 (zero32.map bv) (nm.map bv) 32 rfl rfl hz12 z4 hnl2 Hx.dig_size (bv_one _) ?_; intro w13 b11 t13))
  have G13 : Grows w10 w13 := ((Turns.of_grows (S := fun k => w10.heap.size ≤ k) (Grows.trans g11 ga11)).trans (t13.mono fun k _ e => by rw [e]; exact hbB)).grows (fun k h1 h2 => by omega)
  clear hz12 ga11 t13 HW12
  have hb13 := hb10.later G13
  have b7 := b7.later G13
  have d13 := d10.later G13
  have FI13 := lies_in_later FI10 G13
  have hL13 := hL10.later G13
  have T13 := T10.trans (Turns.of_grows G13)
  have k13 := k10.later G13
  have hnA : own.length = ln := HOL.out
  -- the answers
  have gd := (Grows.refl w13).drew
  have cw : ∀ u, Grows w13.drew u → u.cell? ⟨bw, 0, none⟩ = some (.pointer (some ⟨a, 0, none⟩)) := fun u h => hcell_later (hb13.cell (k := 0) rfl) (Grows.trans gd h)
  have ld7 : ∀ u, Grows w13.drew u → (Instr.loadAt 46 (.pointer (some ⟨B7, 0, none⟩))).run Tryz.prog u = .ok (dv nm) u := fun u h => dig_load hnl (b7.later (Grows.trans gd h))
  have ld11 : ∀ u, Grows w13.drew u → (Instr.loadAt 46 (.pointer (some ⟨B11, 0, none⟩))).run Tryz.prog u = .ok (dv nm) u := fun u h => dig_load hnl (b11.later (Grows.trans gd h))
  have cs9 : ∀ u, Grows w13.drew u → (convert 27 9 (.slice A9 own.length c9)).run Tryz.prog u = .ok (tv own) u := fun u h => lies_text (hL13.later (Grows.trans gd h))
  have FL := fun u (h : Grows w13.drew u) => lies_of_in (B := u.heap.size) (lies_in_later FI13 (Grows.trans gd h)) (fun k hk => by have := oklt5 k hk; have := (Grows.trans gd h).size; have := G13.size; omega)
  have cs1 : ∀ u, Grows w13.drew u → (convert 27 9 (.slice A1 ln c1)).run Tryz.prog u = .ok (tv own) u := fun u h => by have := lies_text (c := c1) (FL u h); rwa [hnA] at this
  have e1 : ∀ t, binOp .eql t (tv own) (tv own) = (pure (.bool true) : Sem Value) := fun t => by rw [run_teq (P := Tryz.prog)]; simp
  have he : ∀ u, (binOp .eql 46 (dv nm) (dv nm)).run Tryz.prog u = .ok (.bool true) u := fun u => by rw [Hx.eql_dig nm nm hnl hnl u]; simp
  have hw0 : D1.waits.length = 0 := by rw [HRO.out.2]; rfl
  have WT : Hid (∀ u, Grows w13.drew u → Calls Tryz.prog 21 #[.pointer (some ⟨a, 0, none⟩)] u fun e w' => e = .returned (.int .i64 0) ∧ Grows u w') := fun u h => (waits_d a m X5 D1 u (d13.later (Grows.trans gd h))).mono fun e w' ⟨h1, h2⟩ => ⟨by rw [h1, hw0]; rfl, by rw [h2]; exact Grows.refl _⟩
  have HS : Hid (∀ u, Grows w13.drew u → Calls Tryz.prog 22 #[.pointer (some ⟨a, 0, none⟩), dv nm] u fun e w' => e = .returned (.bool true) ∧ Grows u w') := fun u h => HA u a m X5 (d13.later (Grows.trans gd h)) (k13.later (Grows.trans gd h))
  have LV : Hid (∀ u, Grows w13.drew u → Calls Tryz.prog 15 #[] u fun e w' => e = .returned (.bool true) ∧ Grows u w') := fun u h => lives13_any u (k13.later (Grows.trans gd h))
  have MM : Hid (∀ u g, Grows w13.drew u → Has u g (nm.map bv) → Calls Tryz.prog 23 #[.pointer (some ⟨a, 0, none⟩), .slice (some ⟨g, 0, none⟩) 1 1] u fun e w' => e = .returned (.slice none 0 0) ∧ Grows u w') := fun u g h hg => MS u a m X5 g (d13.later (Grows.trans gd h)) (k13.later (Grows.trans gd h)) hg
  clear HA MS hb10 d10 FI10 hL10 T10 hw0 hb13 d13 FI13 hL13 FL b7 b11 hnA
  generalize own.length = ol at *
  refine wp_region_ord 49 [(0, true), (1, true), (2, true), (3, true), (4, true), (5, true), (6, true), (7, true), (8, true), (9, true), (10, true), (11, true), (12, true), (13, true), (14, true), (15, true), (16, true), (17, true), (18, true), (19, true), (20, true), (21, true), (22, true), (23, true), (24, true), (25, true), (26, true), (27, true), (28, true), (29, true), (30, true), (31, true), (32, true), (33, true), (34, true), (35, true), (36, true), (37, true), (38, true), (39, true), (40, false), (41, false), (42, true), (43, true), (44, true), (45, true), (46, true), (47, true), (48, true)] (by kernel_rfl) (by kernel_rfl) ?_
  have hO := Grows.refl w13.drew
  repeat (first | (refine ord_load hO _ _ (by simp only [List.getElem?_cons_succ, List.getElem?_cons_zero]; rfl) (by rfl) 46 (.tmp 7) (by rfl) _ (by rfl) ld7 ?_; try simp only [Act.put, List.setIfInBounds_toArray, List.set_cons_zero, List.set_cons_succ]) | (refine ord_load hO _ _ (by simp only [List.getElem?_cons_succ, List.getElem?_cons_zero]; rfl) (by rfl) 46 (.tmp 11) (by rfl) _ (by rfl) ld11 ?_; try simp only [Act.put, List.setIfInBounds_toArray, List.set_cons_zero, List.set_cons_succ]) | (refine ord_take hO _ ?_ (by simp only [List.getElem?_cons_succ, List.getElem?_cons_zero]; rfl) (by rfl) ?_ ?_; rotate_left; (· (intro u hu0 hu; (try go_simp); (try with_reducible rfl))); try simp only [Act.put, List.setIfInBounds_toArray, List.set_cons_zero, List.set_cons_succ]) | (refine ord_skip _ (by simp only [List.getElem?_cons_succ, List.getElem?_cons_zero]; rfl) (by rfl) ?_; try simp only [Act.put, List.setIfInBounds_toArray, List.set_cons_zero, List.set_cons_succ]) | (refine ord_call hO _ ?_ (by simp only [List.getElem?_cons_succ, List.getElem?_cons_zero]; rfl) (by rfl) ?_ ?_; rotate_left; (· (intro u hu0 hu; go_simp; (try refine quiet_enter ?_); (first | with_reducible exact WT.out u hu0 | with_reducible exact HS.out u hu0 | with_reducible exact LV.out u hu0))); try simp only [Act.put, List.setIfInBounds_toArray, List.set_cons_zero, List.set_cons_succ]))
  refine ord_bsliceR _ (by simp only [List.getElem?_cons_succ, List.getElem?_cons_zero]; rfl) (by rfl) _ _ _ (by rfl) _ (nm.map bv) 46 (slice_dig nm hnl) ?_ (fun u hu => ?_)
  · go_simp
  try simp only [Act.put, List.setIfInBounds_toArray, List.set_cons_zero, List.set_cons_succ]
  have hR := Has.new u 46 (nm.map bv)
  have gR := grows_alloc u (.cells (nm.map bv).toArray 46)
  have gu := Grows.trans hu gR
  generalize u.alloc (.cells (nm.map bv).toArray 46) = w14 at *
  generalize u.heap.size = R at *
  (refine ord_move _ (by simp only [List.getElem?_cons_succ, List.getElem?_cons_zero]; rfl) (by rfl) (fun u2 hu2 K hK => ?_); go_simp)
  refine (MM.out u2 R (Grows.trans gu hu2) (hR.later hu2)).mono ?_
  rintro e w15 ⟨rfl, g15⟩
  refine hK.out _ _ g15 ?_
  have G15 := Grows.trans gu (Grows.trans hu2 g15)
  have LV2 : Hid (∀ u, Grows w15 u → Calls Tryz.prog 15 #[] u fun e w' => e = .returned (.bool true) ∧ Grows u w') := fun u h => LV.out u (Grows.trans G15 h)
  clear hK K hO cw ld7 ld11 cs9 cs1 WT HS LV MM
  have hO := Grows.refl w15
  repeat (first | (refine ord_take hO _ ?_ (by simp only [List.getElem?_cons_succ, List.getElem?_cons_zero]; rfl) (by rfl) ?_ ?_; rotate_left; (· (intro u hu0 hu; (try go_simp); (try with_reducible rfl))); try simp only [Act.put, List.setIfInBounds_toArray, List.set_cons_zero, List.set_cons_succ]) | (refine ord_skip _ (by simp only [List.getElem?_cons_succ, List.getElem?_cons_zero]; rfl) (by rfl) ?_; try simp only [Act.put, List.setIfInBounds_toArray, List.set_cons_zero, List.set_cons_succ]) | (refine ord_call hO _ ?_ (by simp only [List.getElem?_cons_succ, List.getElem?_cons_zero]; rfl) (by rfl) ?_ ?_; rotate_left; (· (intro u hu0 hu; go_simp; (try refine quiet_enter ?_); (with_reducible exact LV2.out u hu0))); try simp only [Act.put, List.setIfInBounds_toArray, List.set_cons_zero, List.set_cons_succ]))
  refine ord_done (fun w16 hu16 => ?_)
  simp only [List.drop_succ_cons, List.drop_zero]
  go_wp2_with fail
  refine NoPanic.normal ?_
  go_wp2_with fail
  go_ret
  have T16 := (T13.trans (Turns.of_grows (Grows.trans gd G15))).trans (Turns.of_grows hu16)
  exact ⟨rfl, T16.grows fun q hq => by have := HM.out; omega⟩
end Go.Proofs.YtbcldknecdbemaaGreatDoor
