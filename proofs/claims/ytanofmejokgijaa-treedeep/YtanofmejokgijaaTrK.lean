/-
  tree.copied of bytes, attributes, nodes; tree.alone: a node without its kids, with lists of its own.
-/
import Derived.Test.YtanofmejokgijaaTrJ
import Derived.Test.YtanofmejokgijaaRFew
namespace Go.Proofs.Ytanofmejokgijaa
open Go.RowKit
set_option linter.unusedVariables false

theorem attr_info : (Try.prog.info? 91).map (fun i => (i.zero, i.size, i.bytes)) = some (some (.agg #[.string ⟨#[]⟩, .string ⟨#[]⟩]), 2, 32) := by kernel_rfl
theorem node_info : (Try.prog.info? 28).map (fun i => (i.zero, i.size, i.bytes)) = some (some (.agg zeroN.toArray), 12, 160) := by kernel_rfl

set_option maxHeartbeats 400000 in
theorem copyB_any (A : Option Addr) (n c : Nat) (vs : List Value) (w : World) (hl : vs.length = n) (hr : Lies w w.heap.size A vs) (h1 : ∀ u ∈ vs, u.oneCell' = true) (hn : n ≤ 1000000) :
    Calls Try.prog 67 #[.slice A n c] w fun e w' => ∃ v, e = .returned v ∧ w'.ownsRow w.heap.size 5 1 v n vs ∧ Grows w w' := by
  obtain ⟨i0, hi0, hz0, hz1, hz2⟩ := info_parts byte_info
  have HL := Lib.hid hl
  clear hl
  go_enter Try.func67, Try.ntmps67
  go_wp2_with (at_builtin; refine wpList_append_src _ rfl (.const (.slice none 0 0)) (.tmp 3) _ rfl w.heap.size 5 i0 _ 1 Try.underlying23 hi0 hz0 hz1 hz2 rfl (.slice none 0 0) 0 [] rfl (World.ownsRow_nil _ _ _ _) w.heap.size A n c vs rfl HL.out hr h1 (by unfold maxLen; omega) (by omega) (Nat.le_refl _) ?_; intro v' w' hown hg hat)
  go_ret
  refine ⟨v', rfl, ?_, (Below.refl _ _).grown hg (Nat.le_refl _) (by simp [Value.ownBlock])⟩
  simpa using hown
set_option maxHeartbeats 400000 in
theorem copyA_any (A : Option Addr) (n c : Nat) (vs : List Value) (w : World) (hl : vs.length = n * 2) (hr : Lies w w.heap.size A vs) (h1 : ∀ u ∈ vs, u.oneCell' = true) (hn : n ≤ 1000000) :
    Calls Try.prog 68 #[.slice A n c] w fun e w' => ∃ v, e = .returned v ∧ w'.ownsRow w.heap.size 91 2 v n vs ∧ Grows w w' := by
  obtain ⟨i0, hi0, hz0, hz1, hz2⟩ := info_parts attr_info
  have HL := Lib.hid hl
  clear hl
  go_enter Try.func68, Try.ntmps68
  go_wp2_with (at_builtin; refine wpList_append_recs rfl (.const (.slice none 0 0)) (.tmp 3) _ rfl w.heap.size 91 i0 _ 2 32 (by omega) Try.underlying24 hi0 hz0 hz1 hz2 rfl (.slice none 0 0) 0 [] rfl (World.ownsRow_nil _ _ _ _) w.heap.size A n c vs rfl HL.out hr h1 (by unfold maxLen; omega) (by omega) (Nat.le_refl _) ?_; intro v' w' hown hg hat)
  go_ret
  refine ⟨v', rfl, ?_, (Below.refl _ _).grown hg (Nat.le_refl _) (by simp [Value.ownBlock])⟩
  simpa using hown
set_option maxHeartbeats 400000 in
theorem copyN_any (A : Option Addr) (n c : Nat) (vs : List Value) (w : World) (hl : vs.length = n * 12) (hr : Lies w w.heap.size A vs) (h1 : ∀ u ∈ vs, u.oneCell' = true) (hn : n ≤ 1000000) :
    Calls Try.prog 50 #[.slice A n c] w fun e w' => ∃ v, e = .returned v ∧ w'.ownsRow w.heap.size 28 12 v n vs ∧ Grows w w' := by
  obtain ⟨i0, hi0, hz0, hz1, hz2⟩ := info_parts node_info
  have HL := Lib.hid hl
  clear hl
  go_enter Try.func50, Try.ntmps50
  go_wp2_with (at_builtin; refine wpList_append_recs rfl (.const (.slice none 0 0)) (.tmp 3) _ rfl w.heap.size 28 i0 _ 12 160 (by omega) Try.underlying26 hi0 hz0 hz1 hz2 rfl (.slice none 0 0) 0 [] rfl (World.ownsRow_nil _ _ _ _) w.heap.size A n c vs rfl HL.out hr h1 (by unfold maxLen; omega) (by omega) (Nat.le_refl _) ?_; intro v' w' hown hg hat)
  go_ret
  refine ⟨v', rfl, ?_, (Below.refl _ _).grown hg (Nat.le_refl _) (by simp [Value.ownBlock])⟩
  simpa using hown

/-- An owned row lies from base on. -/
theorem own_liesOn {w : World} {base : Nat} {e : TypeId} {size : Nat} {A : Option Addr} {n c : Nat} {vs : List Value} (h : w.ownsRow base e size (.slice A n c) n vs) : LiesOn w (base ≤ ·) A vs := by
  intro j u hu
  obtain ⟨h1, h2⟩ := h
  rcases h2 with ⟨_, h0⟩ | ⟨g, cap, cur, hv, hb, hh, hn, _, hsz, htk⟩
  · subst h0
    simp at h1
    subst h1
    simp at hu
  · injection hv with hA
    subst hA
    refine ⟨⟨g, 0, none⟩, rfl, hb, ?_⟩
    rw [add_plain, cell_of_row w g _ cur e (0, 0) hh]
    have : (cur.toList.take (n * size))[j]? = some u := by rw [htk]; exact hu
    rw [List.getElem?_take] at this
    split at this
    · simpa using this
    · cases this
theorem own_cap {w : World} {base : Nat} {e : TypeId} {size : Nat} {A : Option Addr} {n c : Nat} {vs : List Value} (h : w.ownsRow base e size (.slice A n c) n vs) : n ≤ c ∧ c ≤ maxLen := by
  rcases h.2 with ⟨e1, e2⟩ | ⟨g, cap, cur, hv, hb, hh, hn, hm, _⟩
  · injection e1 with _ e3 e4
    unfold maxLen; omega
  · injection hv with _ _ e; subst e; exact ⟨hn, hm⟩
def smallO (o : Own) : Prop := o.data.length ≤ 1000000 ∧ o.attrs.length ≤ 1000000 ∧ o.name.length ≤ 1000
def smallF : Fo → Prop
  | .nil => True
  | .cons o k r => smallO o ∧ smallF k ∧ smallF r
theorem attr_flat (l : List (List UInt8 × List UInt8)) : (l.map attrCells).flatten.length = l.length * 2 := by
  rw [flat_len (k := 2) (fun r hr => by obtain ⟨b, _, rfl⟩ := List.mem_map.1 hr; rfl), List.length_map]
theorem attr_one (l : List (List UInt8 × List UInt8)) : ∀ u ∈ (l.map attrCells).flatten, u.oneCell' = true := fun u hu => by
  obtain ⟨r, hr, hu⟩ := List.mem_flatten.1 hu
  obtain ⟨b, _, rfl⟩ := List.mem_map.1 hr
  simp [attrCells] at hu
  rcases hu with rfl | rfl <;> rfl

/-- A node's cells, all but data and attrs under letters. -/
theorem nodeD (o : Own) (h : Hang) : ∃ v0 v1 v2 v3 v4 v5 v7 v8 v9 v11, nodeCells o h = [v0, v1, v2, v3, v4, v5, .slice h.ad h.nd h.cd, v7, v8, v9, .slice h.aa h.na h.ca, v11] ∧ ∀ h' : Hang, h'.ak = none → h'.nk = 0 → h'.ck = 0 → nodeCells o h' = [v0, v1, v2, v3, v4, v5, .slice h'.ad h'.nd h'.cd, v7, v8, v9, .slice h'.aa h'.na h'.ca, .slice none 0 0] :=
  ⟨_, _, _, _, _, _, _, _, _, _, rfl, fun h' e1 e2 e3 => by unfold nodeCells; rw [e1, e2, e3]⟩
set_option maxRecDepth 20000 in
set_option maxHeartbeats 2000000 in
theorem alone_any (ad : Addr) (o : Own) (h : Hang) (ok : Nat → Prop) (w : World) (hr : RecAt w ok (some ad) 0 (nodeCells o h)) (ho : OwnOn w ok o h) (hsm : smallO o) :
    Calls Try.prog 43 #[.pointer (some ad)] w fun e w' => ∃ h' : Hang, e = .returned (nv o h') ∧ OwnOn w' (w.heap.size ≤ ·) o h' ∧ (h'.ak = none ∧ h'.nk = 0 ∧ h'.ck = 0) ∧ Grows w w' := by
  have C1 : ∀ u, Grows w u → _ := fun u hu => copyB_any h.ad h.nd h.cd (o.data.map bv) u (by rw [List.length_map]; exact ho.dlen) (ho.data.turn (turns_grows hu) (fun _ _ h => h)).lies (bv_one _) (by rw [← ho.dlen]; exact hsm.1)
  have C2 : ∀ u, Grows w u → _ := fun u hu => copyA_any h.aa h.na h.ca (o.attrs.map attrCells).flatten u (by rw [attr_flat, ho.alen]) (ho.attrs.turn (turns_grows hu) (fun _ _ h => h)).lies (attr_one _) (by rw [← ho.alen]; exact hsm.2.1)
  obtain ⟨v0, v1, v2, v3, v4, v5, v7, v8, v9, v11, hvs, hvn⟩ := nodeD o h
  have hv1 := nodeCells_one o h
  rw [hvs] at hr hv1
  have HVN := Lib.hid hvn
  have C1' := Lib.hid C1
  have C2' := Lib.hid C2
  clear C1 C2 hvs hvn
  have hr1 := rec_later hr (grows_alloc w (.cells zeroN.toArray 28))
  have c0 := rec_cell0 hr1 rfl
  have c1 := rec_cell hr1 (j := 0) rfl
  have c2 := rec_cell hr1 (j := 1) rfl
  have c3 := rec_cell hr1 (j := 2) rfl
  have c4 := rec_cell hr1 (j := 3) rfl
  have c5 := rec_cell hr1 (j := 4) rfl
  have c6 := rec_cell hr1 (j := 5) rfl
  have c7 := rec_cell hr1 (j := 6) rfl
  have c8 := rec_cell hr1 (j := 7) rfl
  have c9 := rec_cell hr1 (j := 8) rfl
  have c10 := rec_cell hr1 (j := 9) rfl
  have c11 := rec_cell hr1 (j := 10) rfl
  have hz2 := Has.new (w.alloc (.cells zeroN.toArray 28)) 28 zeroN
  have hz1 := (Has.new w 28 zeroN).later (grows_alloc _ (.cells zeroN.toArray 28))
  have hgg := Grows.trans (grows_alloc w (.cells zeroN.toArray 28)) (grows_alloc _ (.cells zeroN.toArray 28))
  have hss : ((w.alloc (.cells zeroN.toArray 28)).alloc (.cells zeroN.toArray 28)).heap.size = w.heap.size + 1 + 1 := by simp
  rw [World.size_alloc] at hz2
  go_enter Try.func43, Try.ntmps43
  go_wp2_with (refine wpList_storev rfl 28 (.tmp 3) (.tmp 6) rfl (w.heap.size + 1) zeroN [v0, v1, v2, v3, v4, v5, .slice h.ad h.nd h.cd, v7, v8, v9, .slice h.aa h.na h.ca, v11] 12 rfl rfl hz2 rfl rfl node_size hv1 ?_; intro w3 hb3 hbel3)
  have hg3 : Grows w w3 := hbel3 _ _ (by omega) hgg
  have hz3 : Has w3 w.heap.size zeroN := hz1.below (hbel3 (w.heap.size + 1) _ (Nat.le_refl _) (Below.refl _ _)) (by omega)
  have hs3 : w.heap.size + 1 + 1 ≤ w3.heap.size := hb3.lt
  clear hz1 hz2 hgg hss hbel3 c0 c1 c2 c3 c4 c5 c6 c7 c8 c9 c10 c11 hr1
  refine wp_region_ord 11 [(0, true), (1, true), (2, true), (3, true), (5, true), (6, true), (7, true), (8, true), (4, false), (10, true), (9, false)] (by kernel_rfl) (by kernel_rfl) ?_
  have hgd := (Grows.refl w3).drew
  have hO := Grows.refl w3.drew
  have hg3d := Grows.trans hg3 hgd
  have hb3d := hb3.later hgd
  have hz3d := hz3.later hgd
  have hs3d := Nat.le_trans hs3 hgd.size
  have c6 : ∀ u, Grows w3.drew u → u.cell? ⟨ad.block, ad.off + 6, none⟩ = some (.slice h.ad h.nd h.cd) := fun u hu => rec_cell (rec_later hr (Grows.trans hg3d hu)) (j := 5) rfl
  have c10 : ∀ u, Grows w3.drew u → u.cell? ⟨ad.block, ad.off + 10, none⟩ = some (.slice h.aa h.na h.ca) := fun u hu => rec_cell (rec_later hr (Grows.trans hg3d hu)) (j := 9) rfl
  clear hb3 hz3 hs3 hg3 hgd
  generalize w3.drew = wd at *
  repeat (first | (refine ord_take hO _ ?_ (by simp only [List.getElem?_cons_succ, List.getElem?_cons_zero]; rfl) (by rfl) ?_ ?_; rotate_left; (· (intro u hu0 hu; (try go_simp); (try with_reducible rfl))); try simp only [Act.put, List.setIfInBounds_toArray, List.set_cons_zero, List.set_cons_succ]) | (refine ord_skip _ (by simp only [List.getElem?_cons_succ, List.getElem?_cons_zero]; rfl) (by rfl) ?_; try simp only [Act.put, List.setIfInBounds_toArray, List.set_cons_zero, List.set_cons_succ]))
  (refine ord_move _ (by simp only [List.getElem?_cons_succ, List.getElem?_cons_zero]; rfl) (by rfl) (fun u hu K hK => ?_); go_simp)
  refine (C1'.out u (Grows.trans hg3d hu)).mono ?_
  rintro e w4 ⟨v4', rfl, hown4, hg4⟩
  refine hK.out _ _ hg4 ?_
  clear hK K hO
  obtain ⟨A1, c1, rfl, hc1⟩ := own_form hown4
  have hg4' := Grows.trans hu hg4
  have hu4 := Nat.le_trans hs3d hu.size
  have hO := Grows.refl w4
  repeat (first | (refine ord_take hO _ ?_ (by simp only [List.getElem?_cons_succ, List.getElem?_cons_zero]; rfl) (by rfl) ?_ ?_; rotate_left; (· (intro u hu0 hu; (try go_simp); (try with_reducible rfl))); try simp only [Act.put, List.setIfInBounds_toArray, List.set_cons_zero, List.set_cons_succ]) | (refine ord_skip _ (by simp only [List.getElem?_cons_succ, List.getElem?_cons_zero]; rfl) (by rfl) ?_; try simp only [Act.put, List.setIfInBounds_toArray, List.set_cons_zero, List.set_cons_succ]))
  (refine ord_move _ (by simp only [List.getElem?_cons_succ, List.getElem?_cons_zero]; rfl) (by rfl) (fun u hu K hK => ?_); go_simp)
  refine (C2'.out u (Grows.trans hg3d (Grows.trans hg4' hu))).mono ?_
  rintro e w5 ⟨v5', rfl, hown5, hg5⟩
  refine hK.out _ _ hg5 ?_
  clear hK K hO
  obtain ⟨A2, c2, rfl, hc2⟩ := own_form hown5
  have hg45 := Grows.trans hu hg5
  have hsz45 := hu.size
  have hO := Grows.refl w5
  try repeat (first | (refine ord_take hO _ ?_ (by simp only [List.getElem?_cons_succ, List.getElem?_cons_zero]; rfl) (by rfl) ?_ ?_; rotate_left; (· (intro u hu0 hu; (try go_simp); (try with_reducible rfl))); try simp only [Act.put, List.setIfInBounds_toArray, List.set_cons_zero, List.set_cons_succ]) | (refine ord_skip _ (by simp only [List.getElem?_cons_succ, List.getElem?_cons_zero]; rfl) (by rfl) ?_; try simp only [Act.put, List.setIfInBounds_toArray, List.set_cons_zero, List.set_cons_succ]))
  (refine ord_done (fun u hu => ?_); simp only [List.drop_succ_cons, List.drop_zero])
  rename World => x
  have hgx := Grows.trans hg45 hu
  have hbx := hb3d.later (Grows.trans hg4' hgx)
  have hzx := hz3d.later (Grows.trans hg4' hgx)
  have hgw := Grows.trans hg3d (Grows.trans hg4' hgx)
  have hL1 := (own_liesOn hown4).turn (turns_grows hgx) (fun _ _ h => h)
  have hL2 := (own_liesOn hown5).turn (turns_grows hu) (fun _ _ h => h)
  have hk1 := own_cap hown4
  have hk2 := own_cap hown5
  have hs4 : w.heap.size + 1 + 1 ≤ u.heap.size := Nat.le_trans hu4 (Nat.le_trans hg4.size hsz45)
  have b1 : Has (x.setCell ⟨w.heap.size + 1, 6, none⟩ (.slice A1 h.nd c1)) (w.heap.size + 1) [v0, v1, v2, v3, v4, v5, .slice A1 h.nd c1, v7, v8, v9, .slice h.aa h.na h.ca, v11] := hbx.set_ (k := 6) (by simp) _
  have b2 : Has ((x.setCell ⟨w.heap.size + 1, 6, none⟩ (.slice A1 h.nd c1)).setCell ⟨w.heap.size + 1, 10, none⟩ (.slice A2 h.na c2)) (w.heap.size + 1) [v0, v1, v2, v3, v4, v5, .slice A1 h.nd c1, v7, v8, v9, .slice A2 h.na c2, v11] := b1.set_ (k := 10) (by simp) _
  have b3 : Has (((x.setCell ⟨w.heap.size + 1, 6, none⟩ (.slice A1 h.nd c1)).setCell ⟨w.heap.size + 1, 10, none⟩ (.slice A2 h.na c2)).setCell ⟨w.heap.size + 1, 11, none⟩ (.slice none 0 0)) (w.heap.size + 1) [v0, v1, v2, v3, v4, v5, .slice A1 h.nd c1, v7, v8, v9, .slice A2 h.na c2, .slice none 0 0] := b2.set_ (k := 11) (by simp) _
  have hT : Turns (fun k => k = w.heap.size + 1) x (((x.setCell ⟨w.heap.size + 1, 6, none⟩ (.slice A1 h.nd c1)).setCell ⟨w.heap.size + 1, 10, none⟩ (.slice A2 h.na c2)).setCell ⟨w.heap.size + 1, 11, none⟩ (.slice none 0 0)) := ((Turns.of_set (S := fun k => k = w.heap.size + 1) x _ rfl).trans (Turns.of_set (S := fun k => k = w.heap.size + 1) _ _ rfl)).trans (Turns.of_set (S := fun k => k = w.heap.size + 1) _ _ rfl)
  have q6 := hbx.cell (k := 6) rfl
  have f6 := hbx.free 6
  have q10 := b1.cell (k := 10) rfl
  have f10 := b1.free 10
  have q11 := b2.cell (k := 11) rfl
  have f11 := b2.free 11
  have hv3 : ∀ u ∈ [v0, v1, v2, v3, v4, v5, .slice A1 h.nd c1, v7, v8, v9, .slice A2 h.na c2, .slice none 0 0], u.oneCell' = true := by
    intro u hu
    simp at hu
    rcases hu with rfl | rfl | rfl | rfl | rfl | rfl | rfl | rfl | rfl | rfl | rfl | rfl
    all_goals first | rfl | exact hv1 _ (by simp)
  have hz' := hzx.turned hT (by omega)
  have hL1' := hL1.turn hT (fun k hk e => by omega)
  have hL2' := hL2.turn hT (fun k hk e => by omega)
  obtain ⟨W, hW⟩ : ∃ W, W = (((x.setCell ⟨w.heap.size + 1, 6, none⟩ (.slice A1 h.nd c1)).setCell ⟨w.heap.size + 1, 10, none⟩ (.slice A2 h.na c2)).setCell ⟨w.heap.size + 1, 11, none⟩ (.slice none 0 0)) := ⟨_, rfl⟩
  rw [← hW] at hT b3 hz' hL1' hL2'
  have hgW : Grows w W := ⟨hT.os.trans hgw.os, hT.tape.trans hgw.tape, hT.output.trans hgw.output, Nat.le_trans hgw.size hT.size, fun k hk => (hT.block k (Nat.lt_of_lt_of_le hk hgw.size) (by omega)).trans (hgw.block k hk)⟩
  have HW := Lib.hid hW
  have HDA := Lib.hid (show o.data.length = h.nd ∧ o.attrs.length = h.na from ⟨ho.dlen, ho.alen⟩)
  clear hW hL1 hL2 hzx hbx b1 b2 hb3d hz3d c6 c10 ho hsm hr hown4 hown5 C1' C2' hv1 hO
  go_wp2_with fail
  refine NoPanic.normal ?_
  rw [← HW.out]
  have r0 := b3.cell (k := 0) rfl
  have r1 := b3.cell (k := 1) rfl
  have r2 := b3.cell (k := 2) rfl
  have r3 := b3.cell (k := 3) rfl
  have r4 := b3.cell (k := 4) rfl
  have r5 := b3.cell (k := 5) rfl
  have r6 := b3.cell (k := 6) rfl
  have r7 := b3.cell (k := 7) rfl
  have r8 := b3.cell (k := 8) rfl
  have r9 := b3.cell (k := 9) rfl
  have r10 := b3.cell (k := 10) rfl
  have r11 := b3.cell (k := 11) rfl
  go_wp2_with (refine wpList_storeT rfl 28 (.tmp 2) (.tmp 20) rfl w.heap.size zeroN [v0, v1, v2, v3, v4, v5, .slice A1 h.nd c1, v7, v8, v9, .slice A2 h.na c2, .slice none 0 0] 12 rfl rfl hz' rfl rfl node_size hv3 ?_; intro w7 hb7 hT7)
  refine bodyPost_ret (res_has (vs := [v0, v1, v2, v3, v4, v5, .slice A1 h.nd c1, v7, v8, v9, .slice A2 h.na c2, .slice none 0 0]) rfl _ rfl Try.underlying28 rfl node_size hb7) rfl ?_
  have hgw7 := turns_grow hgW hT7 (Nat.le_refl _)
  have hda := HDA.out
  refine ⟨⟨A1, h.nd, c1, A2, h.na, c2, none, 0, 0⟩, ?_, ⟨hda.1, hk1, (hL1'.turn hT7 (fun k hk e => by omega)).mono (fun k hk => by omega), hda.2, hk2, (hL2'.turn hT7 (fun k hk e => by omega)).mono (fun k hk => by omega)⟩, ⟨rfl, rfl, rfl⟩, hgw7⟩
  unfold nv
  rw [HVN.out ⟨A1, h.nd, c1, A2, h.na, c2, none, 0, 0⟩ rfl rfl rfl]
end Go.Proofs.Ytanofmejokgijaa
