/-
  tree.Walk's closure: one more entry.
-/
import Derived.Test.YtanofmejokgijaaTrK
import Derived.Test.YtanofmejokgijaaPaD
namespace Go.Proofs.Ytanofmejokgijaa
open Go.RowKit
set_option linter.unusedVariables false

theorem entry_info : (Try.prog.info? 43).map (fun i => (i.zero, i.size, i.bytes)) = some (some (.agg (.string ⟨#[]⟩ :: zeroN).toArray), 13, 176) := by kernel_rfl
theorem liesOn_both {w : World} {ok : Nat → Prop} {A : Option Addr} {vs : List Value} (h : LiesOn w ok A vs) : LiesOn w (fun k => ok k ∧ k < w.heap.size) A vs := fun j u hu => by
  obtain ⟨ad, e, hb, hc⟩ := h j u hu
  exact ⟨ad, e, ⟨hb, by have := World.block_lt_of_cell? w _ hc; rwa [add_block] at this⟩, hc⟩
/-- The set that one more entry turns. -/
def WalkS (bn bl : Nat) (nn lv : Value) : Nat → Prop := fun k => k = bn ∨ k = bl ∨ nn.ownBlock = some k ∨ lv.ownBlock = some k

set_option maxRecDepth 20000 in
set_option maxHeartbeats 4000000 in
theorem walk1_any (ad : Addr) (d : Nat) (bn bl base : Nat) (nn lv : Value) (ns : List (List UInt8)) (n : Nat) (es : List Value) (ok : Nat → Prop) (o : Own) (h : Hang) (w : World)
    (hr : RecAt w ok (some ad) 0 (nodeCells o h)) (ho : OwnOn w ok o h) (hsm : smallO o) (hnb : Has w bn [nn]) (hlb : Has w bl [lv]) (hnn : w.ownsRow base 9 1 nn ns.length (ns.map tv)) (hlv : w.ownsRow base 43 13 lv n es)
    (hd : d ≤ ns.length) (hdm : ns.length ≤ 1000000) (hn : n ≤ 1000000) (hbn : bn < base) (hbl : bl < base) (hne : bn ≠ bl) (hgl : nn.ownBlock ≠ none → nn.ownBlock ≠ lv.ownBlock) (hbase : base ≤ w.heap.size) (hok : ∀ k, ok k → ¬ WalkS bn bl nn lv k) (hjl : (joinOf ((ns.take d ++ [o.name]).drop 1)).length ≤ 100000000) :
    Calls Try.prog 41 #[.pointer (some ad), .int .i64 d, .pointer (some ⟨bn, 0, none⟩), .pointer (some ⟨bl, 0, none⟩)] w fun e w' => e = .returned (.slice h.ak h.nk h.ck) ∧ ∃ (nn' lv' : Value) (h' : Hang) (x y : Nat),
      Has w' bn [nn'] ∧ Has w' bl [lv'] ∧ w'.ownsRow base 9 1 nn' (d + 1) ((ns.take d ++ [o.name]).map tv) ∧ w'.ownsRow base 43 13 lv' (n + 1) (es ++ (tv (joinOf ((ns.take d ++ [o.name]).drop 1)) :: nodeCells o h')) ∧
      OwnOn w' (fun k => x ≤ k ∧ k < y) o h' ∧ (h'.ak = none ∧ h'.nk = 0 ∧ h'.ck = 0) ∧ w.heap.size ≤ x ∧ x ≤ y ∧ y ≤ w'.heap.size ∧ (∀ g, nn'.ownBlock = some g → g < x) ∧ (nn'.ownBlock = nn.ownBlock ∨ ∃ g, nn'.ownBlock = some g ∧ w.heap.size ≤ g) ∧
      (lv'.ownBlock = lv.ownBlock ∨ ∃ g, lv'.ownBlock = some g ∧ y ≤ g) ∧ Turns (WalkS bn bl nn lv) w w' := by
  obtain ⟨i0, hi0, hz0, hz1, hz2⟩ := info_parts str_info
  obtain ⟨i1, hi1, hy0, hy1, hy2⟩ := info_parts entry_info
  have hgd := (Grows.refl w).drew
  obtain ⟨An, cn, rfl, hcn⟩ := own_form hnn
  have hcap := own_cap hnn
  have hct := run_cutK_to (P := Try.prog) (t := 60) (e := 9) Try.underlying60 (sz := 1) (by rw [hi0]; simp [hz1]) An ns.length cn d .i64 (by omega)
  have hown0 : w.ownsRow base 9 1 (.slice An d cn) d ((ns.take d).map tv) := by
    rcases hnn.2 with ⟨e1, e2⟩ | ⟨g, cap, cur, e1, _⟩
    · injection e1 with e3 e4 e5
      have hd0 : d = 0 := by omega
      subst hd0 e3 e5
      simpa using World.ownsRow_nil w base 9 1
    · injection e1 with e3
      subst e3
      have := own_take hnn hd
      rwa [Nat.mul_one, ← List.map_take] at this
  have hob : (Value.slice An d cn).ownBlock = (Value.slice An ns.length cn).ownBlock := by cases An <;> rfl
  go_enter Try.func41, Try.ntmps41
  go_wp2_with fail
  refine wp_region_ord 8 [(0, true), (1, true), (2, true), (3, true), (4, true), (5, true), (6, true), (7, false)] (by kernel_rfl) (by kernel_rfl) ?_
  have hO := Grows.refl w.drew
  have c1 : ∀ u, Grows w.drew u → u.cell? ⟨ad.block, ad.off + 1, none⟩ = some (tv o.name) := fun u hu => rec_cell (rec_later hr (Grows.trans hgd hu)) (j := 0) rfl
  have c2 : ∀ u, Grows w.drew u → u.cell? ⟨bn, 0, none⟩ = some (.slice An ns.length cn) := fun u hu => (hnb.later (Grows.trans hgd hu)).cell (k := 0) rfl
  generalize hwd : w.drew = wd at *
  clear hwd
  repeat (first | (refine ord_cut hO _ ?_ (by simp only [List.getElem?_cons_succ, List.getElem?_cons_zero]; rfl) (by rfl) 60 (.tmp 7) none (some (.tmp 8)) none (by rfl) ?_ ?_; rotate_left; (· (exact hct)); try simp only [Act.put, List.setIfInBounds_toArray, List.set_cons_zero, List.set_cons_succ]) | (refine ord_take hO _ ?_ (by simp only [List.getElem?_cons_succ, List.getElem?_cons_zero]; rfl) (by rfl) ?_ ?_; rotate_left; (· (intro u hu0 hu; (try go_simp); (try with_reducible rfl))); try simp only [Act.put, List.setIfInBounds_toArray, List.set_cons_zero, List.set_cons_succ]) | (refine ord_skip _ (by simp only [List.getElem?_cons_succ, List.getElem?_cons_zero]; rfl) (by rfl) ?_; try simp only [Act.put, List.setIfInBounds_toArray, List.set_cons_zero, List.set_cons_succ]))
  (refine ord_move _ (by simp only [List.getElem?_cons_succ, List.getElem?_cons_zero]; rfl) (by rfl) (fun u hu K hK => ?_); go_simp)
  refine hK.out _ _ (grows_alloc _ _) ?_
  clear hK K hO
  have hgu := Grows.trans hgd hu
  have hnew := Lies.new u 9 [tv o.name]
  have hO := Grows.refl (u.alloc (.cells #[tv o.name] 9))
  have hg1 := Grows.trans hgu (grows_alloc u (.cells #[tv o.name] 9))
  try repeat (first | (refine ord_take hO _ ?_ (by simp only [List.getElem?_cons_succ, List.getElem?_cons_zero]; rfl) (by rfl) ?_ ?_; rotate_left; (· (intro u hu0 hu; (try go_simp); (try with_reducible rfl))); try simp only [Act.put, List.setIfInBounds_toArray, List.set_cons_zero, List.set_cons_succ]) | (refine ord_skip _ (by simp only [List.getElem?_cons_succ, List.getElem?_cons_zero]; rfl) (by rfl) ?_; try simp only [Act.put, List.setIfInBounds_toArray, List.set_cons_zero, List.set_cons_succ]))
  (refine ord_done (fun u hu => ?_); simp only [List.drop_succ_cons, List.drop_zero])
  rename World => x1
  have hg2 := Grows.trans hg1 hu
  have hownx := own_later hown0 hg2
  have hnewx := hnew.below (B := u.heap.size + 1) (hu.mono (by rw [World.size_alloc]; exact Nat.le_refl _))
  have hbx := hnb.later hg2
  have hux : u.heap.size + 1 ≤ x1.heap.size := by have := hu.size; rwa [World.size_alloc] at this
  have hbase1 : base ≤ x1.heap.size := Nat.le_trans hbase hg2.size
  have HG2 := Lib.hid hg2
  clear hnew hg1 hgu hO c1 c2 hct hown0 hu hnb hgd hg2
  go_wp2_with (at_builtin; refine wpList_append_src _ rfl (.tmp 9) (.tmp 14) _ rfl base 9 i0 _ 16 Try.underlying60 hi0 hz0 hz1 hz2 rfl _ d _ rfl hownx _ _ 1 1 [tv o.name] rfl rfl hnewx (by simp [Value.oneCell']) (by unfold maxLen; omega) (by omega) hbase1 ?_; intro v2' w2 hown2 hg2 hat2; obtain ⟨A2, c2, rfl, hc2⟩ := own_form hown2; have hb2 := hbx.turned (S := fun k => base ≤ k) (Turns.of_by hg2 fun g e _ => own_ge hownx g e) (by omega); have q2 := hb2.cell (k := 0) rfl; have f2 := hb2.free 0)
  refine NoPanic.normal ?_
  rw [show [tv o.name] = [o.name].map tv from rfl, ← List.map_append] at hown2
  -- the world behind
  have hTa : Turns (WalkS bn bl (.slice An ns.length cn) lv) w w2 := (Turns.of_grows HG2.out).trans (Turns.of_by hg2 fun g e _ => .inr (.inr (.inl (hob ▸ e))))
  have hTb : Turns (WalkS bn bl (.slice An ns.length cn) lv) w (w2.setCell ⟨bn, 0, none⟩ (Value.slice A2 (d + 1) c2)) := hTa.trans (Turns.of_set w2 (Value.slice A2 (d + 1) c2) (.inl rfl))
  have hN : Has (w2.setCell ⟨bn, 0, none⟩ (Value.slice A2 (d + 1) c2)) bn [(Value.slice A2 (d + 1) c2)] := hb2.set_ (k := 0) (by simp) (Value.slice A2 (d + 1) c2)
  have hL : Has (w2.setCell ⟨bn, 0, none⟩ (Value.slice A2 (d + 1) c2)) bl [lv] := by
    have h1 := hlb.later HG2.out
    have h2 := h1.turned (S := fun k => base ≤ k) (Turns.of_by hg2 fun g e _ => own_ge hownx g e) (by omega)
    exact h2.turned (S := fun k => k = bn) (Turns.of_set w2 (Value.slice A2 (d + 1) c2) rfl) (fun e => hne e.symm)
  have hON : (w2.setCell ⟨bn, 0, none⟩ (Value.slice A2 (d + 1) c2)).ownsRow base 9 1 (Value.slice A2 (d + 1) c2) (d + 1) ((ns.take d ++ [o.name]).map tv) := own_turned hown2 (Turns.of_set (S := fun k => k = bn) w2 (Value.slice A2 (d + 1) c2) rfl) (fun g e => by have := own_ge hown2 g e; omega)
  have hOL : (w2.setCell ⟨bn, 0, none⟩ (Value.slice A2 (d + 1) c2)).ownsRow base 43 13 lv n es := by
    have h1 := own_later hlv HG2.out
    have h2 := own_turned h1 (S := fun k => (Value.slice An d cn).ownBlock = some k) (Turns.of_by hg2 fun g e _ => e) (fun g e e' => by
      rw [hob] at e'
      exact hgl (by rw [e']; simp) (e'.trans e.symm))
    exact own_turned h2 (Turns.of_set (S := fun k => k = bn) w2 (Value.slice A2 (d + 1) c2) rfl) (fun g e => by have := own_ge hlv g e; omega)
  have hR := hr.turn hTb hok
  have hOw := ho.turn hTb hok
  have hsz2 : w.heap.size ≤ (w2.setCell ⟨bn, 0, none⟩ (Value.slice A2 (d + 1) c2)).heap.size := hTb.size
  have hlt2 : ∀ g, (Value.slice A2 (d + 1) c2).ownBlock = some g → g < (w2.setCell ⟨bn, 0, none⟩ (Value.slice A2 (d + 1) c2)).heap.size := fun g e => (hON.lt g e).2
  have hat3 : (Value.slice A2 (d + 1) c2).ownBlock = (Value.slice An ns.length cn).ownBlock ∨ ∃ g, (Value.slice A2 (d + 1) c2).ownBlock = some g ∧ w.heap.size ≤ g := by
    rcases hat2 with h | h
    · exact .inl (h.trans hob)
    · exact .inr ⟨_, h, HG2.out.size⟩
  have hdis : ∀ g, (Value.slice A2 (d + 1) c2).ownBlock = some g → lv.ownBlock ≠ some g := fun g e e' => by
    rcases hat3 with h | ⟨g', h, hg'⟩
    · rw [e] at h
      exact hgl (by rw [← h]; simp) (h.symm.trans e'.symm)
    · rw [e] at h
      injection h with h
      have := (hlv.lt g e').2
      omega
  have hbase2 : base ≤ (w2.setCell ⟨bn, 0, none⟩ (Value.slice A2 (d + 1) c2)).heap.size := Nat.le_trans hbase hsz2
  clear hb2 hTa hbx hlb hownx hnewx hux hbase1 HG2 hown2 hg2 hat2 hnn hob hr ho q2 f2
  generalize w2.setCell ⟨bn, 0, none⟩ (Value.slice A2 (d + 1) c2) = W at *
  obtain ⟨Al, cl, rfl, hcl⟩ := own_form hOL
  have hcap2 := own_cap hON
  have hlen2 : (ns.take d ++ [o.name]).length = d + 1 := by simp; omega
  obtain ⟨nm, hnm⟩ : ∃ nm, nm = ns.take d ++ [o.name] := ⟨_, rfl⟩
  rw [← hnm] at hON hlen2 hjl
  have HNM := Lib.hid hnm
  have hT0 : Texts W (cutA A2 c2 1 1) d (c2 - 1) (nm.drop 1) := by
    have hlies := (own_liesOn hON).lies
    refine ⟨by simp [hlen2], by omega, by omega, ?_, ?_⟩
    · unfold cutA
      split
      · have : d = 0 := by omega
        subst this
        have : nm.drop 1 = [] := List.drop_of_length_le (by omega)
        rw [this]; exact Lies.empty
      · have := hlies.from_ 1
        rwa [← List.map_drop] at this
    · rcases hON.2 with ⟨e, _⟩ | ⟨g, cap, cur, e, _⟩
      · injection e with e; subst e; left; unfold cutA; split <;> rfl
      · injection e with e; subst e; right; unfold cutA; split
        · exact ⟨g, 0, rfl⟩
        · exact ⟨g, 0 + 1 * 1, by rw [Option.map_some, add_plain]⟩
  have ct0 := run_cutK_from (P := Try.prog) (t := 60) (e := 9) Try.underlying60 (sz := 1) (by rw [hi0]; simp [hz1]) A2 (d + 1) c2 1 .i64 (by omega) hc2
  rw [show d + 1 - 1 = d from rfl] at ct0
  obtain ⟨Ac, hAc⟩ : ∃ Ac, Ac = cutA A2 c2 1 1 := ⟨_, rfl⟩
  obtain ⟨cc, hcc⟩ : ∃ cc, cc = c2 - 1 := ⟨_, rfl⟩
  rw [← hAc, ← hcc] at ct0 hT0
  obtain ⟨pt, hpt⟩ : ∃ pt, pt = joinOf (nm.drop 1) := ⟨_, rfl⟩
  rw [← hpt] at hjl
  have JN : ∀ u, Grows W u → Calls Try.prog 42 #[.slice Ac d cc] u fun e w' => e = .returned (tv pt) ∧ Grows u w' := fun u hu => by rw [hpt]; exact join_any Ac d cc (nm.drop 1) u (hT0.later hu) (by omega) (by rw [← hpt]; exact hjl)
  have AL : ∀ u, Grows W u → _ := fun u hu => alone_any ad o h ok u (rec_later hR hu) (hOw.turn (turns_grows hu) (fun _ _ h => h)) hsm
  have HJ := Lib.hid JN
  have HA := Lib.hid AL
  have HPT := Lib.hid hpt
  clear hAc hcc hT0 JN AL hpt hnm
  go_wp2_with fail
  refine wp_region_ord 8 [(0, true), (1, true), (2, true), (3, true), (4, true), (5, false), (6, true), (7, false)] (by kernel_rfl) (by kernel_rfl) ?_
  have hgd := (Grows.refl W).drew
  have hO := Grows.refl W.drew
  have c3 : ∀ u, Grows W.drew u → u.cell? ⟨bl, 0, none⟩ = some (.slice Al n cl) := fun u hu => (hL.later (Grows.trans hgd hu)).cell (k := 0) rfl
  have c4 : ∀ u, Grows W.drew u → u.cell? ⟨bn, 0, none⟩ = some (.slice A2 (d + 1) c2) := fun u hu => (hN.later (Grows.trans hgd hu)).cell (k := 0) rfl
  generalize hwd : W.drew = Wd at *
  clear hwd
  repeat (first | (refine ord_cut hO _ ?_ (by simp only [List.getElem?_cons_succ, List.getElem?_cons_zero]; rfl) (by rfl) 60 (.tmp 17) (some (.const (.int .i64 1))) none none (by rfl) ?_ ?_; rotate_left; (· (exact ct0)); try simp only [Act.put, List.setIfInBounds_toArray, List.set_cons_zero, List.set_cons_succ]) | (refine ord_take hO _ ?_ (by simp only [List.getElem?_cons_succ, List.getElem?_cons_zero]; rfl) (by rfl) ?_ ?_; rotate_left; (· (intro u hu0 hu; (try go_simp); (try with_reducible rfl))); try simp only [Act.put, List.setIfInBounds_toArray, List.set_cons_zero, List.set_cons_succ]) | (refine ord_skip _ (by simp only [List.getElem?_cons_succ, List.getElem?_cons_zero]; rfl) (by rfl) ?_; try simp only [Act.put, List.setIfInBounds_toArray, List.set_cons_zero, List.set_cons_succ]) | (refine ord_call hO _ ?_ (by simp only [List.getElem?_cons_succ, List.getElem?_cons_zero]; rfl) (by rfl) ?_ ?_; rotate_left; (· (intro u hu0 hu; go_simp; (try refine quiet_enter ?_); (with_reducible exact HJ.out u (Grows.trans hgd hu0)))); try simp only [Act.put, List.setIfInBounds_toArray, List.set_cons_zero, List.set_cons_succ]))
  (refine ord_move _ (by simp only [List.getElem?_cons_succ, List.getElem?_cons_zero]; rfl) (by rfl) (fun u hu K hK => ?_); go_simp)
  refine (HA.out u (Grows.trans hgd hu)).mono ?_
  rintro e w5 ⟨h', rfl, hOn, hak, hg5⟩
  refine hK.out _ _ hg5 ?_
  clear hK K hO
  have hgW5 := Grows.trans hgd (Grows.trans hu hg5)
  have hxs : W.heap.size ≤ u.heap.size := Nat.le_trans hgd.size hu.size
  obtain ⟨v0, v1, v2, v3, v4, v5, v6, v7, v8, v9, v10, v11, hvs⟩ := node12 o h'
  have hv1 := nodeCells_one o h'
  unfold nv
  rw [hvs] at hv1 ⊢
  have HVS := Lib.hid hvs
  clear hvs c3 c4 ct0
  have hO := Grows.refl w5
  repeat (first | (refine ord_take hO _ ?_ (by simp only [List.getElem?_cons_succ, List.getElem?_cons_zero]; rfl) (by rfl) ?_ ?_; rotate_left; (· (intro u hu0 hu; (try go_simp); (try with_reducible rfl))); try simp only [Act.put, List.setIfInBounds_toArray, List.set_cons_zero, List.set_cons_succ]) | (refine ord_skip _ (by simp only [List.getElem?_cons_succ, List.getElem?_cons_zero]; rfl) (by rfl) ?_; try simp only [Act.put, List.setIfInBounds_toArray, List.set_cons_zero, List.set_cons_succ]))
  (refine ord_move _ (by simp only [List.getElem?_cons_succ, List.getElem?_cons_zero]; rfl) (by rfl) (fun u hu K hK => ?_); go_simp)
  refine hK.out _ _ (grows_alloc _ _) ?_
  clear hK K hO
  have hg6 := Grows.trans hu (grows_alloc _ (.cells #[tv pt, v0, v1, v2, v3, v4, v5, v6, v7, v8, v9, v10, v11] 43))
  rename World => x6
  have hnew := Lies.new x6 43 [tv pt, v0, v1, v2, v3, v4, v5, v6, v7, v8, v9, v10, v11]
  have hO := Grows.refl (x6.alloc (.cells #[tv pt, v0, v1, v2, v3, v4, v5, v6, v7, v8, v9, v10, v11] 43))
  try repeat (first | (refine ord_take hO _ ?_ (by simp only [List.getElem?_cons_succ, List.getElem?_cons_zero]; rfl) (by rfl) ?_ ?_; rotate_left; (· (intro u hu0 hu; (try go_simp); (try with_reducible rfl))); try simp only [Act.put, List.setIfInBounds_toArray, List.set_cons_zero, List.set_cons_succ]) | (refine ord_skip _ (by simp only [List.getElem?_cons_succ, List.getElem?_cons_zero]; rfl) (by rfl) ?_; try simp only [Act.put, List.setIfInBounds_toArray, List.set_cons_zero, List.set_cons_succ]))
  (refine ord_done (fun u hu => ?_); simp only [List.drop_succ_cons, List.drop_zero])
  rename World => x7
  have hg7 := Grows.trans hgW5 (Grows.trans hg6 hu)
  have hOL7 := own_later hOL hg7
  have hnew7 := hnew.below (B := x6.heap.size + 1) (hu.mono (by rw [World.size_alloc]; exact Nat.le_refl _))
  have hOn7 := hOn.turn (turns_grows (Grows.trans hg6 hu)) (fun _ _ h => h)
  have hbx7 := hL.later hg7
  have hN7 := hN.later hg7
  have hON7 := own_later hON hg7
  have hR7 := rec_later hR hg7
  have hb7 : base ≤ x7.heap.size := Nat.le_trans hbase2 hg7.size
  have hv2 : ∀ u ∈ [tv pt, v0, v1, v2, v3, v4, v5, v6, v7, v8, v9, v10, v11], u.oneCell' = true := by
    intro u hu
    rcases List.mem_cons.1 hu with rfl | hu
    · rfl
    · exact hv1 u hu
  have HG7 := Lib.hid hg7
  clear hnew hOn hL hN hON hR hOw hOL hO hg7
  go_wp2_with (at_builtin; refine wpList_append_recs rfl (.tmp 16) (.tmp 23) _ rfl base 43 i1 _ 13 176 (by omega) Try.underlying40 hi1 hy0 hy1 hy2 rfl _ n _ rfl hOL7 _ _ 1 1 [tv pt, v0, v1, v2, v3, v4, v5, v6, v7, v8, v9, v10, v11] rfl rfl hnew7 hv2 (by unfold maxLen; omega) (by omega) hb7 ?_; intro v8' w8 hown8 hg8 hat8; obtain ⟨A8, c8, rfl, hc8⟩ := own_form hown8; have hb8 := hbx7.turned (S := fun k => base ≤ k) (Turns.of_by hg8 fun g e _ => own_ge hOL7 g e) (by omega); have q8 := hb8.cell (k := 0) rfl; have f8 := hb8.free 0)
  refine NoPanic.normal ?_
  have hT8 : Turns (WalkS bn bl (.slice An ns.length cn) (.slice Al n cl)) w w8 := (hTb.then_ (Turns.of_grows (S := NoS) HG7.out) (fun i _ h => h.elim)).trans (Turns.of_by hg8 fun g e _ => .inr (.inr (.inr e)))
  have hT9 : Turns (WalkS bn bl (.slice An ns.length cn) (.slice Al n cl)) w (w8.setCell ⟨bl, 0, none⟩ (.slice A8 (n + 1) c8)) := hT8.trans (Turns.of_set w8 _ (.inr (.inl rfl)))
  have hL9 : Has (w8.setCell ⟨bl, 0, none⟩ (.slice A8 (n + 1) c8)) bl [.slice A8 (n + 1) c8] := hb8.set_ (k := 0) (by simp) _
  have hlB : Turns (fun k => k = bl ∨ (Value.slice Al n cl).ownBlock = some k) x7 (w8.setCell ⟨bl, 0, none⟩ (.slice A8 (n + 1) c8)) := (Turns.of_by hg8 fun g e _ => .inr e).trans (Turns.of_set w8 _ (.inl rfl))
  have hN9 := hN7.turned hlB (fun h => by
    rcases h with h | h
    · exact hne h
    · have := own_ge hOL7 _ h; omega)
  have hON9 := own_turned hON7 hlB (fun g e h => by
    rcases h with h | h
    · have := own_ge hON7 g e; omega
    · exact hdis g e h)
  have hOL9 := own_turned hown8 (Turns.of_set (S := fun k => k = bl) (o := 0) w8 (.slice A8 (n + 1) c8) rfl) (fun g e => by have := own_ge hown8 g e; omega)
  have hnl : ∀ k, u.heap.size ≤ k → ¬ (k = bl ∨ (Value.slice Al n cl).ownBlock = some k) := fun k hk h => by
    rcases h with h | h
    · omega
    · have := (hlv.lt k h).2; omega
  have hOn8 : OwnOn x7 (fun k => u.heap.size ≤ k ∧ k < x7.heap.size) o h' := ⟨hOn7.dlen, hOn7.dcap, liesOn_both hOn7.data, hOn7.alen, hOn7.acap, liesOn_both hOn7.attrs⟩
  have hOn9 := hOn8.turn hlB (fun k hk => hnl k hk.1)
  have hgk : ∀ k, ok k → ¬ WalkS bn bl (.slice An ns.length cn) (.slice Al n cl) k := hok
  have hR9 := hR7.turn hlB (fun k hk h => hok k hk (by
    rcases h with h | h
    · exact .inr (.inl h)
    · exact .inr (.inr (.inr h))))
  have c11 := rec_cell hR9 (j := 10) rfl
  have hux7 : u.heap.size ≤ x7.heap.size := Nat.le_trans hg5.size (Nat.le_trans hg6.size hu.size)
  have hx7s : x7.heap.size ≤ (w8.setCell ⟨bl, 0, none⟩ (.slice A8 (n + 1) c8)).heap.size := hlB.size
  have hfin : (Value.slice A8 (n + 1) c8).ownBlock = (Value.slice Al n cl).ownBlock ∨ ∃ g, (Value.slice A8 (n + 1) c8).ownBlock = some g ∧ x7.heap.size ≤ g := by
    rcases hat8 with h | h
    · exact .inl h
    · exact .inr ⟨_, h, Nat.le_refl _⟩
  have FIN := Lib.hid (⟨hN9, hL9, hON9, hOL9, hOn9, hT9, hfin, hx7s⟩ : _ ∧ _ ∧ _ ∧ _ ∧ _ ∧ _ ∧ _ ∧ _)
  clear hN9 hL9 hON9 hOL9 hOn9 hT9 hfin hx7s hOn8 hlB hR9 hT8 hON7 hN7 hbx7 hb8 hnew7 hown8 hOL7 hOn7 hR7 q8 f8
  generalize w8.setCell ⟨bl, 0, none⟩ (.slice A8 (n + 1) c8) = W9 at *
  go_wp2_with fail
  go_ret
  obtain ⟨hN9, hL9, hON9, hOL9, hOn9, hT9, hfin, hx7s⟩ := FIN.out
  have hpt := HPT.out
  have hnm := HNM.out
  have hvs := HVS.out
  refine ⟨rfl, _, _, h', u.heap.size, x7.heap.size, hN9, hL9, by rw [← hnm]; exact hON9, by rw [← hnm, ← hpt, hvs]; exact hOL9, hOn9, hak, by omega, hux7, hx7s, fun g e => by have := hlt2 g e; omega, hat3, hfin, hT9⟩
end Go.Proofs.Ytanofmejokgijaa
