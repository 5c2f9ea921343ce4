/-
  Contracts, joined (Doe6 Doe7 Doe7n Doe8 Doe8n Doe9 DoeW Doe Pln).
-/
import Derived.Test.YtbcldknecdbemaaK3
import Derived.Test.YtbcldknecdbemaaJ1

/-
  Law 12's does: Sync.
-/
namespace Go.Proofs.Ytbcldknecdbemaa
open Go.RowKit
set_option linter.unusedVariables false
set_option maxRecDepth 20000

set_option maxHeartbeats 4000000 in
theorem does_6 (D : Dk) (sv lv wv : Value) (a m : Nat) (X ok : Nat → Prop) (w : World) (o : Deed) (A A' : Option Addr) (c c' : Nat) (h : DoesIn D sv lv wv a m X ok w o A A' c c') (hK : around o.what 10 = 6) :
    Calls Try.prog 8 #[.pointer (some ⟨a, 0, none⟩), dV D sv lv wv, .agg #[rv o.what, rv o.p, rv o.to, rv o.n, .slice A o.b.length c, .slice A' o.keep.length c']] w fun e w' => DoesOut (doesD D o) a m X ok w e w' := by
  obtain ⟨hd, hr, hX, hok, hbc, hcm, hlb, hkc, hkm, hlk, i1, i2, i3, i4, hW, hn, hs, hp, hrm⟩ := h
  have hDL := dL_one hr
  unfold dL at hDL
  have hmw := hd.pos
  have NP := fun u => nameof12_any o.p u i2
  have NT := fun u => nameof12_any o.to u i3
  have FW := fun u (hg : Grows w u) => few_bytes A o.b.length c 30 o.b u rfl ((hlb.mono hmw).later hg) hbc (by omega) hcm
  have AR := fun u => around_any o.what 10 u i1 (by omega)
  have hol := hd.ok
  have hlow := hd.low
  have hpl := name12_len o.p
  have hql := name12_len o.to
  have hKo := hK
  generalize hKz : around o.what 10 = K at *
  rw [← hKz] at hKo
  clear hKz
  have h3 := three_b w [rv D.room, sv, lv, wv, rv D.power] [rv o.what, rv o.p, rv o.to, rv o.n, .slice A o.b.length c, .slice A' o.keep.length c'] zeroD 31 38 31 _ rfl
  obtain ⟨b4, b5, b6, g3, s3⟩ := h3
  have hkl : (o.keep.take 20).length = min o.keep.length 20 := by rw [List.length_take]; omega
  have hkt : (min (o.keep.length : Int) 20).toNat = min o.keep.length 20 := by omega
  have hmk : min o.keep.length 20 ≤ 20 ∧ min o.keep.length 20 ≤ o.keep.length := ⟨by omega, by omega⟩
  have hlk20 : Lies w m A' ((o.keep.take 20).map .bool) := fun j u hu => hlk j u (by
    rw [List.getElem?_map, List.getElem?_take] at hu
    split at hu
    · rw [List.getElem?_map]; exact hu
    · cases hu)
  have HDD : doesD D o = (syncD D).1 := by unfold doesD; rw [hKo]; rfl
  generalize hks : o.keep.take 20 = ks at *
  generalize hkz : min o.keep.length 20 = kn at *
  generalize hP : name12 o.p = p at *
  generalize hT : name12 o.to = q at *
  generalize hzw : o.what = zw at *
  generalize hzp : o.p = zp at *
  generalize hzt : o.to = zt at *
  generalize hzn : o.n = zn at *
  generalize hkL : o.keep.length = kl at *
  generalize hbL : o.b.length = bl at *
  have hdl : (o.b.take 30).length = min bl 30 := by rw [List.length_take, hbL]; omega
  generalize hdd : o.b.take 30 = d at *
  have hnb : min bl 30 ≤ 30 := by omega
  generalize hnbz : min bl 30 = nb at *
  clear hP hT hkz hkL hbL hdd hnbz hks hzw hzp hzt hzn
  obtain ⟨w3, hw3⟩ : ∃ w3, w3 = ((w.alloc (.cells [rv D.room, sv, lv, wv, rv D.power].toArray 31)).alloc (.cells [rv zw, rv zp, rv zt, rv zn, .slice A bl c, .slice A' kl c'].toArray 38)).alloc (.cells zeroD.toArray 31) := ⟨_, rfl⟩
  rw [← hw3] at b4 b5 b6 g3 s3
  have HW3 := Lib.hid hw3
  clear hw3
  go_enter Try.func8, Try.ntmps8
  go_wp2_with fail
  change Calls _ _ _ (((w.alloc (.cells [rv D.room, sv, lv, wv, rv D.power].toArray 31)).alloc (.cells [rv zw, rv zp, rv zt, rv zn, .slice A bl c, .slice A' kl c'].toArray 38)).alloc (.cells zeroD.toArray 31)) _
  rw [← HW3.out, show w.heap.size + 1 + 1 = w.heap.size + 2 from rfl]
  clear HW3
  generalize hB4 : w.heap.size = B4 at *
  generalize hB5 : B4 + 1 = B5 at *
  generalize hB6 : B4 + 2 = B6 at *
  have HB := Lib.hid (show B5 = B4 + 1 ∧ B6 = B4 + 2 ∧ w.heap.size = B4 from ⟨hB5.symm, hB6.symm, hB4⟩)
  clear hB4 hB5 hB6
  refine (NP w3).mono ?_
  rintro e w4 ⟨rfl, g4⟩
  have y4 := (b5.later g4).cell (k := 4) rfl
  go_wp2_with fail
  refine (FW w4 (Grows.trans g3 g4)).mono ?_
  rintro e w5 ⟨Ab, cb, rfl, hcb, hown, hL5, g5⟩
  have y0 := (b5.later (Grows.trans g4 g5)).cell (k := 0) rfl
  have y5 := (b5.later (Grows.trans g4 g5)).cell (k := 5) rfl
  have F5 := fresh_own hown (Nat.le_refl _)
  clear y4 hown
  go_wp2_with fail
  refine (AR w5).mono ?_
  rintro e w6 ⟨rfl, rfl⟩
  have G5 : Grows w w5 := Grows.trans g3 (Grows.trans g4 g5)
  have h34 := (Grows.trans g4 g5).size
  have b4 := b4.later (Grows.trans g4 g5)
  have b5 := b5.later (Grows.trans g4 g5)
  have b6 := b6.later (Grows.trans g4 g5)
  have x0 := b4.cell (k := 0) rfl
  have x1 := b4.cell (k := 1) rfl
  have x2 := b4.cell (k := 2) rfl
  have x3 := b4.cell (k := 3) rfl
  have x4 := b4.cell (k := 4) rfl
  have y2 := b5.cell (k := 2) rfl
  have y3 := b5.cell (k := 3) rfl
  have hs5 : B6 < w5.heap.size ∧ B4 < B6 ∧ B4 < w5.heap.size := by have := HB.out; omega
  clear y0 y5 g3 g4 g5 h34 s3 AR NP FW hkt hbc hlb
  subst hK
  have SR := sync_r D sv lv wv w5 ok (hr.later G5) ⟨hlow, by omega⟩
  have SD := fun (u : World) (X' : Nat → Prop) (h : Dsk u a m X' D) (hx : ∀ k, X' k → k < u.heap.size) => sync_d a m X' D u h hx (by omega) (by omega)
  obtain ⟨R, hR⟩ : ∃ R, R = syncD D := ⟨_, rfl⟩
  have HD : Hid (doesD D o = R.1) := by rw [hR]; exact HDD
  rw [← hR] at SR SD
  clear hR hKo
  obtain ⟨D', r⟩ := R
  simp only at SR SD HD
  go_wp2_with fail
  refine SR.mono ?_
  rintro e w7 ⟨lv', wv', rfl, r7, g7⟩
  obtain ⟨sv', hsv⟩ : ∃ x, x = sv := ⟨_, rfl⟩
  rw [← hsv] at r7 ⊢
  clear hsv
  have hone := dL_one r7
  unfold dL at hone
  have hbx := Has.new w7 31 zeroD
  have ga := grows_alloc w7 (.cells zeroD.toArray 31)
  go_wp2_with (refine wpList_storeT rfl 31 (.tmp 15) (.tmp 78) rfl w7.heap.size _ [rv D'.room, sv', lv', wv', rv D'.power] 5 rfl rfl hbx rfl rfl d_size hone ?_; intro w9 b9 t9)
  have h5n := g7.size
  have G59 : Grows w5 w9 := ((Turns.of_grows (S := fun k => w5.heap.size ≤ k) (Grows.trans g7 ga)).trans (t9.mono fun k _ e => by rw [e]; exact h5n)).grows (fun k h1 h2 => by omega)
  have hs9 : w7.heap.size < w9.heap.size := b9.lt
  have r9 := (((r7.cut).later ga).turned t9 (fun k hk e => by have := hk.2; omega)).mono (ok' := fun k => (ok k ∨ w5.heap.size ≤ k) ∧ k < w9.heap.size ∧ k ≠ w7.heap.size) (fun k hk => ⟨hk.1, by have := hk.2; omega, by have := hk.2; omega⟩)
  clear hbx ga t9 hr
  generalize w7.heap.size = nx at *
  have G9 := Grows.trans G5 G59
  have b5 := b5.later G59
  have b6 := b6.later G59
  have xB6 : Xn w w9 X B6 := ⟨.inr (by have := HB.out; omega), by have := HB.out; omega⟩
  have xB5 : Xn w w9 X B5 := ⟨.inr (by have := HB.out; omega), by have := HB.out; omega⟩
  have xB : Xn w w9 X nx := ⟨.inr (by have := HB.out; omega), by omega⟩
  have d9 := (hd.more (X' := Xn w w9 X) (fun k hk => hk.1)).later G9
  have r9 := r9.mono (ok' := fun k => (Xn w w9 X k ∧ (ok k ∨ w.heap.size ≤ k)) ∧ k ≠ B6) (fun k hk => by
    obtain ⟨hk | hk, h2, h3⟩ := hk <;> have := HB.out
    · exact ⟨⟨⟨.inl (hok k hk), h2⟩, .inl hk⟩, by have := hX k (hok k hk); omega⟩
    · exact ⟨⟨⟨.inr (by omega), h2⟩, .inr (by omega)⟩, by omega⟩)
  have gd := (Grows.refl w9).drew
  have hn6 : nx ≠ B6 := by have := HB.out; omega
  have hm6 : m ≤ B6 := by have := HB.out; omega
  have ldn : ∀ u, Turns (fun k => (m ≤ k ∧ ¬ Xn w w9 X k) ∨ k = B6) w9.drew u → (Instr.loadAt 31 (.pointer (some ⟨nx, 0, none⟩))).run Try.prog u = .ok (dV D' sv' lv' wv') u := fun u h => ((b9.later gd).turned h (fun e => e.elim (fun e => e.2 xB) hn6)).load Try.underlying31 rfl d_size
  have hO := Turns.refl (fun k => (m ≤ k ∧ ¬ Xn w w9 X k) ∨ k = B6) w9.drew
  refine wp_region_callw (S := fun k => (m ≤ k ∧ ¬ Xn w w9 X k) ∨ k = B6) 7 [(0, true), (1, true), (3, true), (2, false), (4, true), (5, false), (6, true)] (by kernel_rfl) (by kernel_rfl) ?_
  repeat (first | (refine orc_load hO _ _ (by simp only [List.getElem?_cons_succ, List.getElem?_cons_zero]; rfl) (by rfl) 31 (.tmp 15) (by rfl) _ (by rfl) ldn ?_; try simp only [Act.put, List.setIfInBounds_toArray, List.set_cons_zero, List.set_cons_succ]) | (refine orc_take hO _ ?_ (by simp only [List.getElem?_cons_succ, List.getElem?_cons_zero]; rfl) (by rfl) ?_ ?_; rotate_left; (· (intro u hu0 hu; (try go_simp); (try with_reducible rfl))); try simp only [Act.put, List.setIfInBounds_toArray, List.set_cons_zero, List.set_cons_succ]))
  refine orc_move _ (by simp only [List.getElem?_cons_succ, List.getElem?_cons_zero]; rfl) (by rfl) (fun u hu K hK => ?_)
  go_simp
  have gu := Grows.trans gd hu
  refine (SD u _ (d9.later gu) (fun k hk => Nat.lt_of_lt_of_le hk.2 gu.size)).mono ?_
  rintro e v1 ⟨rfl, d1, t1⟩
  refine hK.out _ _ (t1.mono fun k _ e => .inl e) ?_
  clear hK K ldn hO
  have hO := Turns.refl (fun k => (m ≤ k ∧ ¬ Xn w w9 X k) ∨ k = B6) v1
  repeat (refine orc_take hO _ ?_ (by simp only [List.getElem?_cons_succ, List.getElem?_cons_zero]; rfl) (by rfl) ?_ ?_; rotate_left; (· (intro u hu0 hu; (try go_simp); (try with_reducible rfl))); try simp only [Act.put, List.setIfInBounds_toArray, List.set_cons_zero, List.set_cons_succ])
  refine orc_move _ (by simp only [List.getElem?_cons_succ, List.getElem?_cons_zero]; rfl) (by rfl) (fun u3 hu3 K hK => ?_)
  have b6 := (((b6.later gu).turned t1 (fun e => e.2 xB6)).later hu3)
  have r3 := ((r9.later gu).turned t1 (fun k hk e => e.2 hk.1.1)).later hu3
  have d3 := d1.later hu3
  have T3 : Turns (fun k => m ≤ k ∧ ¬ X k) w u3 := ((Turns.of_grows (Grows.trans G9 gu)).then_ t1 (fun k hk e => ⟨e.1, fun hx => e.2 ⟨.inl hx, Nat.lt_of_lt_of_le hk G9.size⟩⟩)).trans (Turns.of_grows hu3)
  have hsz := ((Turns.of_grows (S := fun k => m ≤ k ∧ ¬ Xn w w9 X k) gu).trans (t1.trans (Turns.of_grows hu3))).size
  clear d1 t1 hu3 b9 hO
  refine op_storeT 31 (.tmp 6) (.tmp 80) rfl B6 _ [rv D'.room, sv', lv', wv', rv D'.power] 5 rfl rfl b6 rfl rfl d_size hone ?_
  intro w12 b12 t12
  refine hK.out _ _ (t12.mono fun k _ e => .inr e) ?_
  clear hK K
  have hO := Turns.refl (fun k => (m ≤ k ∧ ¬ Xn w w9 X k) ∨ k = B6) w12
  repeat (refine orc_take hO _ ?_ (by simp only [List.getElem?_cons_succ, List.getElem?_cons_zero]; rfl) (by rfl) ?_ ?_; rotate_left; (· (intro u hu0 hu; (try go_simp); (try with_reducible rfl))); try simp only [Act.put, List.setIfInBounds_toArray, List.set_cons_zero, List.set_cons_succ])
  refine orc_done (fun u5 hu5 => ?_)
  simp only [List.drop_succ_cons, List.drop_zero]
  clear hO
  have b12 := b12.later hu5
  go_wp2_with fail
  refine NoPanic.normal ?_
  go_wp2_with fail
  (try simp only [Exit.inBlock, Exit.then])
  refine bodyPost_ret (res_has_two (vs := [rv D'.room, sv', lv', wv', rv D'.power]) Try.results8 _ rfl Try.underlying31 rfl d_size b12) rfl ?_
  refine ⟨sv', lv', wv', Xn w w9 X, by rw [HD.out]; simp [dV], by rw [HD.out]; exact (d3.turned t12 (fun k e h => h.2 (by rw [e]; exact xB6))).later hu5, by rw [HD.out]; exact ((r3.turned t12 (fun k hk e => hk.2 e)).mono (fun k hk => hk.1)).later hu5, fun k hk => Nat.lt_of_lt_of_le hk.2 (Nat.le_trans hsz (Nat.le_trans t12.size hu5.size)), fun k hk => ⟨.inl hk, by have := HB.out; have := hX k hk; have := G9.size; omega⟩, fun k hk => hk.1, (T3.then_ t12 (fun k hk e => by have := HB.out; omega)).trans (Turns.of_grows hu5)⟩
end Go.Proofs.Ytbcldknecdbemaa

/-
  Law 12's does: Power.
-/
namespace Go.Proofs.Ytbcldknecdbemaa
open Go.RowKit
set_option linter.unusedVariables false
set_option maxRecDepth 20000

set_option maxHeartbeats 4000000 in
theorem does_7 (D : Dk) (sv lv wv : Value) (a m : Nat) (X ok : Nat → Prop) (w : World) (o : Deed) (A A' : Option Addr) (c c' : Nat) (h : DoesIn D sv lv wv a m X ok w o A A' c c') (hK : around o.what 10 = 7) (hz : Int.tmod o.n 3 = 0) :
    Calls Try.prog 8 #[.pointer (some ⟨a, 0, none⟩), dV D sv lv wv, .agg #[rv o.what, rv o.p, rv o.to, rv o.n, .slice A o.b.length c, .slice A' o.keep.length c']] w fun e w' => DoesOut (doesD D o) a m X ok w e w' := by
  obtain ⟨hd, hr, hX, hok, hbc, hcm, hlb, hkc, hkm, hlk, i1, i2, i3, i4, hW, hn, hs, hp, hrm⟩ := h
  have hDL := dL_one hr
  unfold dL at hDL
  have hmw := hd.pos
  have NP := fun u => nameof12_any o.p u i2
  have NT := fun u => nameof12_any o.to u i3
  have FW := fun u (hg : Grows w u) => few_bytes A o.b.length c 30 o.b u rfl ((hlb.mono hmw).later hg) hbc (by omega) hcm
  have AR := fun u => around_any o.what 10 u i1 (by omega)
  have hol := hd.ok
  have hlow := hd.low
  have hpl := name12_len o.p
  have hql := name12_len o.to
  have hKo := hK
  generalize hKz : around o.what 10 = K at *
  rw [← hKz] at hKo
  clear hKz
  have h3 := three_b w [rv D.room, sv, lv, wv, rv D.power] [rv o.what, rv o.p, rv o.to, rv o.n, .slice A o.b.length c, .slice A' o.keep.length c'] zeroD 31 38 31 _ rfl
  obtain ⟨b4, b5, b6, g3, s3⟩ := h3
  have hkl : (o.keep.take 20).length = min o.keep.length 20 := by rw [List.length_take]; omega
  have hkt : (min (o.keep.length : Int) 20).toNat = min o.keep.length 20 := by omega
  have hmk : min o.keep.length 20 ≤ 20 ∧ min o.keep.length 20 ≤ o.keep.length := ⟨by omega, by omega⟩
  have hlk20 : Lies w m A' ((o.keep.take 20).map .bool) := fun j u hu => hlk j u (by
    rw [List.getElem?_map, List.getElem?_take] at hu
    split at hu
    · rw [List.getElem?_map]; exact hu
    · cases hu)
  have HDD : doesD D o = { D with power := max (Int.tmod o.n 7 - 1) (-1) } := by unfold doesD; rw [hKo]; simp only; rw [if_neg (by omega), if_neg (by omega), if_neg (by omega), if_pos trivial, if_pos hz]
  generalize hks : o.keep.take 20 = ks at *
  generalize hkz : min o.keep.length 20 = kn at *
  generalize hP : name12 o.p = p at *
  generalize hT : name12 o.to = q at *
  generalize hzw : o.what = zw at *
  generalize hzp : o.p = zp at *
  generalize hzt : o.to = zt at *
  generalize hzn : o.n = zn at *
  generalize hkL : o.keep.length = kl at *
  generalize hbL : o.b.length = bl at *
  have hdl : (o.b.take 30).length = min bl 30 := by rw [List.length_take, hbL]; omega
  generalize hdd : o.b.take 30 = d at *
  have hnb : min bl 30 ≤ 30 := by omega
  generalize hnbz : min bl 30 = nb at *
  clear hP hT hkz hkL hbL hdd hnbz hks hzw hzp hzt hzn
  obtain ⟨w3, hw3⟩ : ∃ w3, w3 = ((w.alloc (.cells [rv D.room, sv, lv, wv, rv D.power].toArray 31)).alloc (.cells [rv zw, rv zp, rv zt, rv zn, .slice A bl c, .slice A' kl c'].toArray 38)).alloc (.cells zeroD.toArray 31) := ⟨_, rfl⟩
  rw [← hw3] at b4 b5 b6 g3 s3
  have HW3 := Lib.hid hw3
  clear hw3
  go_enter Try.func8, Try.ntmps8
  go_wp2_with fail
  change Calls _ _ _ (((w.alloc (.cells [rv D.room, sv, lv, wv, rv D.power].toArray 31)).alloc (.cells [rv zw, rv zp, rv zt, rv zn, .slice A bl c, .slice A' kl c'].toArray 38)).alloc (.cells zeroD.toArray 31)) _
  rw [← HW3.out, show w.heap.size + 1 + 1 = w.heap.size + 2 from rfl]
  clear HW3
  generalize hB4 : w.heap.size = B4 at *
  generalize hB5 : B4 + 1 = B5 at *
  generalize hB6 : B4 + 2 = B6 at *
  have HB := Lib.hid (show B5 = B4 + 1 ∧ B6 = B4 + 2 ∧ w.heap.size = B4 from ⟨hB5.symm, hB6.symm, hB4⟩)
  clear hB4 hB5 hB6
  refine (NP w3).mono ?_
  rintro e w4 ⟨rfl, g4⟩
  have y4 := (b5.later g4).cell (k := 4) rfl
  go_wp2_with fail
  refine (FW w4 (Grows.trans g3 g4)).mono ?_
  rintro e w5 ⟨Ab, cb, rfl, hcb, hown, hL5, g5⟩
  have y0 := (b5.later (Grows.trans g4 g5)).cell (k := 0) rfl
  have y5 := (b5.later (Grows.trans g4 g5)).cell (k := 5) rfl
  have F5 := fresh_own hown (Nat.le_refl _)
  clear y4 hown
  go_wp2_with fail
  refine (AR w5).mono ?_
  rintro e w6 ⟨rfl, rfl⟩
  have G5 : Grows w w5 := Grows.trans g3 (Grows.trans g4 g5)
  have h34 := (Grows.trans g4 g5).size
  have b4 := b4.later (Grows.trans g4 g5)
  have b5 := b5.later (Grows.trans g4 g5)
  have b6 := b6.later (Grows.trans g4 g5)
  have x0 := b4.cell (k := 0) rfl
  have x1 := b4.cell (k := 1) rfl
  have x2 := b4.cell (k := 2) rfl
  have x3 := b4.cell (k := 3) rfl
  have x4 := b4.cell (k := 4) rfl
  have y2 := b5.cell (k := 2) rfl
  have y3 := b5.cell (k := 3) rfl
  have hs5 : B6 < w5.heap.size ∧ B4 < B6 ∧ B4 < w5.heap.size := by have := HB.out; omega
  clear y0 y5 g3 g4 g5 h34 s3 AR NP FW hkt hbc hlb
  subst hK
  have hd3 : (decide (zn.tmod 3 = 0)) = true := by simpa using hz
  have hd3' : (!(decide (zn.tmod 3 = 0))) = false := by simpa using hz
  have HD : Hid (doesD D o = { D with power := max (zn.tmod 7 - 1) (-1) }) := by exact HDD
  clear hKo
  have h7 : -7 < zn.tmod 7 ∧ zn.tmod 7 < 7 := ⟨Int.lt_tmod_of_pos zn (by omega), Int.tmod_lt_of_pos zn (by omega)⟩
  have hwr := IntWalk.i64_in (zn.tmod 7 - 1) ⟨by omega, by omega⟩
  have SD := fun (u : World) (X' : Nat → Prop) (h : Dsk u a m X' D) => power_d a m X' D u (zn.tmod 7 - 1) h (by omega)
  have SR := fun (u : World) (h : RDk u ok sv lv wv D) => power_r D sv lv wv u ok (zn.tmod 7 - 1) h
  have d5 := (hd.more (X' := Xn w w5 X) (fun k hk => hk.1)).later G5
  have xB4 : Xn w w5 X B4 := ⟨.inr (by have := HB.out; omega), by have := HB.out; omega⟩
  have xB5 : Xn w w5 X B5 := ⟨.inr (by have := HB.out; omega), by have := HB.out; omega⟩
  have xB6 : Xn w w5 X B6 := ⟨.inr (by have := HB.out; omega), by have := HB.out; omega⟩
  have xok : ∀ k, ok k → Xn w w5 X k := fun k hk => ⟨.inl (hok k hk), by have := HB.out; have := hX k (hok k hk); have := G5.size; omega⟩
  clear x0 x1 x2 x3 x4 y2
  go_wp2_with fail
  refine (SD w5 _ d5).mono ?_
  rintro e w7 ⟨rfl, d7, t7⟩
  have b4 := b4.turned t7 (fun e => e.2 xB4)
  have b5 := b5.turned t7 (fun e => e.2 xB5)
  have b6 := b6.turned t7 (fun e => e.2 xB6)
  have r7 := (hr.later G5).turned t7 (fun k hk e => e.2 (xok k hk))
  have h57 := t7.size
  have T7 : Turns (fun k => m ≤ k ∧ ¬ X k) w w7 := (Turns.of_grows G5).then_ t7 (fun k hk e => ⟨e.1, fun hx => e.2 ⟨.inl hx, Nat.lt_of_lt_of_le hk G5.size⟩⟩)
  have x0 := b4.cell (k := 0) rfl
  have x1 := b4.cell (k := 1) rfl
  have x2 := b4.cell (k := 2) rfl
  have x3 := b4.cell (k := 3) rfl
  have x4 := b4.cell (k := 4) rfl
  have y3 := b5.cell (k := 3) rfl
  go_wp2_with fail
  refine (SR w7 r7).mono ?_
  rintro e w8 ⟨rfl, g8⟩
  have r8 : RDk w8 (fun k => ok k ∨ w7.heap.size ≤ k) sv lv wv { D with power := max (zn.tmod 7 - 1) (-1) } := ⟨(r7.seen.later g8).mono (fun k h => .inl h), (r7.lasts.later g8).mono (fun k h => .inl h), (r7.waits.later g8).mono (fun k h => .inl h)⟩
  have hone := dL_one r8
  unfold dL at hone
  have b6 := b6.later g8
  have h78 := g8.size
  go_wp2_with (refine wpList_storeT rfl 31 (.tmp 6) (.tmp 103) rfl B6 _ [rv D.room, sv, lv, wv, rv (max (zn.tmod 7 - 1) (-1))] 5 rfl rfl b6 rfl rfl d_size hone ?_; intro w12 b12 t12)
  (try simp only [Exit.inBlock, Exit.then])
  refine bodyPost_ret (res_has_two (vs := [rv D.room, sv, lv, wv, rv (max (zn.tmod 7 - 1) (-1))]) Try.results8 _ rfl Try.underlying31 rfl d_size b12) rfl ?_
  refine ⟨sv, lv, wv, fun k => Xn w w5 X k ∨ (w7.heap.size ≤ k ∧ k < w8.heap.size), by rw [HD.out]; simp [dV], by rw [HD.out]; exact ((d7.more (fun k hk => hk.imp id (fun hk => hk.1))).later g8).turned t12 (fun k e h => h.2 (.inl (by rw [e]; exact xB6))), by rw [HD.out]; exact (r8.cut.turned t12 (fun k hk e => by have := HB.out; rcases hk.1 with h | h; have := hX k (hok k h); omega; omega)).mono (fun k hk => by rcases hk.1 with h | h; exact ⟨.inl (xok k h), .inl h⟩; exact ⟨.inr ⟨h, hk.2⟩, .inr (by have := G5.size; omega)⟩), fun k hk => ?_, fun k hk => .inl ⟨.inl hk, by have := HB.out; have := hX k hk; have := G5.size; omega⟩, fun k hk => ?_, ((T7.trans (Turns.of_grows g8)).then_ t12 (fun k hk e => by have := HB.out; omega))⟩
  · have := t12.size
    rcases hk with hk | hk
    · have := hk.2; omega
    · omega
  · rcases hk with hk | hk
    · exact hk.1
    · exact .inr (by have := G5.size; omega)
end Go.Proofs.Ytbcldknecdbemaa

/-
  Law 12's does: Power.
-/
namespace Go.Proofs.Ytbcldknecdbemaa
open Go.RowKit
set_option linter.unusedVariables false
set_option maxRecDepth 20000

set_option maxHeartbeats 4000000 in
theorem does_7n (D : Dk) (sv lv wv : Value) (a m : Nat) (X ok : Nat → Prop) (w : World) (o : Deed) (A A' : Option Addr) (c c' : Nat) (h : DoesIn D sv lv wv a m X ok w o A A' c c') (hK : around o.what 10 = 7) (hz : ¬ Int.tmod o.n 3 = 0) :
    Calls Try.prog 8 #[.pointer (some ⟨a, 0, none⟩), dV D sv lv wv, .agg #[rv o.what, rv o.p, rv o.to, rv o.n, .slice A o.b.length c, .slice A' o.keep.length c']] w fun e w' => DoesOut (doesD D o) a m X ok w e w' := by
  obtain ⟨hd, hr, hX, hok, hbc, hcm, hlb, hkc, hkm, hlk, i1, i2, i3, i4, hW, hn, hs, hp, hrm⟩ := h
  have hDL := dL_one hr
  unfold dL at hDL
  have hmw := hd.pos
  have NP := fun u => nameof12_any o.p u i2
  have NT := fun u => nameof12_any o.to u i3
  have FW := fun u (hg : Grows w u) => few_bytes A o.b.length c 30 o.b u rfl ((hlb.mono hmw).later hg) hbc (by omega) hcm
  have AR := fun u => around_any o.what 10 u i1 (by omega)
  have hol := hd.ok
  have hlow := hd.low
  have hpl := name12_len o.p
  have hql := name12_len o.to
  have hKo := hK
  generalize hKz : around o.what 10 = K at *
  rw [← hKz] at hKo
  clear hKz
  have h3 := three_b w [rv D.room, sv, lv, wv, rv D.power] [rv o.what, rv o.p, rv o.to, rv o.n, .slice A o.b.length c, .slice A' o.keep.length c'] zeroD 31 38 31 _ rfl
  obtain ⟨b4, b5, b6, g3, s3⟩ := h3
  have hkl : (o.keep.take 20).length = min o.keep.length 20 := by rw [List.length_take]; omega
  have hkt : (min (o.keep.length : Int) 20).toNat = min o.keep.length 20 := by omega
  have hmk : min o.keep.length 20 ≤ 20 ∧ min o.keep.length 20 ≤ o.keep.length := ⟨by omega, by omega⟩
  have hlk20 : Lies w m A' ((o.keep.take 20).map .bool) := fun j u hu => hlk j u (by
    rw [List.getElem?_map, List.getElem?_take] at hu
    split at hu
    · rw [List.getElem?_map]; exact hu
    · cases hu)
  have HDD : doesD D o = D := by unfold doesD; rw [hKo]; simp only; rw [if_neg (by omega), if_neg (by omega), if_neg (by omega), if_pos trivial, if_neg hz]
  generalize hks : o.keep.take 20 = ks at *
  generalize hkz : min o.keep.length 20 = kn at *
  generalize hP : name12 o.p = p at *
  generalize hT : name12 o.to = q at *
  generalize hzw : o.what = zw at *
  generalize hzp : o.p = zp at *
  generalize hzt : o.to = zt at *
  generalize hzn : o.n = zn at *
  generalize hkL : o.keep.length = kl at *
  generalize hbL : o.b.length = bl at *
  have hdl : (o.b.take 30).length = min bl 30 := by rw [List.length_take, hbL]; omega
  generalize hdd : o.b.take 30 = d at *
  have hnb : min bl 30 ≤ 30 := by omega
  generalize hnbz : min bl 30 = nb at *
  clear hP hT hkz hkL hbL hdd hnbz hks hzw hzp hzt hzn
  obtain ⟨w3, hw3⟩ : ∃ w3, w3 = ((w.alloc (.cells [rv D.room, sv, lv, wv, rv D.power].toArray 31)).alloc (.cells [rv zw, rv zp, rv zt, rv zn, .slice A bl c, .slice A' kl c'].toArray 38)).alloc (.cells zeroD.toArray 31) := ⟨_, rfl⟩
  rw [← hw3] at b4 b5 b6 g3 s3
  have HW3 := Lib.hid hw3
  clear hw3
  go_enter Try.func8, Try.ntmps8
  go_wp2_with fail
  change Calls _ _ _ (((w.alloc (.cells [rv D.room, sv, lv, wv, rv D.power].toArray 31)).alloc (.cells [rv zw, rv zp, rv zt, rv zn, .slice A bl c, .slice A' kl c'].toArray 38)).alloc (.cells zeroD.toArray 31)) _
  rw [← HW3.out, show w.heap.size + 1 + 1 = w.heap.size + 2 from rfl]
  clear HW3
  generalize hB4 : w.heap.size = B4 at *
  generalize hB5 : B4 + 1 = B5 at *
  generalize hB6 : B4 + 2 = B6 at *
  have HB := Lib.hid (show B5 = B4 + 1 ∧ B6 = B4 + 2 ∧ w.heap.size = B4 from ⟨hB5.symm, hB6.symm, hB4⟩)
  clear hB4 hB5 hB6
  refine (NP w3).mono ?_
  rintro e w4 ⟨rfl, g4⟩
  have y4 := (b5.later g4).cell (k := 4) rfl
  go_wp2_with fail
  refine (FW w4 (Grows.trans g3 g4)).mono ?_
  rintro e w5 ⟨Ab, cb, rfl, hcb, hown, hL5, g5⟩
  have y0 := (b5.later (Grows.trans g4 g5)).cell (k := 0) rfl
  have y5 := (b5.later (Grows.trans g4 g5)).cell (k := 5) rfl
  have F5 := fresh_own hown (Nat.le_refl _)
  clear y4 hown
  go_wp2_with fail
  refine (AR w5).mono ?_
  rintro e w6 ⟨rfl, rfl⟩
  have G5 : Grows w w5 := Grows.trans g3 (Grows.trans g4 g5)
  have h34 := (Grows.trans g4 g5).size
  have b4 := b4.later (Grows.trans g4 g5)
  have b5 := b5.later (Grows.trans g4 g5)
  have b6 := b6.later (Grows.trans g4 g5)
  have x0 := b4.cell (k := 0) rfl
  have x1 := b4.cell (k := 1) rfl
  have x2 := b4.cell (k := 2) rfl
  have x3 := b4.cell (k := 3) rfl
  have x4 := b4.cell (k := 4) rfl
  have y2 := b5.cell (k := 2) rfl
  have y3 := b5.cell (k := 3) rfl
  have hs5 : B6 < w5.heap.size ∧ B4 < B6 ∧ B4 < w5.heap.size := by have := HB.out; omega
  clear y0 y5 g3 g4 g5 h34 s3 AR NP FW hkt hbc hlb
  subst hK
  have hd3 : (decide (zn.tmod 3 = 0)) = false := by simpa using hz
  have hd3' : (!(decide (zn.tmod 3 = 0))) = true := by simpa using hz
  have hone := dL_one hr
  unfold dL at hone
  have HD : Hid (doesD D o = D) := by exact HDD
  clear hKo
  go_wp2_with (refine wpList_storeT rfl 31 (.tmp 6) (.tmp 91) rfl B6 _ [rv D.room, sv, lv, wv, rv D.power] 5 rfl rfl b6 rfl rfl d_size hone ?_; intro w12 b12 t12)
  (try simp only [Exit.inBlock, Exit.then])
  refine bodyPost_ret (res_has_two (vs := [rv D.room, sv, lv, wv, rv D.power]) Try.results8 _ rfl Try.underlying31 rfl d_size b12) rfl ?_
  have xB6 : Xn w w5 X B6 := ⟨.inr (by have := HB.out; omega), by have := HB.out; omega⟩
  have xok : ∀ k, ok k → Xn w w5 X k := fun k hk => ⟨.inl (hok k hk), by have := HB.out; have := hX k (hok k hk); have := G5.size; omega⟩
  refine ⟨sv, lv, wv, Xn w w5 X, by rw [HD.out]; simp [dV], by rw [HD.out]; exact ((hd.more (X' := Xn w w5 X) (fun k hk => hk.1)).later G5).turned t12 (fun k e h => h.2 (by rw [e]; exact xB6)), by rw [HD.out]; exact ((hr.later G5).turned t12 (fun k hk e => by have := HB.out; have := hX k (hok k hk); omega)).mono (fun k hk => ⟨xok k hk, .inl hk⟩), fun k hk => Nat.lt_of_lt_of_le hk.2 t12.size, fun k hk => ⟨.inl hk, by have := HB.out; have := hX k hk; have := G5.size; omega⟩, fun k hk => hk.1, (Turns.of_grows G5).then_ t12 (fun k hk e => by have := HB.out; omega)⟩
end Go.Proofs.Ytbcldknecdbemaa

/-
  Law 12's does: Restart.
-/
namespace Go.Proofs.Ytbcldknecdbemaa
open Go.RowKit
set_option linter.unusedVariables false
set_option maxRecDepth 20000

set_option maxHeartbeats 4000000 in
theorem does_8 (D : Dk) (sv lv wv : Value) (a m : Nat) (X ok : Nat → Prop) (w : World) (o : Deed) (A A' : Option Addr) (c c' : Nat) (h : DoesIn D sv lv wv a m X ok w o A A' c c') (hK : around o.what 10 = 8) (hz : Int.tmod o.n 2 = 0) :
    Calls Try.prog 8 #[.pointer (some ⟨a, 0, none⟩), dV D sv lv wv, .agg #[rv o.what, rv o.p, rv o.to, rv o.n, .slice A o.b.length c, .slice A' o.keep.length c']] w fun e w' => DoesOut (doesD D o) a m X ok w e w' := by
  obtain ⟨hd, hr, hX, hok, hbc, hcm, hlb, hkc, hkm, hlk, i1, i2, i3, i4, hW, hn, hs, hp, hrm⟩ := h
  have hDL := dL_one hr
  unfold dL at hDL
  have hmw := hd.pos
  have NP := fun u => nameof12_any o.p u i2
  have NT := fun u => nameof12_any o.to u i3
  have FW := fun u (hg : Grows w u) => few_bytes A o.b.length c 30 o.b u rfl ((hlb.mono hmw).later hg) hbc (by omega) hcm
  have AR := fun u => around_any o.what 10 u i1 (by omega)
  have hol := hd.ok
  have hlow := hd.low
  have hpl := name12_len o.p
  have hql := name12_len o.to
  have hKo := hK
  generalize hKz : around o.what 10 = K at *
  rw [← hKz] at hKo
  clear hKz
  have h3 := three_b w [rv D.room, sv, lv, wv, rv D.power] [rv o.what, rv o.p, rv o.to, rv o.n, .slice A o.b.length c, .slice A' o.keep.length c'] zeroD 31 38 31 _ rfl
  obtain ⟨b4, b5, b6, g3, s3⟩ := h3
  have hkl : (o.keep.take 20).length = min o.keep.length 20 := by rw [List.length_take]; omega
  have hkt : (min (o.keep.length : Int) 20).toNat = min o.keep.length 20 := by omega
  have hmk : min o.keep.length 20 ≤ 20 ∧ min o.keep.length 20 ≤ o.keep.length := ⟨by omega, by omega⟩
  have hlk20 : Lies w m A' ((o.keep.take 20).map .bool) := fun j u hu => hlk j u (by
    rw [List.getElem?_map, List.getElem?_take] at hu
    split at hu
    · rw [List.getElem?_map]; exact hu
    · cases hu)
  have HDD : doesD D o = restartD D (o.keep.take 20) := by unfold doesD; rw [hKo]; simp only; rw [if_neg (by omega), if_neg (by omega), if_neg (by omega), if_neg (by omega), if_pos trivial, if_pos hz]
  generalize hks : o.keep.take 20 = ks at *
  generalize hkz : min o.keep.length 20 = kn at *
  generalize hP : name12 o.p = p at *
  generalize hT : name12 o.to = q at *
  generalize hzw : o.what = zw at *
  generalize hzp : o.p = zp at *
  generalize hzt : o.to = zt at *
  generalize hzn : o.n = zn at *
  generalize hkL : o.keep.length = kl at *
  generalize hbL : o.b.length = bl at *
  have hdl : (o.b.take 30).length = min bl 30 := by rw [List.length_take, hbL]; omega
  generalize hdd : o.b.take 30 = d at *
  have hnb : min bl 30 ≤ 30 := by omega
  generalize hnbz : min bl 30 = nb at *
  clear hP hT hkz hkL hbL hdd hnbz hks hzw hzp hzt hzn
  obtain ⟨w3, hw3⟩ : ∃ w3, w3 = ((w.alloc (.cells [rv D.room, sv, lv, wv, rv D.power].toArray 31)).alloc (.cells [rv zw, rv zp, rv zt, rv zn, .slice A bl c, .slice A' kl c'].toArray 38)).alloc (.cells zeroD.toArray 31) := ⟨_, rfl⟩
  rw [← hw3] at b4 b5 b6 g3 s3
  have HW3 := Lib.hid hw3
  clear hw3
  go_enter Try.func8, Try.ntmps8
  go_wp2_with fail
  change Calls _ _ _ (((w.alloc (.cells [rv D.room, sv, lv, wv, rv D.power].toArray 31)).alloc (.cells [rv zw, rv zp, rv zt, rv zn, .slice A bl c, .slice A' kl c'].toArray 38)).alloc (.cells zeroD.toArray 31)) _
  rw [← HW3.out, show w.heap.size + 1 + 1 = w.heap.size + 2 from rfl]
  clear HW3
  generalize hB4 : w.heap.size = B4 at *
  generalize hB5 : B4 + 1 = B5 at *
  generalize hB6 : B4 + 2 = B6 at *
  have HB := Lib.hid (show B5 = B4 + 1 ∧ B6 = B4 + 2 ∧ w.heap.size = B4 from ⟨hB5.symm, hB6.symm, hB4⟩)
  clear hB4 hB5 hB6
  refine (NP w3).mono ?_
  rintro e w4 ⟨rfl, g4⟩
  have y4 := (b5.later g4).cell (k := 4) rfl
  go_wp2_with fail
  refine (FW w4 (Grows.trans g3 g4)).mono ?_
  rintro e w5 ⟨Ab, cb, rfl, hcb, hown, hL5, g5⟩
  have y0 := (b5.later (Grows.trans g4 g5)).cell (k := 0) rfl
  have y5 := (b5.later (Grows.trans g4 g5)).cell (k := 5) rfl
  have F5 := fresh_own hown (Nat.le_refl _)
  clear y4 hown
  go_wp2_with fail
  refine (AR w5).mono ?_
  rintro e w6 ⟨rfl, rfl⟩
  have G5 : Grows w w5 := Grows.trans g3 (Grows.trans g4 g5)
  have h34 := (Grows.trans g4 g5).size
  have b4 := b4.later (Grows.trans g4 g5)
  have b5 := b5.later (Grows.trans g4 g5)
  have b6 := b6.later (Grows.trans g4 g5)
  have x0 := b4.cell (k := 0) rfl
  have x1 := b4.cell (k := 1) rfl
  have x2 := b4.cell (k := 2) rfl
  have x3 := b4.cell (k := 3) rfl
  have x4 := b4.cell (k := 4) rfl
  have y2 := b5.cell (k := 2) rfl
  have y3 := b5.cell (k := 3) rfl
  have hs5 : B6 < w5.heap.size ∧ B4 < B6 ∧ B4 < w5.heap.size := by have := HB.out; omega
  clear y0 y5 g3 g4 g5 h34 s3 AR NP FW hkt hbc hlb
  subst hK
  have hd3 : (decide (zn.tmod 2 = 0)) = true := by simpa using hz
  have hd3' : (!(decide (zn.tmod 2 = 0))) = false := by simpa using hz
  have HD : Hid (doesD D o = restartD D ks) := by exact HDD
  clear hKo
  have hds : dataSum D.waits ≤ D.weight := by unfold Dk.weight; omega
  have SD := fun (u : World) (X' : Nat → Prop) (h : Dsk u a m X' D) (hx : ∀ k, X' k → k < u.heap.size) (hl : LiesIn (fun i => i < u.heap.size ∧ ¬ (m ≤ i ∧ ¬ X' i)) u A' (ks.map .bool)) => restart_d a m X' D u A' kn c' ks h hx hkl (by omega) hl (by omega) (by omega)
  have SR := fun (u : World) (h : RDk u ok sv lv wv D) (hl : Lies u u.heap.size A' (ks.map .bool)) => restart_r D sv lv wv u ok A' kn c' ks h hkl hl (by omega) (by omega) (by omega)
  have d5 := (hd.more (X' := Xn w w5 X) (fun k hk => hk.1)).later G5
  have xB4 : Xn w w5 X B4 := ⟨.inr (by have := HB.out; omega), by have := HB.out; omega⟩
  have xB5 : Xn w w5 X B5 := ⟨.inr (by have := HB.out; omega), by have := HB.out; omega⟩
  have xB6 : Xn w w5 X B6 := ⟨.inr (by have := HB.out; omega), by have := HB.out; omega⟩
  have xok : ∀ k, ok k → Xn w w5 X k := fun k hk => ⟨.inl (hok k hk), by have := HB.out; have := hX k (hok k hk); have := G5.size; omega⟩
  clear x0 x1 x2 x3 x4 y2
  go_wp2_with fail
  refine (SD w5 _ d5 (fun k hk => hk.2) (fun j u hu => by
    obtain ⟨ad, e1, e2, e3⟩ := hlk20 j u hu
    have e3 := hcell_later e3 G5
    exact ⟨ad, e1, ⟨by have := HB.out; have := G5.size; omega, fun h => by have := h.1; omega⟩, e3⟩)).mono ?_
  rintro e w7 ⟨rfl, d7, t7⟩
  have b4 := b4.turned t7 (fun e => e.2 xB4)
  have b5 := b5.turned t7 (fun e => e.2 xB5)
  have b6 := b6.turned t7 (fun e => e.2 xB6)
  have r7 := (hr.later G5).turned t7 (fun k hk e => e.2 (xok k hk))
  have h57 := t7.size
  have T7 : Turns (fun k => m ≤ k ∧ ¬ X k) w w7 := (Turns.of_grows G5).then_ t7 (fun k hk e => ⟨e.1, fun hx => e.2 ⟨.inl hx, Nat.lt_of_lt_of_le hk G5.size⟩⟩)
  have x0 := b4.cell (k := 0) rfl
  have x1 := b4.cell (k := 1) rfl
  have x2 := b4.cell (k := 2) rfl
  have x3 := b4.cell (k := 3) rfl
  have x4 := b4.cell (k := 4) rfl
  have y3 := b5.cell (k := 3) rfl
  go_wp2_with fail
  refine (SR w7 r7 (fun j u hu => by
    obtain ⟨ad, e1, e2, e3⟩ := hlk20 j u hu
    have e3 := hcell_later e3 G5
    exact ⟨ad, e1, by have := HB.out; have := G5.size; omega, t7.cell e3 (fun h => by have h1 := h.1; rw [ad_block] at h1; omega)⟩)).mono ?_
  rintro e w8 ⟨v, rfl, r8, g8⟩
  have hone := dL_one r8
  unfold dL at hone
  have b6 := b6.later g8
  have h78 := g8.size
  go_wp2_with (refine wpList_storeT rfl 31 (.tmp 6) (.tmp 116) rfl B6 _ [rv (restartD D ks).room, v, v, .slice none 0 0, rv (restartD D ks).power] 5 rfl rfl b6 rfl rfl d_size hone ?_; intro w12 b12 t12)
  (try simp only [Exit.inBlock, Exit.then])
  refine bodyPost_ret (res_has_two (vs := [rv (restartD D ks).room, v, v, .slice none 0 0, rv (restartD D ks).power]) Try.results8 _ rfl Try.underlying31 rfl d_size b12) rfl ?_
  refine ⟨v, v, .slice none 0 0, fun k => Xn w w5 X k ∨ (w7.heap.size ≤ k ∧ k < w8.heap.size), by rw [HD.out]; simp [dV], by rw [HD.out]; exact ((d7.more (fun k hk => hk.imp id (fun hk => hk.1))).later g8).turned t12 (fun k e h => h.2 (.inl (by rw [e]; exact xB6))), by rw [HD.out]; exact (r8.cut.turned t12 (fun k hk e => by have := HB.out; rcases hk.1 with h | h; have := hX k (hok k h); omega; omega)).mono (fun k hk => by rcases hk.1 with h | h; exact ⟨.inl (xok k h), .inl h⟩; exact ⟨.inr ⟨h, hk.2⟩, .inr (by have := G5.size; omega)⟩), fun k hk => ?_, fun k hk => .inl ⟨.inl hk, by have := HB.out; have := hX k hk; have := G5.size; omega⟩, fun k hk => ?_, ((T7.trans (Turns.of_grows g8)).then_ t12 (fun k hk e => by have := HB.out; omega))⟩
  · have := t12.size
    rcases hk with hk | hk
    · have := hk.2; omega
    · omega
  · rcases hk with hk | hk
    · exact hk.1
    · exact .inr (by have := G5.size; omega)
end Go.Proofs.Ytbcldknecdbemaa

/-
  Law 12's does: Restart.
-/
namespace Go.Proofs.Ytbcldknecdbemaa
open Go.RowKit
set_option linter.unusedVariables false
set_option maxRecDepth 20000

set_option maxHeartbeats 4000000 in
theorem does_8n (D : Dk) (sv lv wv : Value) (a m : Nat) (X ok : Nat → Prop) (w : World) (o : Deed) (A A' : Option Addr) (c c' : Nat) (h : DoesIn D sv lv wv a m X ok w o A A' c c') (hK : around o.what 10 = 8) (hz : ¬ Int.tmod o.n 2 = 0) :
    Calls Try.prog 8 #[.pointer (some ⟨a, 0, none⟩), dV D sv lv wv, .agg #[rv o.what, rv o.p, rv o.to, rv o.n, .slice A o.b.length c, .slice A' o.keep.length c']] w fun e w' => DoesOut (doesD D o) a m X ok w e w' := by
  obtain ⟨hd, hr, hX, hok, hbc, hcm, hlb, hkc, hkm, hlk, i1, i2, i3, i4, hW, hn, hs, hp, hrm⟩ := h
  have hDL := dL_one hr
  unfold dL at hDL
  have hmw := hd.pos
  have NP := fun u => nameof12_any o.p u i2
  have NT := fun u => nameof12_any o.to u i3
  have FW := fun u (hg : Grows w u) => few_bytes A o.b.length c 30 o.b u rfl ((hlb.mono hmw).later hg) hbc (by omega) hcm
  have AR := fun u => around_any o.what 10 u i1 (by omega)
  have hol := hd.ok
  have hlow := hd.low
  have hpl := name12_len o.p
  have hql := name12_len o.to
  have hKo := hK
  generalize hKz : around o.what 10 = K at *
  rw [← hKz] at hKo
  clear hKz
  have h3 := three_b w [rv D.room, sv, lv, wv, rv D.power] [rv o.what, rv o.p, rv o.to, rv o.n, .slice A o.b.length c, .slice A' o.keep.length c'] zeroD 31 38 31 _ rfl
  obtain ⟨b4, b5, b6, g3, s3⟩ := h3
  have hkl : (o.keep.take 20).length = min o.keep.length 20 := by rw [List.length_take]; omega
  have hkt : (min (o.keep.length : Int) 20).toNat = min o.keep.length 20 := by omega
  have hmk : min o.keep.length 20 ≤ 20 ∧ min o.keep.length 20 ≤ o.keep.length := ⟨by omega, by omega⟩
  have hlk20 : Lies w m A' ((o.keep.take 20).map .bool) := fun j u hu => hlk j u (by
    rw [List.getElem?_map, List.getElem?_take] at hu
    split at hu
    · rw [List.getElem?_map]; exact hu
    · cases hu)
  have HDD : doesD D o = D := by unfold doesD; rw [hKo]; simp only; rw [if_neg (by omega), if_neg (by omega), if_neg (by omega), if_neg (by omega), if_pos trivial, if_neg hz]
  generalize hks : o.keep.take 20 = ks at *
  generalize hkz : min o.keep.length 20 = kn at *
  generalize hP : name12 o.p = p at *
  generalize hT : name12 o.to = q at *
  generalize hzw : o.what = zw at *
  generalize hzp : o.p = zp at *
  generalize hzt : o.to = zt at *
  generalize hzn : o.n = zn at *
  generalize hkL : o.keep.length = kl at *
  generalize hbL : o.b.length = bl at *
  have hdl : (o.b.take 30).length = min bl 30 := by rw [List.length_take, hbL]; omega
  generalize hdd : o.b.take 30 = d at *
  have hnb : min bl 30 ≤ 30 := by omega
  generalize hnbz : min bl 30 = nb at *
  clear hP hT hkz hkL hbL hdd hnbz hks hzw hzp hzt hzn
  obtain ⟨w3, hw3⟩ : ∃ w3, w3 = ((w.alloc (.cells [rv D.room, sv, lv, wv, rv D.power].toArray 31)).alloc (.cells [rv zw, rv zp, rv zt, rv zn, .slice A bl c, .slice A' kl c'].toArray 38)).alloc (.cells zeroD.toArray 31) := ⟨_, rfl⟩
  rw [← hw3] at b4 b5 b6 g3 s3
  have HW3 := Lib.hid hw3
  clear hw3
  go_enter Try.func8, Try.ntmps8
  go_wp2_with fail
  change Calls _ _ _ (((w.alloc (.cells [rv D.room, sv, lv, wv, rv D.power].toArray 31)).alloc (.cells [rv zw, rv zp, rv zt, rv zn, .slice A bl c, .slice A' kl c'].toArray 38)).alloc (.cells zeroD.toArray 31)) _
  rw [← HW3.out, show w.heap.size + 1 + 1 = w.heap.size + 2 from rfl]
  clear HW3
  generalize hB4 : w.heap.size = B4 at *
  generalize hB5 : B4 + 1 = B5 at *
  generalize hB6 : B4 + 2 = B6 at *
  have HB := Lib.hid (show B5 = B4 + 1 ∧ B6 = B4 + 2 ∧ w.heap.size = B4 from ⟨hB5.symm, hB6.symm, hB4⟩)
  clear hB4 hB5 hB6
  refine (NP w3).mono ?_
  rintro e w4 ⟨rfl, g4⟩
  have y4 := (b5.later g4).cell (k := 4) rfl
  go_wp2_with fail
  refine (FW w4 (Grows.trans g3 g4)).mono ?_
  rintro e w5 ⟨Ab, cb, rfl, hcb, hown, hL5, g5⟩
  have y0 := (b5.later (Grows.trans g4 g5)).cell (k := 0) rfl
  have y5 := (b5.later (Grows.trans g4 g5)).cell (k := 5) rfl
  have F5 := fresh_own hown (Nat.le_refl _)
  clear y4 hown
  go_wp2_with fail
  refine (AR w5).mono ?_
  rintro e w6 ⟨rfl, rfl⟩
  have G5 : Grows w w5 := Grows.trans g3 (Grows.trans g4 g5)
  have h34 := (Grows.trans g4 g5).size
  have b4 := b4.later (Grows.trans g4 g5)
  have b5 := b5.later (Grows.trans g4 g5)
  have b6 := b6.later (Grows.trans g4 g5)
  have x0 := b4.cell (k := 0) rfl
  have x1 := b4.cell (k := 1) rfl
  have x2 := b4.cell (k := 2) rfl
  have x3 := b4.cell (k := 3) rfl
  have x4 := b4.cell (k := 4) rfl
  have y2 := b5.cell (k := 2) rfl
  have y3 := b5.cell (k := 3) rfl
  have hs5 : B6 < w5.heap.size ∧ B4 < B6 ∧ B4 < w5.heap.size := by have := HB.out; omega
  clear y0 y5 g3 g4 g5 h34 s3 AR NP FW hkt hbc hlb
  subst hK
  have hd3 : (decide (zn.tmod 2 = 0)) = false := by simpa using hz
  have hd3' : (!(decide (zn.tmod 2 = 0))) = true := by simpa using hz
  have hone := dL_one hr
  unfold dL at hone
  have HD : Hid (doesD D o = D) := by exact HDD
  clear hKo
  go_wp2_with (refine wpList_storeT rfl 31 (.tmp 6) (.tmp 110) rfl B6 _ [rv D.room, sv, lv, wv, rv D.power] 5 rfl rfl b6 rfl rfl d_size hone ?_; intro w12 b12 t12)
  (try simp only [Exit.inBlock, Exit.then])
  refine bodyPost_ret (res_has_two (vs := [rv D.room, sv, lv, wv, rv D.power]) Try.results8 _ rfl Try.underlying31 rfl d_size b12) rfl ?_
  have xB6 : Xn w w5 X B6 := ⟨.inr (by have := HB.out; omega), by have := HB.out; omega⟩
  have xok : ∀ k, ok k → Xn w w5 X k := fun k hk => ⟨.inl (hok k hk), by have := HB.out; have := hX k (hok k hk); have := G5.size; omega⟩
  refine ⟨sv, lv, wv, Xn w w5 X, by rw [HD.out]; simp [dV], by rw [HD.out]; exact ((hd.more (X' := Xn w w5 X) (fun k hk => hk.1)).later G5).turned t12 (fun k e h => h.2 (by rw [e]; exact xB6)), by rw [HD.out]; exact ((hr.later G5).turned t12 (fun k hk e => by have := HB.out; have := hX k (hok k hk); omega)).mono (fun k hk => ⟨xok k hk, .inl hk⟩), fun k hk => Nat.lt_of_lt_of_le hk.2 t12.size, fun k hk => ⟨.inl hk, by have := HB.out; have := hX k hk; have := G5.size; omega⟩, fun k hk => hk.1, (Turns.of_grows G5).then_ t12 (fun k hk e => by have := HB.out; omega)⟩
end Go.Proofs.Ytbcldknecdbemaa

/-
  Law 12's does: Read.
-/
namespace Go.Proofs.Ytbcldknecdbemaa
open Go.RowKit
set_option linter.unusedVariables false
set_option maxRecDepth 20000

set_option maxHeartbeats 4000000 in
theorem does_9 (D : Dk) (sv lv wv : Value) (a m : Nat) (X ok : Nat → Prop) (w : World) (o : Deed) (A A' : Option Addr) (c c' : Nat) (h : DoesIn D sv lv wv a m X ok w o A A' c c') (hK : around o.what 10 = 9) :
    Calls Try.prog 8 #[.pointer (some ⟨a, 0, none⟩), dV D sv lv wv, .agg #[rv o.what, rv o.p, rv o.to, rv o.n, .slice A o.b.length c, .slice A' o.keep.length c']] w fun e w' => DoesOut (doesD D o) a m X ok w e w' := by
  obtain ⟨hd, hr, hX, hok, hbc, hcm, hlb, hkc, hkm, hlk, i1, i2, i3, i4, hW, hn, hs, hp, hrm⟩ := h
  have hDL := dL_one hr
  unfold dL at hDL
  have hmw := hd.pos
  have NP := fun u => nameof12_any o.p u i2
  have NT := fun u => nameof12_any o.to u i3
  have FW := fun u (hg : Grows w u) => few_bytes A o.b.length c 30 o.b u rfl ((hlb.mono hmw).later hg) hbc (by omega) hcm
  have AR := fun u => around_any o.what 10 u i1 (by omega)
  have hol := hd.ok
  have hlow := hd.low
  have hpl := name12_len o.p
  have hql := name12_len o.to
  have hKo := hK
  generalize hKz : around o.what 10 = K at *
  rw [← hKz] at hKo
  clear hKz
  have h3 := three_b w [rv D.room, sv, lv, wv, rv D.power] [rv o.what, rv o.p, rv o.to, rv o.n, .slice A o.b.length c, .slice A' o.keep.length c'] zeroD 31 38 31 _ rfl
  obtain ⟨b4, b5, b6, g3, s3⟩ := h3
  have hkl : (o.keep.take 20).length = min o.keep.length 20 := by rw [List.length_take]; omega
  have hkt : (min (o.keep.length : Int) 20).toNat = min o.keep.length 20 := by omega
  have hmk : min o.keep.length 20 ≤ 20 ∧ min o.keep.length 20 ≤ o.keep.length := ⟨by omega, by omega⟩
  have hlk20 : Lies w m A' ((o.keep.take 20).map .bool) := fun j u hu => hlk j u (by
    rw [List.getElem?_map, List.getElem?_take] at hu
    split at hu
    · rw [List.getElem?_map]; exact hu
    · cases hu)
  have HDD : doesD D o = D := by unfold doesD; rw [hKo]; rfl
  generalize hks : o.keep.take 20 = ks at *
  generalize hkz : min o.keep.length 20 = kn at *
  generalize hP : name12 o.p = p at *
  generalize hT : name12 o.to = q at *
  generalize hzw : o.what = zw at *
  generalize hzp : o.p = zp at *
  generalize hzt : o.to = zt at *
  generalize hzn : o.n = zn at *
  generalize hkL : o.keep.length = kl at *
  generalize hbL : o.b.length = bl at *
  have hdl : (o.b.take 30).length = min bl 30 := by rw [List.length_take, hbL]; omega
  generalize hdd : o.b.take 30 = d at *
  have hnb : min bl 30 ≤ 30 := by omega
  generalize hnbz : min bl 30 = nb at *
  clear hP hT hkz hkL hbL hdd hnbz hks hzw hzp hzt hzn
  obtain ⟨w3, hw3⟩ : ∃ w3, w3 = ((w.alloc (.cells [rv D.room, sv, lv, wv, rv D.power].toArray 31)).alloc (.cells [rv zw, rv zp, rv zt, rv zn, .slice A bl c, .slice A' kl c'].toArray 38)).alloc (.cells zeroD.toArray 31) := ⟨_, rfl⟩
  rw [← hw3] at b4 b5 b6 g3 s3
  have HW3 := Lib.hid hw3
  clear hw3
  go_enter Try.func8, Try.ntmps8
  go_wp2_with fail
  change Calls _ _ _ (((w.alloc (.cells [rv D.room, sv, lv, wv, rv D.power].toArray 31)).alloc (.cells [rv zw, rv zp, rv zt, rv zn, .slice A bl c, .slice A' kl c'].toArray 38)).alloc (.cells zeroD.toArray 31)) _
  rw [← HW3.out, show w.heap.size + 1 + 1 = w.heap.size + 2 from rfl]
  clear HW3
  generalize hB4 : w.heap.size = B4 at *
  generalize hB5 : B4 + 1 = B5 at *
  generalize hB6 : B4 + 2 = B6 at *
  have HB := Lib.hid (show B5 = B4 + 1 ∧ B6 = B4 + 2 ∧ w.heap.size = B4 from ⟨hB5.symm, hB6.symm, hB4⟩)
  clear hB4 hB5 hB6
  refine (NP w3).mono ?_
  rintro e w4 ⟨rfl, g4⟩
  have y4 := (b5.later g4).cell (k := 4) rfl
  go_wp2_with fail
  refine (FW w4 (Grows.trans g3 g4)).mono ?_
  rintro e w5 ⟨Ab, cb, rfl, hcb, hown, hL5, g5⟩
  have y0 := (b5.later (Grows.trans g4 g5)).cell (k := 0) rfl
  have y5 := (b5.later (Grows.trans g4 g5)).cell (k := 5) rfl
  have F5 := fresh_own hown (Nat.le_refl _)
  clear y4 hown
  go_wp2_with fail
  refine (AR w5).mono ?_
  rintro e w6 ⟨rfl, rfl⟩
  have G5 : Grows w w5 := Grows.trans g3 (Grows.trans g4 g5)
  have h34 := (Grows.trans g4 g5).size
  have b4 := b4.later (Grows.trans g4 g5)
  have b5 := b5.later (Grows.trans g4 g5)
  have b6 := b6.later (Grows.trans g4 g5)
  have x0 := b4.cell (k := 0) rfl
  have x1 := b4.cell (k := 1) rfl
  have x2 := b4.cell (k := 2) rfl
  have x3 := b4.cell (k := 3) rfl
  have x4 := b4.cell (k := 4) rfl
  have y2 := b5.cell (k := 2) rfl
  have y3 := b5.cell (k := 3) rfl
  have hs5 : B6 < w5.heap.size ∧ B4 < B6 ∧ B4 < w5.heap.size := by have := HB.out; omega
  clear y0 y5 g3 g4 g5 h34 s3 AR NP FW hkt hbc hlb
  subst hK
  have HD : Hid (doesD D o = D) := by exact HDD
  clear hKo
  have SD := read_d a m X D w5 p (hd.later G5) (by omega)
  have SR := fun u (h : Grows w5 u) => read_r D sv lv wv u ok p (hr.later (Grows.trans G5 h)) (by omega)
  generalize readD D p = R at *
  obtain ⟨xb, r⟩ := R
  simp only at SR SD
  go_wp2_with fail
  refine SD.mono ?_
  rintro e w7 ⟨v7, rfl, F7, g7⟩
  have b4 := b4.later g7
  have b6 := b6.later g7
  have x0 := b4.cell (k := 0) rfl
  have x1 := b4.cell (k := 1) rfl
  have x2 := b4.cell (k := 2) rfl
  have x3 := b4.cell (k := 3) rfl
  have x4 := b4.cell (k := 4) rfl
  go_wp2_with fail
  refine (SR w7 g7).mono ?_
  rintro e w9 ⟨rfl, g9⟩
  obtain ⟨A7, c7, rfl, _⟩ := F7.lies
  have b4 := b4.later g9
  have b6 := b6.later g9
  have G59 := Grows.trans g7 g9
  have G9 := Grows.trans G5 G59
  have gd := (Grows.refl w9).drew
  have h46 : B4 ≠ B6 := by have := HB.out; omega
  have hone := dL_one hr
  unfold dL at hone
  have ldn : ∀ u, Turns (fun k => k = B6) w9.drew u → (Instr.loadAt 31 (.pointer (some ⟨B4, 0, none⟩))).run Try.prog u = .ok (dV D sv lv wv) u := fun u h => ((b4.later gd).turned h h46).load Try.underlying31 rfl d_size
  have hn6 : ∀ k, w5.heap.size ≤ k → ¬ k = B6 := fun k hk => by have := HB.out; omega
  have cs : ∀ u, Turns (fun k => k = B6) w9.drew u → (convert 35 9 (.slice A7 xb.length c7)).run Try.prog u = .ok (tv xb) u := fun u h => (((F7.later g9).later gd).turned h (fun k h1 _ => hn6 k h1)).text
  have hO := Turns.refl (fun k => k = B6) w9.drew
  clear x0 x1 x2 x3 x4 y2 y3 SD SR F5 F7
  go_wp2_with fail
  refine wp_region_callw (S := fun k => k = B6) 12 [(0, true), (1, true), (2, true), (3, true), (4, true), (5, true), (6, true), (7, true), (8, true), (9, true), (10, false), (11, true)] (by kernel_rfl) (by kernel_rfl) ?_
  repeat (first | (refine orc_load hO _ _ (by simp only [List.getElem?_cons_succ, List.getElem?_cons_zero]; rfl) (by rfl) 31 (.tmp 4) (by rfl) _ (by rfl) ldn ?_; try simp only [Act.put, List.setIfInBounds_toArray, List.set_cons_zero, List.set_cons_succ]) | (refine orc_take hO _ ?_ (by simp only [List.getElem?_cons_succ, List.getElem?_cons_zero]; rfl) (by rfl) ?_ ?_; rotate_left; (· (intro u hu0 hu; (try go_simp); (try with_reducible rfl))); try simp only [Act.put, List.setIfInBounds_toArray, List.set_cons_zero, List.set_cons_succ]))
  refine orc_move _ (by simp only [List.getElem?_cons_succ, List.getElem?_cons_zero]; rfl) (by rfl) (fun u3 hu3 K hK => ?_)
  have gu := Grows.trans gd hu3
  have b6 := b6.later gu
  have G3 := Grows.trans G9 gu
  refine op_storeT 31 (.tmp 6) (.tmp 131) rfl B6 _ [rv D.room, sv, lv, wv, rv D.power] 5 rfl rfl b6 rfl rfl d_size hone ?_
  intro w12 b12 t12
  refine hK.out _ _ t12 ?_
  clear hK K hO
  have hO := Turns.refl (fun k => k = B6) w12
  repeat (refine orc_take hO _ ?_ (by simp only [List.getElem?_cons_succ, List.getElem?_cons_zero]; rfl) (by rfl) ?_ ?_; rotate_left; (· (intro u hu0 hu; (try go_simp); (try with_reducible rfl))); try simp only [Act.put, List.setIfInBounds_toArray, List.set_cons_zero, List.set_cons_succ])
  refine orc_done (fun u5 hu5 => ?_)
  simp only [List.drop_succ_cons, List.drop_zero]
  have b12 := b12.later hu5
  clear hO
  go_wp2_with fail
  refine NoPanic.normal ?_
  go_wp2_with fail
  (try simp only [Exit.inBlock, Exit.then])
  refine bodyPost_ret (res_has_two (vs := [rv D.room, sv, lv, wv, rv D.power]) Try.results8 _ rfl Try.underlying31 rfl d_size b12) rfl ?_
  have h3s := G3.size
  have h5s := G5.size
  have h53 := (Grows.trans G59 gu).size
  have xB6 : Xn w u3 X B6 := ⟨.inr (by have := HB.out; omega), by have := HB.out; omega⟩
  have xok : ∀ k, ok k → Xn w u3 X k := fun k hk => ⟨.inl (hok k hk), by have := HB.out; have := hX k (hok k hk); omega⟩
  refine ⟨sv, lv, wv, Xn w u3 X, by rw [HD.out]; simp [dV], by rw [HD.out]; exact (((hd.more (X' := Xn w u3 X) (fun k hk => hk.1)).later G3).turned t12 (fun k e h => h.2 (by rw [e]; exact xB6))).later hu5, by rw [HD.out]; exact (((hr.later G3).turned t12 (fun k hk e => by have := HB.out; have := hX k (hok k hk); omega)).mono (fun k hk => ⟨xok k hk, .inl hk⟩)).later hu5, fun k hk => Nat.lt_of_lt_of_le hk.2 (Nat.le_trans t12.size hu5.size), fun k hk => ⟨.inl hk, by have := HB.out; have := hX k hk; omega⟩, fun k hk => hk.1, ((Turns.of_grows G3).then_ t12 (fun k hk e => by have := HB.out; omega)).trans (Turns.of_grows hu5)⟩
end Go.Proofs.Ytbcldknecdbemaa

/-
  Law 12's does: Write.
-/
namespace Go.Proofs.Ytbcldknecdbemaa
open Go.RowKit
set_option linter.unusedVariables false
set_option maxRecDepth 20000

set_option maxHeartbeats 4000000 in
theorem does_W (D : Dk) (sv lv wv : Value) (a m : Nat) (X ok : Nat → Prop) (w : World) (o : Deed) (A A' : Option Addr) (c c' : Nat) (h : DoesIn D sv lv wv a m X ok w o A A' c c') (hK : around o.what 10 < 4) :
    Calls Try.prog 8 #[.pointer (some ⟨a, 0, none⟩), dV D sv lv wv, .agg #[rv o.what, rv o.p, rv o.to, rv o.n, .slice A o.b.length c, .slice A' o.keep.length c']] w fun e w' => DoesOut (doesD D o) a m X ok w e w' := by
  obtain ⟨hd, hr, hX, hok, hbc, hcm, hlb, hkc, hkm, hlk, i1, i2, i3, i4, hW, hn, hs, hp, hrm⟩ := h
  have hDL := dL_one hr
  unfold dL at hDL
  have hmw := hd.pos
  have NP := fun u => nameof12_any o.p u i2
  have NT := fun u => nameof12_any o.to u i3
  have FW := fun u (hg : Grows w u) => few_bytes A o.b.length c 30 o.b u rfl ((hlb.mono hmw).later hg) hbc (by omega) hcm
  have AR := fun u => around_any o.what 10 u i1 (by omega)
  have hol := hd.ok
  have hlow := hd.low
  have hpl := name12_len o.p
  have hql := name12_len o.to
  have hKo := hK
  generalize hKz : around o.what 10 = K at *
  rw [← hKz] at hKo
  clear hKz
  have h3 := three_b w [rv D.room, sv, lv, wv, rv D.power] [rv o.what, rv o.p, rv o.to, rv o.n, .slice A o.b.length c, .slice A' o.keep.length c'] zeroD 31 38 31 _ rfl
  obtain ⟨b4, b5, b6, g3, s3⟩ := h3
  have hkl : (o.keep.take 20).length = min o.keep.length 20 := by rw [List.length_take]; omega
  have hkt : (min (o.keep.length : Int) 20).toNat = min o.keep.length 20 := by omega
  have hmk : min o.keep.length 20 ≤ 20 ∧ min o.keep.length 20 ≤ o.keep.length := ⟨by omega, by omega⟩
  have hlk20 : Lies w m A' ((o.keep.take 20).map .bool) := fun j u hu => hlk j u (by
    rw [List.getElem?_map, List.getElem?_take] at hu
    split at hu
    · rw [List.getElem?_map]; exact hu
    · cases hu)
  have HDD : doesD D o = (writeD D (name12 o.p) (o.b.take 30)).1 := by unfold doesD; simp only; rw [if_neg (by omega), if_neg (by omega), if_neg (by omega), if_neg (by omega), if_neg (by omega), if_neg (by omega)]
  generalize hks : o.keep.take 20 = ks at *
  generalize hkz : min o.keep.length 20 = kn at *
  generalize hP : name12 o.p = p at *
  generalize hT : name12 o.to = q at *
  generalize hzw : o.what = zw at *
  generalize hzp : o.p = zp at *
  generalize hzt : o.to = zt at *
  generalize hzn : o.n = zn at *
  generalize hkL : o.keep.length = kl at *
  generalize hbL : o.b.length = bl at *
  have hdl : (o.b.take 30).length = min bl 30 := by rw [List.length_take, hbL]; omega
  generalize hdd : o.b.take 30 = d at *
  have hnb : min bl 30 ≤ 30 := by omega
  generalize hnbz : min bl 30 = nb at *
  clear hP hT hkz hkL hbL hdd hnbz hks hzw hzp hzt hzn
  obtain ⟨w3, hw3⟩ : ∃ w3, w3 = ((w.alloc (.cells [rv D.room, sv, lv, wv, rv D.power].toArray 31)).alloc (.cells [rv zw, rv zp, rv zt, rv zn, .slice A bl c, .slice A' kl c'].toArray 38)).alloc (.cells zeroD.toArray 31) := ⟨_, rfl⟩
  rw [← hw3] at b4 b5 b6 g3 s3
  have HW3 := Lib.hid hw3
  clear hw3
  go_enter Try.func8, Try.ntmps8
  go_wp2_with fail
  change Calls _ _ _ (((w.alloc (.cells [rv D.room, sv, lv, wv, rv D.power].toArray 31)).alloc (.cells [rv zw, rv zp, rv zt, rv zn, .slice A bl c, .slice A' kl c'].toArray 38)).alloc (.cells zeroD.toArray 31)) _
  rw [← HW3.out, show w.heap.size + 1 + 1 = w.heap.size + 2 from rfl]
  clear HW3
  generalize hB4 : w.heap.size = B4 at *
  generalize hB5 : B4 + 1 = B5 at *
  generalize hB6 : B4 + 2 = B6 at *
  have HB := Lib.hid (show B5 = B4 + 1 ∧ B6 = B4 + 2 ∧ w.heap.size = B4 from ⟨hB5.symm, hB6.symm, hB4⟩)
  clear hB4 hB5 hB6
  refine (NP w3).mono ?_
  rintro e w4 ⟨rfl, g4⟩
  have y4 := (b5.later g4).cell (k := 4) rfl
  go_wp2_with fail
  refine (FW w4 (Grows.trans g3 g4)).mono ?_
  rintro e w5 ⟨Ab, cb, rfl, hcb, hown, hL5, g5⟩
  have y0 := (b5.later (Grows.trans g4 g5)).cell (k := 0) rfl
  have y5 := (b5.later (Grows.trans g4 g5)).cell (k := 5) rfl
  have F5 := fresh_own hown (Nat.le_refl _)
  clear y4 hown
  go_wp2_with fail
  refine (AR w5).mono ?_
  rintro e w6 ⟨rfl, rfl⟩
  have G5 : Grows w w5 := Grows.trans g3 (Grows.trans g4 g5)
  have h34 := (Grows.trans g4 g5).size
  have b4 := b4.later (Grows.trans g4 g5)
  have b5 := b5.later (Grows.trans g4 g5)
  have b6 := b6.later (Grows.trans g4 g5)
  have x0 := b4.cell (k := 0) rfl
  have x1 := b4.cell (k := 1) rfl
  have x2 := b4.cell (k := 2) rfl
  have x3 := b4.cell (k := 3) rfl
  have x4 := b4.cell (k := 4) rfl
  have y2 := b5.cell (k := 2) rfl
  have y3 := b5.cell (k := 3) rfl
  have hs5 : B6 < w5.heap.size ∧ B4 < B6 ∧ B4 < w5.heap.size := by have := HB.out; omega
  clear y0 y5 g3 g4 g5 h34 s3 AR NP FW hkt hbc hlb
  have hus := hol.used
  have SR := write_r D sv lv wv w5 ok p d (hr.later G5) (by omega) (by omega) ⟨hlow, by omega⟩ (by omega) (by omega) hol hrm
  have SD := fun (u : World) (X' : Nat → Prop) (h : Dsk u a m X' D) (hx : ∀ k, X' k → k < u.heap.size) (hl : Lies u u.heap.size Ab (d.map bv)) => write_d a m X' D u p Ab nb cb d h hx hdl hl (by omega) (by omega) hrm
  have cs := F5.text
  obtain ⟨R, hR⟩ : ∃ R, R = writeD D p d := ⟨_, rfl⟩
  have HD : Hid (doesD D o = R.1) := by rw [hR]; exact HDD
  rw [← hR] at SR SD
  clear hR hKo
  obtain ⟨D', r⟩ := R
  simp only at SR SD HD
  have k4 : ((K : Int) == 4) = false := by simp; omega
  have k5 : ((K : Int) == 5) = false := by simp; omega
  have k6 : ((K : Int) == 6) = false := by simp; omega
  have k7 : ((K : Int) == 7) = false := by simp; omega
  have k8 : ((K : Int) == 8) = false := by simp; omega
  have k9 : ((K : Int) == 9) = false := by simp; omega
  clear hK hus
  go_wp2_with fail
  refine SR.mono ?_
  rintro e w7 ⟨sv', wv', rfl, r7, g7⟩
  obtain ⟨lv', hsv⟩ : ∃ x, x = lv := ⟨_, rfl⟩
  rw [← hsv] at r7 ⊢
  clear hsv
  have hone := dL_one r7
  unfold dL at hone
  have hbx := Has.new w7 31 zeroD
  have ga := grows_alloc w7 (.cells zeroD.toArray 31)
  go_wp2_with (refine wpList_storeT rfl 31 (.tmp 21) (.tmp 147) rfl w7.heap.size _ [rv D'.room, sv', lv', wv', rv D'.power] 5 rfl rfl hbx rfl rfl d_size hone ?_; intro w9 b9 t9)
  have h5n := g7.size
  have G59 : Grows w5 w9 := ((Turns.of_grows (S := fun k => w5.heap.size ≤ k) (Grows.trans g7 ga)).trans (t9.mono fun k _ e => by rw [e]; exact h5n)).grows (fun k h1 h2 => by omega)
  have hs9 : w7.heap.size < w9.heap.size := b9.lt
  have r9 := (((r7.cut).later ga).turned t9 (fun k hk e => by have := hk.2; omega)).mono (ok' := fun k => (ok k ∨ w5.heap.size ≤ k) ∧ k < w9.heap.size ∧ k ≠ w7.heap.size) (fun k hk => ⟨hk.1, by have := hk.2; omega, by have := hk.2; omega⟩)
  clear hbx ga t9 hr
  generalize w7.heap.size = nx at *
  have G9 := Grows.trans G5 G59
  have b5 := b5.later G59
  have b6 := b6.later G59
  have xB6 : Xn w w9 X B6 := ⟨.inr (by have := HB.out; omega), by have := HB.out; omega⟩
  have xB5 : Xn w w9 X B5 := ⟨.inr (by have := HB.out; omega), by have := HB.out; omega⟩
  have xB : Xn w w9 X nx := ⟨.inr (by have := HB.out; omega), by omega⟩
  have d9 := (hd.more (X' := Xn w w9 X) (fun k hk => hk.1)).later G9
  have r9 := r9.mono (ok' := fun k => (Xn w w9 X k ∧ (ok k ∨ w.heap.size ≤ k)) ∧ k ≠ B6) (fun k hk => by
    obtain ⟨hk | hk, h2, h3⟩ := hk <;> have := HB.out
    · exact ⟨⟨⟨.inl (hok k hk), h2⟩, .inl hk⟩, by have := hX k (hok k hk); omega⟩
    · exact ⟨⟨⟨.inr (by omega), h2⟩, .inr (by omega)⟩, by omega⟩)
  have gd := (Grows.refl w9).drew
  have hn6 : nx ≠ B6 := by have := HB.out; omega
  have hm6 : m ≤ B6 := by have := HB.out; omega
  have ldn : ∀ u, Turns (fun k => (m ≤ k ∧ ¬ Xn w w9 X k) ∨ k = B6) w9.drew u → (Instr.loadAt 31 (.pointer (some ⟨nx, 0, none⟩))).run Try.prog u = .ok (dV D' sv' lv' wv') u := fun u h => ((b9.later gd).turned h (fun e => e.elim (fun e => e.2 xB) hn6)).load Try.underlying31 rfl d_size
  have hO := Turns.refl (fun k => (m ≤ k ∧ ¬ Xn w w9 X k) ∨ k = B6) w9.drew
  refine wp_region_callw (S := fun k => (m ≤ k ∧ ¬ Xn w w9 X k) ∨ k = B6) 9 [(0, true), (1, true), (2, true), (3, true), (5, true), (4, false), (6, true), (7, false), (8, true)] (by kernel_rfl) (by kernel_rfl) ?_
  repeat (first | (refine orc_load hO _ _ (by simp only [List.getElem?_cons_succ, List.getElem?_cons_zero]; rfl) (by rfl) 31 (.tmp 21) (by rfl) _ (by rfl) ldn ?_; try simp only [Act.put, List.setIfInBounds_toArray, List.set_cons_zero, List.set_cons_succ]) | (refine orc_take hO _ ?_ (by simp only [List.getElem?_cons_succ, List.getElem?_cons_zero]; rfl) (by rfl) ?_ ?_; rotate_left; (· (intro u hu0 hu; (try go_simp); (try with_reducible rfl))); try simp only [Act.put, List.setIfInBounds_toArray, List.set_cons_zero, List.set_cons_succ]))
  refine orc_move _ (by simp only [List.getElem?_cons_succ, List.getElem?_cons_zero]; rfl) (by rfl) (fun u hu K hK => ?_)
  go_simp
  have gu := Grows.trans gd hu
  refine (SD u _ (d9.later gu) (fun k hk => Nat.lt_of_lt_of_le hk.2 gu.size) (hL5.later (Grows.trans G59 gu))).mono ?_
  rintro e v1 ⟨rfl, d1, t1⟩
  refine hK.out _ _ (t1.mono fun k _ e => .inl e) ?_
  clear hK K ldn hO
  have hO := Turns.refl (fun k => (m ≤ k ∧ ¬ Xn w w9 X k) ∨ k = B6) v1
  repeat (refine orc_take hO _ ?_ (by simp only [List.getElem?_cons_succ, List.getElem?_cons_zero]; rfl) (by rfl) ?_ ?_; rotate_left; (· (intro u hu0 hu; (try go_simp); (try with_reducible rfl))); try simp only [Act.put, List.setIfInBounds_toArray, List.set_cons_zero, List.set_cons_succ])
  refine orc_move _ (by simp only [List.getElem?_cons_succ, List.getElem?_cons_zero]; rfl) (by rfl) (fun u3 hu3 K hK => ?_)
  have b6 := (((b6.later gu).turned t1 (fun e => e.2 xB6)).later hu3)
  have r3 := ((r9.later gu).turned t1 (fun k hk e => e.2 hk.1.1)).later hu3
  have d3 := d1.later hu3
  have T3 : Turns (fun k => m ≤ k ∧ ¬ X k) w u3 := ((Turns.of_grows (Grows.trans G9 gu)).then_ t1 (fun k hk e => ⟨e.1, fun hx => e.2 ⟨.inl hx, Nat.lt_of_lt_of_le hk G9.size⟩⟩)).trans (Turns.of_grows hu3)
  have hsz := ((Turns.of_grows (S := fun k => m ≤ k ∧ ¬ Xn w w9 X k) gu).trans (t1.trans (Turns.of_grows hu3))).size
  clear d1 t1 hu3 b9 hO
  refine op_storeT 31 (.tmp 6) (.tmp 149) rfl B6 _ [rv D'.room, sv', lv', wv', rv D'.power] 5 rfl rfl b6 rfl rfl d_size hone ?_
  intro w12 b12 t12
  refine hK.out _ _ (t12.mono fun k _ e => .inr e) ?_
  clear hK K
  have hO := Turns.refl (fun k => (m ≤ k ∧ ¬ Xn w w9 X k) ∨ k = B6) w12
  repeat (refine orc_take hO _ ?_ (by simp only [List.getElem?_cons_succ, List.getElem?_cons_zero]; rfl) (by rfl) ?_ ?_; rotate_left; (· (intro u hu0 hu; (try go_simp); (try with_reducible rfl))); try simp only [Act.put, List.setIfInBounds_toArray, List.set_cons_zero, List.set_cons_succ])
  refine orc_done (fun u5 hu5 => ?_)
  simp only [List.drop_succ_cons, List.drop_zero]
  clear hO
  have b12 := b12.later hu5
  go_wp2_with fail
  refine NoPanic.normal ?_
  go_wp2_with fail
  (try simp only [Exit.inBlock, Exit.then])
  refine bodyPost_ret (res_has_two (vs := [rv D'.room, sv', lv', wv', rv D'.power]) Try.results8 _ rfl Try.underlying31 rfl d_size b12) rfl ?_
  refine ⟨sv', lv', wv', Xn w w9 X, by rw [HD.out]; simp [dV], by rw [HD.out]; exact (d3.turned t12 (fun k e h => h.2 (by rw [e]; exact xB6))).later hu5, by rw [HD.out]; exact ((r3.turned t12 (fun k hk e => hk.2 e)).mono (fun k hk => hk.1)).later hu5, fun k hk => Nat.lt_of_lt_of_le hk.2 (Nat.le_trans hsz (Nat.le_trans t12.size hu5.size)), fun k hk => ⟨.inl hk, by have := HB.out; have := hX k hk; have := G9.size; omega⟩, fun k hk => hk.1, (T3.then_ t12 (fun k hk e => by have := HB.out; omega)).trans (Turns.of_grows hu5)⟩
end Go.Proofs.Ytbcldknecdbemaa

/-
  Law 12's does, whatever is done; what it keeps.
-/
namespace Go.Proofs.Ytbcldknecdbemaa
open Go.RowKit
set_option linter.unusedVariables false
set_option maxRecDepth 20000

theorem does_any (D : Dk) (sv lv wv : Value) (a m : Nat) (X ok : Nat → Prop) (w : World) (o : Deed) (A A' : Option Addr) (c c' : Nat) (h : DoesIn D sv lv wv a m X ok w o A A' c c') :
    Calls Try.prog 8 #[.pointer (some ⟨a, 0, none⟩), dV D sv lv wv, .agg #[rv o.what, rv o.p, rv o.to, rv o.n, .slice A o.b.length c, .slice A' o.keep.length c']] w fun e w' => DoesOut (doesD D o) a m X ok w e w' := by
  have hlt : around o.what 10 < 10 := around_lt _ (by omega)
  by_cases h0 : around o.what 10 < 4
  · exact does_W D sv lv wv a m X ok w o A A' c c' h h0
  · have h1 : around o.what 10 = 4 ∨ around o.what 10 = 5 ∨ around o.what 10 = 6 ∨ around o.what 10 = 7 ∨ around o.what 10 = 8 ∨ around o.what 10 = 9 := by omega
    rcases h1 with h1 | h1 | h1 | h1 | h1 | h1
    · exact does_4 D sv lv wv a m X ok w o A A' c c' h h1
    · exact does_5 D sv lv wv a m X ok w o A A' c c' h h1
    · exact does_6 D sv lv wv a m X ok w o A A' c c' h h1
    · by_cases hz : Int.tmod o.n 3 = 0
      · exact does_7 D sv lv wv a m X ok w o A A' c c' h h1 hz
      · exact does_7n D sv lv wv a m X ok w o A A' c c' h h1 hz
    · by_cases hz : Int.tmod o.n 2 = 0
      · exact does_8 D sv lv wv a m X ok w o A A' c c' h h1 hz
      · exact does_8n D sv lv wv a m X ok w o A A' c c' h h1 hz
    · exact does_9 D sv lv wv a m X ok w o A A' c c' h h1

/-- How far a disk may be from the bounds behind j deeds. -/
structure Wee (j : Nat) (D : Dk) : Prop where
  wt : D.weight ≤ 1000 + 30 * j
  wl : D.waits.length ≤ j
  ll : D.lasts.length ≤ j
  pw : D.power ≤ 10
theorem len_fPut (S : Fls) (p b : Byts) : (fPut S p b).length ≤ S.length + 1 := by
  rw [(fPut_perm S).length_eq]
  have := (fDel_sub S p).length_le
  simp only [List.length_cons]; omega
theorem len_mk (S : Fls) (c : Chg) : (mkF S c).length ≤ S.length + 1 := by
  cases c with
  | wr p b => exact len_fPut S p b
  | rn p q =>
    show (match fGet S p with | none => S | some b => fPut (fDel S p) q b).length ≤ _
    split
    · omega
    · have := len_fPut (fDel S p) q (by assumption)
      have := (fDel_sub S p).length_le
      omega
  | rm p => have := (fDel_sub S p).length_le; show (fDel S p).length ≤ _; omega
theorem len_mks : ∀ (l : List Chg) (S : Fls), (l.foldl mkF S).length ≤ S.length + l.length
  | [], S => Nat.le_refl _
  | c :: r, S => by
    have := len_mks r (mkF S c)
    have := len_mk S c
    simp only [List.foldl_cons, List.length_cons]; omega
theorem len_rst : ∀ (l : List Chg) (ks : List Bool) (S : Fls), (rstF l ks S).length ≤ S.length + l.length
  | [], ks, S => Nat.le_refl _
  | c :: r, ks, S => by
    unfold rstF
    split
    · cases c with
      | wr p b => have := len_rst r ks.tail.tail (fPut S p (if ks.tail.headD false = true then b else halfB b)); have := len_fPut S p (if ks.tail.headD false = true then b else halfB b); simp only [List.length_cons]; omega
      | rn p q => have := len_rst r ks.tail (mkF S (.rn p q)); have := len_mk S (.rn p q); simp only [List.length_cons]; omega
      | rm p => have := len_rst r ks.tail (mkF S (.rm p)); have := len_mk S (.rm p); simp only [List.length_cons]; omega
    · have := len_rst r ks.tail S; simp only [List.length_cons]; omega
theorem Dk.Ok.slen {D : Dk} (h : D.Ok) : D.seen.length ≤ D.lasts.length + D.waits.length := by rw [h.seen]; exact len_mks _ _
/-- lasts and waits together. -/
def Dk.many (D : Dk) : Nat := D.lasts.length + D.waits.length
structure Wee2 (j : Nat) (D : Dk) : Prop where
  wt : D.weight ≤ 1000 + 30 * j
  mn : D.many ≤ j
  pw : D.power ≤ 10
  rm : 1 ≤ D.room ∧ D.room ≤ 1048576
theorem pow_do (D : Dk) (c : Chg) (h : D.power ≤ 10) : (D.do_ c).power ≤ 10 := by
  show (if 0 < D.power then D.power - 1 else D.power) ≤ 10
  split <;> omega
theorem many_do (D : Dk) (c : Chg) : (D.do_ c).many = D.many + 1 := by
  show D.lasts.length + (D.waits ++ [c]).length = D.lasts.length + D.waits.length + 1
  rw [List.length_append]; rfl
theorem wee_do {j : Nat} {D : Dk} {c : Chg} (h : Wee2 j D) (hc : c.data ≤ 30) : Wee2 (j + 1) (D.do_ c) :=
  ⟨by rw [weight_do]; have := h.wt; omega, by rw [many_do]; have := h.mn; omega, pow_do D c h.pw, h.rm⟩
theorem Wee2.up {j : Nat} {D : Dk} (h : Wee2 j D) : Wee2 (j + 1) D := ⟨by have := h.wt; omega, by have := h.mn; omega, h.pw, h.rm⟩
theorem wee_does {j : Nat} {D : Dk} (o : Deed) (h : Wee2 j D) (hok : D.Ok) : Wee2 (j + 1) (doesD D o) ∧ (doesD D o).Ok := by
  unfold doesD
  simp only
  split
  · refine ⟨?_, hok.rename _ _⟩
    unfold renameD
    (repeat' split) <;> first | exact h.up | exact wee_do h (by show (0 : Nat) ≤ 30; omega)
  split
  · refine ⟨?_, hok.remove _⟩
    unfold removeD
    (repeat' split) <;> first | exact h.up | exact wee_do h (by show (0 : Nat) ≤ 30; omega)
  split
  · refine ⟨⟨Nat.le_trans (weight_sync hok) (by have := h.wt; omega), ?_, ?_, by rw [room_sync]; exact h.rm⟩, hok.sync⟩
    · unfold syncD
      split
      · have := h.mn; exact Nat.le_succ_of_le this
      · have h1 := hok.slen
        have h2 := h.mn
        unfold Dk.many at *
        show D.seen.length + 0 ≤ j + 1
        omega
    · unfold syncD
      have := h.pw
      split
      · exact h.pw
      · show (if 0 < D.power then D.power - 1 else D.power) ≤ 10
        split <;> omega
  split
  · split
    · have h7 : Int.tmod o.n 7 < 7 := Int.tmod_lt_of_pos _ (by omega)
      exact ⟨⟨by have := h.wt; show D.weight ≤ _; omega, by have := h.mn; show D.many ≤ _; omega, by show max (Int.tmod o.n 7 - 1) (-1) ≤ 10; omega, h.rm⟩, ⟨hok.lasts, hok.seen⟩⟩
    · exact ⟨h.up, hok⟩
  split
  · split
    · refine ⟨⟨Nat.le_trans (weight_restart hok _) (by have := h.wt; omega), ?_, by show (-1 : Int) ≤ 10; omega, h.rm⟩, hok.restart _⟩
      have := len_rst D.waits (o.keep.take 20) D.lasts
      have h2 := h.mn
      unfold Dk.many at *
      show (rstF D.waits (o.keep.take 20) D.lasts).length + 0 ≤ j + 1
      omega
    · exact ⟨h.up, hok⟩
  split
  · exact ⟨h.up, hok⟩
  · refine ⟨?_, hok.write _ _⟩
    unfold writeD
    (repeat' split) <;> first | exact h.up | exact wee_do h (by show (o.b.take 30).length ≤ 30; rw [List.length_take]; omega)
end Go.Proofs.Ytbcldknecdbemaa

/-
  A region that draws its order (of no program), walked by a plan: as Ord's order, but where two makers of memory may come up, both ways are walked.
-/
namespace Go.Proofs.Ytbcldknecdbemaa
open Go.RowKit
set_option linter.unusedVariables false
set_option maxRecDepth 20000

/-- fin: what is left comes in the text's order; take i: taken as soon as it may come up; one i: nobody else may come up; two i p j q: i or j comes up, and nobody else. -/
inductive Plan where
  | fin : Plan
  | take : Nat → Plan → Plan
  | one : Nat → Plan → Plan
  | two : Nat → Plan → Nat → Plan → Plan
def Plan.len : Plan → Nat
  | .fin => 0
  | .take _ p => p.len + 1
  | .one _ p => p.len + 1
  | .two _ p _ _ => p.len + 1

section
variable {P : Program} {ops : Array Oper} {Q : Exit → Act → World → Prop} {md : Region.Mode}
def planB (md : Region.Mode) (ops : Array Oper) (n g : Nat) : Plan → Array Bool → Bool
  | .fin, listed => Region.seqB md ops g n listed
  | .take i p, listed => decide (i < n) && (Region.ready md ops listed).contains i && Region.free md ops listed i && planB md ops n g p (listed.setIfInBounds i true)
  | .one i p, listed => decide (i < n) && (Region.ready md ops listed == [i]) && planB md ops n g p (listed.setIfInBounds i true)
  | .two i p j q, listed => decide (i < n) && decide (j < n) && (Region.ready md ops listed == [i, j]) && (p.len == q.len) && planB md ops n g p (listed.setIfInBounds i true) && planB md ops n g q (listed.setIfInBounds j true)
def wpPlan (P : Program) (ops : Array Oper) (Q : Exit → Act → World → Prop) (E : Act → World → Prop) : Plan → Act → World → Prop
  | .fin, a, w => ∀ u, Grows w u → E a u
  | .take i p, a, w => ∃ o v, ops[i]? = some o ∧ YieldsG P ops w o v a ∧ wpPlan P ops Q E p (a.put o.dst v) w
  | .one i p, a, w => ∀ u, Grows w u → wpOp P ops Q i (fun a' u' => Grows u u' ∧ wpPlan P ops Q E p a' u') a u
  | .two i p j q, a, w => (∀ u, Grows w u → wpOp P ops Q i (fun a' u' => Grows u u' ∧ wpPlan P ops Q E p a' u') a u) ∧ (∀ u, Grows w u → wpOp P ops Q j (fun a' u' => Grows u u' ∧ wpPlan P ops Q E q a' u') a u)

theorem wpAnyU_of_plan {n g : Nat} {E : Act → World → Prop} (hs : Region.noSelect ops = true) (hQ : ∀ c a d v w, Q (.panic c) (Act.put a d v) w → Q (.panic c) a w)
    (hwait : ∀ i, i < n → ∀ listed, HeadInv md ops n listed → listed.getD i true = false → ∀ j ∈ Region.ready md ops listed, j < n) :
    ∀ (s : Plan) (listed : Array Bool) (a : Act) (w : World), HeadInv md ops n listed → planB md ops n g s listed = true → wpPlan P ops Q E s a w →
      wpAnyU P md ops Q n (fun listed' a' w' => Region.seqB md ops g n listed' = true ∧ ∀ u, Grows w' u → E a' u) s.len listed a w
  | .fin, listed, a, w, inv, hB, h => ⟨hB, h⟩
  | .take i s, listed, a, w, inv, hB, h => by
    simp only [planB, Bool.and_eq_true, decide_eq_true_eq] at hB
    obtain ⟨⟨⟨hin, hr⟩, hf⟩, hB'⟩ := hB
    obtain ⟨o, v, ho, hy, h'⟩ := h
    have hr' : i ∈ Region.ready md ops listed := by simpa using hr
    exact wpAnyU_first ho (Region.noSelect_spec hs) (fun c a w => hQ c a o.dst v w) hin (hwait i hin) (fun _ _ _ _ hg hl => ⟨hl.1, fun u hu => hl.2 u (Grows.trans hg hu)⟩) (fun _ _ _ hl => seqB_ready hl.1)
      s.len listed a w inv (Region.free_spec ho hf) hr' hy (wpAnyU_of_plan hs hQ hwait s _ _ w (inv.set hr' hin) hB' h')
  | .one i s, listed, a, w, inv, hB, h => by
    simp only [planB, Bool.and_eq_true, decide_eq_true_eq] at hB
    obtain ⟨⟨hin, hr⟩, hB'⟩ := hB
    have hr' : Region.ready md ops listed = [i] := by simpa using hr
    have hm : i ∈ Region.ready md ops listed := by rw [hr']; simp
    refine ⟨fun h0 => (by rw [hr'] at h0; cases h0), fun j hj => ?_⟩
    rw [hr'] at hj
    have hji : j = i := by simpa using hj
    subst hji
    exact ⟨hin, fun u hu => wpOp_mono (fun a' w' h' => ⟨h'.1, wpAnyU_of_plan hs hQ hwait s _ a' w' (inv.set hm hin) hB' h'.2⟩) (h u hu)⟩
  | .two i s j t, listed, a, w, inv, hB, h => by
    simp only [planB, Bool.and_eq_true, decide_eq_true_eq, beq_iff_eq] at hB
    obtain ⟨⟨⟨⟨⟨hin, hjn⟩, hr'⟩, hlen⟩, hB1⟩, hB2⟩ := hB
    have hmi : i ∈ Region.ready md ops listed := by rw [hr']; simp
    have hmj : j ∈ Region.ready md ops listed := by rw [hr']; simp
    refine ⟨fun h0 => (by rw [hr'] at h0; cases h0), fun k hk => ?_⟩
    rw [hr'] at hk
    have hk2 : k = i ∨ k = j := by simpa using hk
    rcases hk2 with rfl | rfl
    · exact ⟨hin, fun u hu => wpOp_mono (fun a' w' h' => ⟨h'.1, wpAnyU_of_plan hs hQ hwait s _ a' w' (inv.set hmi hin) hB1 h'.2⟩) (h.1 u hu)⟩
    · refine ⟨hjn, fun u hu => wpOp_mono (fun a' w' h' => ⟨h'.1, ?_⟩) (h.2 u hu)⟩
      have := wpAnyU_of_plan (E := E) hs hQ hwait t _ a' w' (inv.set hmj hjn) hB2 h'.2
      rw [← hlen] at this
      exact this

def planWholeB (ops : Array Oper) (n : Nat) (s : Plan) : Bool :=
  Region.noSelect ops && decide (n ≤ ops.size) && (decide (n = ops.size) || (Region.sinkB .any ops n && Region.chainB .any ops n)) && (s.len == n) && planB .any ops n (ops.size - n) s (Array.replicate ops.size false)

/-- THE RULE. -/
theorem wp_region_plan {id : Nat} {a : Act} {w : World} {l : List Oper} (n : Nat) (s : Plan) (hm : P.follows .mixedOrders = true) (hB : planWholeB l.toArray n s = true)
    (h : wpPlan P l.toArray (NoPanic Q) (fun a' u => wpList P l.toArray (NoPanic Q) (l.drop n) a' u) s a w.drew) : (Code.region id l.toArray true).wp P Q a w := by
  simp only [planWholeB, Bool.and_eq_true, decide_eq_true_eq, Bool.or_eq_true, beq_iff_eq] at hB
  obtain ⟨⟨⟨⟨hsel, hn⟩, hc⟩, hl⟩, hord⟩ := hB
  have hdl : (l.drop n).length = l.toArray.size - n := by simp
  have inv0 : HeadInv .any l.toArray n (Array.replicate l.toArray.size false) :=
    ⟨by simp, fun j oj _ hl => (by rw [getD_replicate_false] at hl; cases hl), fun t _ ht => getD_in (by simpa using ht) (getD_replicate_false _ _)⟩
  have hwait : ∀ i, i < n → ∀ listed, HeadInv .any l.toArray n listed → listed.getD i true = false → ∀ j ∈ Region.ready .any l.toArray listed, j < n := fun i hi listed inv hun j hj => by
    rcases hc with hc | ⟨hs, hch⟩
    · obtain ⟨_, oj, hoj, _⟩ := mem_ready.1 hj
      have := (Array.getElem?_eq_some_iff.1 hoj).1
      omega
    · rcases Nat.lt_or_ge j n with h | h
      · exact h
      · have hjs : j < l.toArray.size := by
          obtain ⟨_, oj, hoj, _⟩ := mem_ready.1 hj
          exact (Array.getElem?_eq_some_iff.1 hoj).1
        exact absurd hj (tail_waits hs hch (by omega) inv _ i rfl hi hun j h)
  refine wp_region_noPanic (wp_region_any hm ?_)
  have H := wpAnyU_of_plan (md := .any) (g := l.toArray.size - n) (Q := NoPanic Q) hsel (fun c a d v w h => h) hwait s _ a w.drew inv0 hord h
  have := wpAny_of_U (Q := NoPanic Q) (g := l.toArray.size - n) (fun listed a' w' hL => by
    have := wpAny_of_seq (md := .any) (Q' := NoPanic Q) (l.drop n) n listed a' w' (fun j => by simp [List.getElem?_drop]) (by rw [hdl]; exact hL.1) (hL.2 w' (Grows.refl _))
    rwa [hdl] at this) _ _ _ _ H
  rw [hl, show n + (l.toArray.size - n) = l.toArray.size by omega] at this
  exact this

theorem plan_take {l : List Oper} {E : Act → World → Prop} {w0 w : World} {i : Nat} {s : Plan} {a : Act} (h0 : Grows w0 w) (o : Oper) (v : Value) (ho : l[i]? = some o)
    (hw : Region.wanted o (yielded l.toArray a.tmps) = true) (hy : ∀ u, Grows w0 u → Grows w u → (execOp a.eval o).run P u = .ok (.value v) u)
    (h : wpPlan P l.toArray Q E s (a.put o.dst v) w) : wpPlan P l.toArray Q E (.take i s) a w :=
  ⟨o, v, by simpa using ho, .inl ⟨hw, fun u hu => by unfold Oper.quietAt; rw [hy u (Grows.trans h0 hu) hu]; exact ⟨rfl, rfl⟩⟩, h⟩
/-- A call that yields one value, and lets the world but grow. -/
theorem plan_call {l : List Oper} {E : Act → World → Prop} {w0 w : World} {i : Nat} {s : Plan} {a : Act} (h0 : Grows w0 w) (o : Oper) (v : Value) (ho : l[i]? = some o)
    (hw : Region.wanted o (yielded l.toArray a.tmps) = true) (hy : ∀ u, Grows w0 u → Grows w u → Oper.quietUpon P (Grows u) u v ((execOp a.eval o).run P u))
    (h : wpPlan P l.toArray Q E s (a.put o.dst v) w) : wpPlan P l.toArray Q E (.take i s) a w :=
  ⟨o, v, by simpa using ho, .inl ⟨hw, fun u hu => hy u (Grows.trans h0 hu) hu⟩, h⟩
theorem plan_load {l : List Oper} {E : Act → World → Prop} {w0 w : World} {i : Nat} {s : Plan} {a : Act} (h0 : Grows w0 w) (o : Oper) (v : Value) (ho : l[i]? = some o)
    (hw : Region.wanted o (yielded l.toArray a.tmps) = true) (ty : TypeId) (x : Operand) (hop : o.op = .load ty x) (p : Option Addr) (hx : a.eval x = .pointer p)
    (hy : ∀ u, Grows w0 u → (Instr.loadAt ty (.pointer p)).run P u = .ok v u)
    (h : wpPlan P l.toArray Q E s (a.put o.dst v) w) : wpPlan P l.toArray Q E (.take i s) a w :=
  plan_take h0 o v ho hw (fun u hu _ => exec_load hop hx (hy u hu)) h
theorem plan_skip {l : List Oper} {E : Act → World → Prop} {w : World} {i : Nat} {s : Plan} {a : Act} (o : Oper) (ho : l[i]? = some o)
    (hw : Region.wanted o (yielded l.toArray a.tmps) = false) (h : wpPlan P l.toArray Q E s (a.put o.dst undef) w) : wpPlan P l.toArray Q E (.take i s) a w :=
  ⟨o, undef, by simpa using ho, .inr ⟨hw, rfl⟩, h⟩
theorem plan_move {l : List Oper} {E : Act → World → Prop} {w : World} {i : Nat} {s : Plan} {a : Act} (o : Oper) (ho : l[i]? = some o)
    (hw : Region.wanted o (yielded l.toArray a.tmps) = true)
    (h : ∀ u, Grows w u → ∀ K : Act → World → Prop, Shut (∀ a' u', Grows u u' → wpPlan P l.toArray Q E s a' u' → K a' u') → Oper.wp P o a u K Q) : wpPlan P l.toArray Q E (.one i s) a w := by
  intro u hu
  refine wpOp_step (by simpa using ho) fun K hK => ?_
  rw [if_pos hw]
  exact h u hu K fun a' w' hg hs => hK a' w' ⟨hg, hs⟩
theorem plan_pass {l : List Oper} {E : Act → World → Prop} {w : World} {i : Nat} {s : Plan} {a : Act} (o : Oper) (ho : l[i]? = some o)
    (hw : Region.wanted o (yielded l.toArray a.tmps) = false) (h : ∀ u, Grows w u → wpPlan P l.toArray Q E s (a.put o.dst undef) u) : wpPlan P l.toArray Q E (.one i s) a w := by
  intro u hu
  refine wpOp_step (by simpa using ho) fun K hK => ?_
  rw [if_neg (by rw [hw]; exact Bool.false_ne_true)]
  exact hK _ _ ⟨Grows.refl _, h u hu⟩
theorem plan_done {l : List Oper} {E : Act → World → Prop} {w : World} {a : Act} (h : ∀ u, Grows w u → E a u) : wpPlan P l.toArray Q E .fin a w := h
/-- Two makers of memory may come up. -/
theorem plan_two {l : List Oper} {E : Act → World → Prop} {w : World} {i j : Nat} {s t : Plan} {a : Act} (o o' : Oper) (ho : l[i]? = some o) (ho' : l[j]? = some o')
    (hw : Region.wanted o (yielded l.toArray a.tmps) = true) (hw' : Region.wanted o' (yielded l.toArray a.tmps) = true)
    (h : ∀ u, Grows w u → ∀ K : Act → World → Prop, Shut (∀ a' u', Grows u u' → wpPlan P l.toArray Q E s a' u' → K a' u') → Oper.wp P o a u K Q)
    (h' : ∀ u, Grows w u → ∀ K : Act → World → Prop, Shut (∀ a' u', Grows u u' → wpPlan P l.toArray Q E t a' u' → K a' u') → Oper.wp P o' a u K Q) : wpPlan P l.toArray Q E (.two i s j t) a w := by
  refine ⟨fun u hu => wpOp_step (by simpa using ho) fun K hK => ?_, fun u hu => wpOp_step (by simpa using ho') fun K hK => ?_⟩
  · rw [if_pos hw]
    exact h u hu K fun a' w' hg hs => hK a' w' ⟨hg, hs⟩
  · rw [if_pos hw']
    exact h' u hu K fun a' w' hg hs => hK a' w' ⟨hg, hs⟩
end
attribute [irreducible] wpPlan
end Go.Proofs.Ytbcldknecdbemaa
