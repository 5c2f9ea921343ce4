/-
  Contracts of the reference's Count and Unpack.
-/
import Derived.Test.YthnjbmaiebiehaaLzG
namespace Go.Proofs.Ythnjbmaiebiehaa
open Go.RowKit
set_option linter.unusedVariables false

theorem drop_cons {bs : List UInt8} {j : Nat} {x : UInt8} (h : bs[j]? = some x) : bs.drop j = x :: bs.drop (j + 1) := by
  have hj : j < bs.length := by
    rcases Nat.lt_or_ge j bs.length with h1 | h1
    · exact h1
    · rw [List.getElem?_eq_none h1] at h; cases h
  rw [List.getElem?_eq_getElem hj] at h
  injection h with h
  rw [List.drop_eq_getElem_cons hj, h]
/-- How many tokens, below 0 if there is no number. -/
def countInt : Option Nat → Int
  | some t => (t : Int)
  | none => -1
theorem own_len {w : World} {base n : Nat} {e : TypeId} {v : Value} {l : List UInt8} (h : w.ownsRow base e 1 v n (l.map bv)) : w.ownsRow base e 1 v l.length (l.map bv) := by
  have : l.length = n := by simpa using h.1
  rw [this]; exact h

theorem grown_setCells (b : Nat) : ∀ (vs : List Value) (o : Nat) (w : World), w.grownBy (w.setCells b o vs) (some b)
  | [], _, w => World.grownBy.refl w _
  | v :: r, o, w => by
    rw [World.setCells]
    have h1 : w.grownBy (w.setCell ⟨b, o, none⟩ v) (some b) := ⟨by simp [World.setCell], by simp [World.setCell], by simp [World.setCell], by simp [World.setCell], fun k hk hne => Below.heap_setCell w ⟨b, o, none⟩ v k (fun e => hne (by rw [e]))⟩
    exact h1.trans (grown_setCells b r (o + 1) _)
/-- A store of a whole row in place of another: no other block has turned. -/
theorem wpList_storeb {P : Program} {w : World} {ops : Array Oper} {rest : List Oper} {op : Oper} {a : Act} {Q : Exit → Act → World → Prop} (hgd : op.guard = none) (ty : TypeId) (x y : Operand) (ho : op.op = .store ty x y)
    (b : Nat) (vs vs' : List Value) (n : Nat) (hx : a.eval x = .pointer (some ⟨b, 0, none⟩)) (hy : a.eval y = .agg vs'.toArray) (hb : Has w b vs) (hl : vs.length = n) (hl' : vs'.length = n) (hi : (P.info? ty).map (·.size) = some n)
    (h1 : ∀ v ∈ vs', v.oneCell' = true) (h : ∀ w', Has w' b vs' → w.grownBy w' (some b) → wpList P ops Q rest (a.put op.dst undef) w') : wpList P ops Q (op :: rest) a w := by
  have hz : vs'.toArray.size = n := by simp [hl']
  refine wpList_store_mid hgd ty x y ho b 0 vs'.toArray hx hy (by rw [hz, ← hl]; exact hb.there) (by rw [hz]; exact hi) (all_oneCell_toArray h1) ?_
  exact h _ (hb.put_ (by rw [hl, hl'])) (grown_setCells b _ 0 w)
/-- What the reference's Unpack answers. -/
def UOut (bs : List UInt8) (most : Int) (w : World) (e : Ending) (w' : World) : Prop := ∃ (l : List UInt8) (er ln c' nn : Nat) (A' : Option Addr), Hid (unpackOf bs most = (l, er)) ∧ Hid (l.length = ln) ∧ e = .returned (.agg #[.slice A' ln c', iv nn, iv er]) ∧ ln ≤ c' ∧ Lies w' w'.heap.size A' (l.map bv) ∧ (∀ ad, A' = some ad → w.heap.size ≤ ad.block) ∧ Grows w w'
theorem u_desc : (Try.prog.underlying 56).map (·.isRow) = some true := by kernel_rfl
theorem u_size : (Try.prog.info? 56).map (·.size) = some 3 := by kernel_rfl

set_option maxRecDepth 20000 in
set_option maxHeartbeats 4000000 in
theorem runpack_any (A : Option Addr) (n c : Nat) (bs : List UInt8) (most : Int) (w : World) (hl : bs.length = n) (hr : Lies w w.heap.size A (bs.map bv)) (hc : n ≤ c) (hn : n ≤ 1000000000) :
    Calls Try.prog 33 #[.slice A n c, .int .i64 most] w fun e w' => UOut bs most w e w' := by
  obtain ⟨i0, hi0, hz0, hz1, hz2⟩ := info_parts byte_info
  obtain ⟨td, htd, htr⟩ := Option.map_eq_some_iff.1 u_desc
  have HL := Lib.hid hl
  clear hl
  have hb0' := Has.new w 56 [.slice none 0 0, .int .i64 0, .int .i64 0]
  have hgw := grows_alloc w (.cells #[.slice none 0 0, .int .i64 0, .int .i64 0] 56)
  have hsw : w.heap.size + 1 ≤ (w.alloc (.cells #[.slice none 0 0, .int .i64 0, .int .i64 0] 56)).heap.size := by rw [World.size_alloc]; exact Nat.le_refl _
  -- an error
  have fin : ∀ (w5 : World) (er : Nat), Has w5 w.heap.size [.slice none 0 0, .int .i64 0, iv er] → Grows w w5 → unpackOf bs most = ([], er) → UOut bs most w (.returned (.agg #[.slice none 0 0, .int .i64 0, iv er])) w5 := fun w5 er _ hg hu => ⟨[], er, 0, 0, 0, none, hu, rfl, rfl, Nat.le_refl _, Lies.empty, (fun ad h => by cases h), hg⟩
  go_enter Try.func33, Try.ntmps33
  go_wp2
  change Code.wp _ _ _ _ (w.alloc (.cells #[.slice none 0 0, .int .i64 0, .int .i64 0] 56))
  generalize w.alloc (.cells #[.slice none 0 0, .int .i64 0, .int .i64 0] 56) = w0 at *
  go_loopw [5, 6, 7, 8, 9, 10] (fun v a q _ _ _ wr => ∃ (j k : Nat) (out : List UInt8), a = iv k ∧ q = iv j ∧ j ≤ n ∧ k ≤ j ∧ out.length + 131 * (n - j) ≤ 131 * n ∧ wr.ownsRow (w.heap.size + 1) 5 1 v out.length (out.map bv) ∧ Hid (unp most (bs.drop j) out = unpackOf bs most) ∧
      Has wr w.heap.size [.slice none 0 0, .int .i64 0, .int .i64 0] ∧ Grows w wr ∧ w.heap.size + 1 ≤ wr.heap.size) (fun _ _ q _ _ _ _ => n - (intOf q).toNat)
  case atStart => exact ⟨0, 0, [], rfl, rfl, Nat.zero_le _, Nat.le_refl _, by simp, World.ownsRow_nil _ _ _ _, rfl, hb0', hgw, hsw⟩
  case round =>
    clear hb0' hgw hsw
    obtain ⟨j, k, out, rfl, rfl, hjn, hkj, hlen, hown, HC, hb0, hgr, hwb⟩ := hrel
    by_cases hj : j < n
    · obtain ⟨x, hx⟩ : ∃ x, bs[j]? = some x := ⟨_, List.getElem?_eq_getElem (by rw [HL.out]; exact hj)⟩
      obtain ⟨ad, hadA, _, cx⟩ := (hr.later hgr).at_ (j := j) (u := bv x) (by rw [List.getElem?_map, hx]; rfl)
      have HCC : Hid (unp most (x :: bs.drop (j + 1)) out = unpackOf bs most) := by show _ = _; rw [← drop_cons hx]; exact HC.out
      have HRL : Hid ((bs.drop (j + 1)).length = n - (j + 1)) := by show _ = _; rw [List.length_drop, HL.out]
      clear hx HC
      have hx8 := x.toNat_lt
      obtain ⟨L, hLo⟩ : ∃ L, out.length = L := ⟨_, rfl⟩
      have HOL := Lib.hid hLo
      rw [hLo] at hown hlen
      clear hLo
      obtain ⟨Ab, cb, rfl, hcb⟩ := own_form hown
      subst hadA
      by_cases h1 : x.toNat < 128
      · have h1' : (x.toNat : Int) < 128 := by omega
        by_cases h2 : n < j + x.toNat + 2
        · have h2' : (n : Int) < (j : Int) + (x.toNat : Int) + 2 := by omega
          have HV : Hid (unpackOf bs most = ([], 2)) := by show _ = _; rw [← HCC.out]; exact unp_lit_form h1 (by rw [HRL.out]; omega)
          go_wp2_with (refine wpList_storev rfl 56 (.tmp 4) (.tmp 31) rfl w.heap.size [.slice none 0 0, .int .i64 0, .int .i64 0] [.slice none 0 0, .int .i64 0, iv 2] 3 rfl rfl hb0 rfl rfl u_size (by simp [Value.oneCell']) ?_; intro w5 hb5 hbel5)
          refine bodyPost_ret (res_has (vs := [.slice none 0 0, .int .i64 0, iv 2]) rfl _ rfl htd htr u_size hb5) rfl ?_
          exact fin w5 2 hb5 (hbel5 w.heap.size w (Nat.le_refl _) hgr) HV.out
        · have h2' : ¬ ((n : Int) < (j : Int) + (x.toNat : Int) + 2) := by omega
          by_cases h3 : most < (L : Int) + (x.toNat : Int) + 1
          · have HV : Hid (unpackOf bs most = ([], 3)) := by show _ = _; rw [← HCC.out]; exact unp_lit_range h1 (by rw [HRL.out]; omega) (by rw [HOL.out]; exact h3)
            go_wp2_with (refine wpList_storev rfl 56 (.tmp 4) (.tmp 39) rfl w.heap.size [.slice none 0 0, .int .i64 0, .int .i64 0] [.slice none 0 0, .int .i64 0, iv 3] 3 rfl rfl hb0 rfl rfl u_size (by simp [Value.oneCell']) ?_; intro w5 hb5 hbel5)
            refine bodyPost_ret (res_has (vs := [.slice none 0 0, .int .i64 0, iv 3]) rfl _ rfl htd htr u_size hb5) rfl ?_
            exact fin w5 3 hb5 (hbel5 w.heap.size w (Nat.le_refl _) hgr) HV.out
          · have HN : Hid (unp most (bs.drop (j + x.toNat + 2)) (out ++ (bs.drop (j + 1)).take (x.toNat + 1)) = unpackOf bs most) := by
              show _ = _
              rw [← HCC.out, unp_lit h1 (by rw [HRL.out]; omega) (by rw [HOL.out]; exact h3), List.drop_drop, show j + 1 + (x.toNat + 1) = j + x.toNat + 2 by omega]
            have HPL : Hid (((bs.drop (j + 1)).take (x.toNat + 1)).length = x.toNat + 1) := by show _ = _; rw [List.length_take, HRL.out]; omega
            have hLp : Lies wr w.heap.size ((some ad).map (·.add (j + 1))) (((bs.drop (j + 1)).take (x.toNat + 1)).map bv) := by rw [List.map_take, List.map_drop]; exact ((hr.below hgr).from_ (j + 1)).take _
            generalize (bs.drop (j + 1)).take (x.toNat + 1) = piece at *
            have hcj : ¬ c = j + 1 := by omega
            go_wp2_with (at_builtin; refine wpList_append_src _ rfl (.tmp 40) (.tmp 48) _ rfl (w.heap.size + 1) 5 i0 _ 1 Try.underlying22 hi0 hz0 hz1 hz2 rfl _ L _ rfl hown _ _ _ _ (piece.map bv) rfl (by rw [List.length_map, HPL.out]; omega) hLp (bv_one piece) (by unfold maxLen; omega) (by omega) hwb ?_; intro v4 w4 hown4 hg4 hat4)
            have hW4 := Wrote.app hg4 hat4
            have hB4 := hW4.below hwb (own_ge hown)
            rw [← List.map_append] at hown4
            go_roundw
            case rel => exact ⟨j + x.toNat + 2, k + 1, out ++ piece, by go_num, by go_num, by omega, by omega, by rw [List.length_append, HOL.out, HPL.out]; omega, own_len hown4, HN.out, hb0.below hB4 (Nat.lt_succ_self _), Below.trans hgr (hB4.mono (Nat.le_succ _)), Nat.le_trans hwb hB4.size⟩
            case measure => simp [intOf]; omega
      · have h1' : ¬ ((x.toNat : Int) < 128) := by omega
        by_cases h2 : n < j + 3
        · have h2' : (n : Int) < (j : Int) + 3 := by omega
          have HV : Hid (unpackOf bs most = ([], 2)) := by show _ = _; rw [← HCC.out]; exact unp_mat_short h1 (by rw [HRL.out]; omega)
          go_wp2_with (refine wpList_storev rfl 56 (.tmp 4) (.tmp 59) rfl w.heap.size [.slice none 0 0, .int .i64 0, .int .i64 0] [.slice none 0 0, .int .i64 0, iv 2] 3 rfl rfl hb0 rfl rfl u_size (by simp [Value.oneCell']) ?_; intro w5 hb5 hbel5)
          refine bodyPost_ret (res_has (vs := [.slice none 0 0, .int .i64 0, iv 2]) rfl _ rfl htd htr u_size hb5) rfl ?_
          exact fin w5 2 hb5 (hbel5 w.heap.size w (Nat.le_refl _) hgr) HV.out
        · have h2' : ¬ ((n : Int) < (j : Int) + 3) := by omega
          obtain ⟨y, hy⟩ : ∃ y, bs[j + 1]? = some y := ⟨_, List.getElem?_eq_getElem (by rw [HL.out]; omega)⟩
          obtain ⟨z, hz⟩ : ∃ z, bs[j + 2]? = some z := ⟨_, List.getElem?_eq_getElem (by rw [HL.out]; omega)⟩
          obtain ⟨ad1, e1, _, cy⟩ := (hr.later hgr).at_ (j := j + 1) (u := bv y) (by rw [List.getElem?_map, hy]; rfl)
          injection e1 with e1
          subst e1
          obtain ⟨ad2, e2, _, cz⟩ := (hr.later hgr).at_ (j := j + 2) (u := bv z) (by rw [List.getElem?_map, hz]; rfl)
          injection e2 with e2
          subst e2
          have hg0 : (bs.drop (j + 1)).getD 0 0 = y := by rw [List.getD, List.getElem?_drop, Nat.add_zero, hy]; rfl
          have hg1 : (bs.drop (j + 1)).getD 1 0 = z := by rw [List.getD, List.getElem?_drop, show j + 1 + 1 = j + 2 by omega, hz]; rfl
          have HG0 := Lib.hid hg0
          have HG1 := Lib.hid hg1
          clear hg0 hg1 hy hz
          have hy8 := y.toNat_lt
          have hz8 := z.toNat_lt
          have k0 : (0 : Int) ≤ (j : Int) + 1 := by omega
          have k1 : (j : Int) + 1 < (n : Int) := by omega
          have k2 : (0 : Int) ≤ (j : Int) + 2 := by omega
          have k3 : (j : Int) + 2 < (n : Int) := by omega
          have k1n : j + 1 < n := by omega
          have k3n : j + 2 < n := by omega
          have t1 : ((j : Int) + 1).toNat = j + 1 := by omega
          have t2 : ((j : Int) + 2).toNat = j + 2 := by omega
          obtain ⟨d, hd⟩ : ∃ d, d = 1 + y.toNat + 256 * z.toNat := ⟨_, rfl⟩
          have hdi : 1 + (y.toNat : Int) + 256 * (z.toNat : Int) = (d : Int) := by omega
          have hd1 : 1 ≤ d ∧ d ≤ 65536 := by omega
          have HD := Lib.hid hd
          clear hd
          by_cases h3 : L < d
          · have HV : Hid (unpackOf bs most = ([], 2)) := by show _ = _; rw [← HCC.out]; exact unp_mat_far h1 (by rw [HRL.out]; omega) (by rw [HOL.out, HG0.out, HG1.out, ← HD.out]; exact h3)
            have h3' : (L : Int) < (d : Int) := by omega
            go_wp2_with fail
            refine wp_region_ord 15 [(0, true), (1, true), (2, true), (3, true), (4, true), (5, true), (6, true), (7, true), (8, true), (9, true), (10, true), (11, true), (12, true), (13, true), (14, true)] (by kernel_rfl) (by kernel_rfl) ?_
            have l1 : ∀ u, Grows wr.drew u → u.cell? ⟨ad.block, ad.off + (j + 1), none⟩ = some (bv y) := fun u hu => hcell_later (by simpa [Addr.add] using cy) (Grows.trans (Grows.refl wr).drew hu)
            have l2 : ∀ u, Grows wr.drew u → u.cell? ⟨ad.block, ad.off + (j + 2), none⟩ = some (bv z) := fun u hu => hcell_later (by simpa [Addr.add] using cz) (Grows.trans (Grows.refl wr).drew hu)
            have q1 : IntKind.i64.wrap ((j : Int) + 1) = (j : Int) + 1 := IntWalk.i64_in _ (by omega)
            have q2 : IntKind.i64.wrap ((j : Int) + 2) = (j : Int) + 2 := IntWalk.i64_in _ (by omega)
            have vy : IntKind.i64.wrap (y.toNat : Int) = (y.toNat : Int) := wrap_eq rfl (by omega)
            have vz : IntKind.i64.wrap (z.toNat : Int) = (z.toNat : Int) := wrap_eq rfl (by omega)
            have v3 : IntKind.i64.wrap (1 + (y.toNat : Int)) = 1 + (y.toNat : Int) := IntWalk.i64_in _ (by omega)
            have v4 : IntKind.i64.wrap (256 * (z.toNat : Int)) = 256 * (z.toNat : Int) := IntWalk.i64_in _ (by omega)
            have v5 : IntKind.i64.wrap (1 + (y.toNat : Int) + 256 * (z.toNat : Int)) = (d : Int) := by rw [IntWalk.i64_in _ (by omega)]; exact hdi
            have v6 : IntKind.i64.wrap (d : Int) = (d : Int) := wrap_eq rfl (by omega)
            have hO := Grows.refl wr.drew
            repeat (first | (refine ord_take hO _ ?_ (by simp only [List.getElem?_cons_succ, List.getElem?_cons_zero]; rfl) (by rfl) ?_ ?_; rotate_left; (· (intro u hu0 hu; (try go_simp); (try with_reducible rfl))); try simp only [Act.put, List.setIfInBounds_toArray, List.set_cons_zero, List.set_cons_succ]) | (refine ord_skip _ (by simp only [List.getElem?_cons_succ, List.getElem?_cons_zero]; rfl) (by rfl) ?_; try simp only [Act.put, List.setIfInBounds_toArray, List.set_cons_zero, List.set_cons_succ]))
            clear hO l1 l2 v3 v4 v5 v6 vy vz q1 q2
            (refine ord_done (fun u hu => ?_); simp only [List.drop_succ_cons, List.drop_zero])
            have hgu := Grows.trans (Grows.refl wr).drew hu
            have hb0 := hb0.later hgu
            have hown := own_later hown hgu
            have hgr := Grows.trans hgr hgu
            go_wp2_with fail
            refine NoPanic.normal ?_
            go_wp2_with (refine wpList_storev rfl 56 (.tmp 4) (.tmp 79) rfl w.heap.size [.slice none 0 0, .int .i64 0, .int .i64 0] [.slice none 0 0, .int .i64 0, iv 2] 3 rfl rfl hb0 rfl rfl u_size (by simp [Value.oneCell']) ?_; intro w5 hb5 hbel5)
            refine bodyPost_ret (res_has (vs := [.slice none 0 0, .int .i64 0, iv 2]) rfl _ rfl htd htr u_size hb5) rfl ?_
            exact fin w5 2 hb5 (hbel5 w.heap.size w (Nat.le_refl _) hgr) HV.out
          · have h3' : ¬ ((L : Int) < (d : Int)) := by omega
            by_cases h4 : most < (L : Int) + (x.toNat : Int) - 124
            · have HV : Hid (unpackOf bs most = ([], 3)) := by show _ = _; rw [← HCC.out]; exact unp_mat_range h1 (by rw [HRL.out]; omega) (by rw [HOL.out, HG0.out, HG1.out, ← HD.out]; exact h3) (by rw [HOL.out]; exact h4)
              go_wp2_with fail
              refine wp_region_ord 15 [(0, true), (1, true), (2, true), (3, true), (4, true), (5, true), (6, true), (7, true), (8, true), (9, true), (10, true), (11, true), (12, true), (13, true), (14, true)] (by kernel_rfl) (by kernel_rfl) ?_
              have l1 : ∀ u, Grows wr.drew u → u.cell? ⟨ad.block, ad.off + (j + 1), none⟩ = some (bv y) := fun u hu => hcell_later (by simpa [Addr.add] using cy) (Grows.trans (Grows.refl wr).drew hu)
              have l2 : ∀ u, Grows wr.drew u → u.cell? ⟨ad.block, ad.off + (j + 2), none⟩ = some (bv z) := fun u hu => hcell_later (by simpa [Addr.add] using cz) (Grows.trans (Grows.refl wr).drew hu)
              have q1 : IntKind.i64.wrap ((j : Int) + 1) = (j : Int) + 1 := IntWalk.i64_in _ (by omega)
              have q2 : IntKind.i64.wrap ((j : Int) + 2) = (j : Int) + 2 := IntWalk.i64_in _ (by omega)
              have vy : IntKind.i64.wrap (y.toNat : Int) = (y.toNat : Int) := wrap_eq rfl (by omega)
              have vz : IntKind.i64.wrap (z.toNat : Int) = (z.toNat : Int) := wrap_eq rfl (by omega)
              have v3 : IntKind.i64.wrap (1 + (y.toNat : Int)) = 1 + (y.toNat : Int) := IntWalk.i64_in _ (by omega)
              have v4 : IntKind.i64.wrap (256 * (z.toNat : Int)) = 256 * (z.toNat : Int) := IntWalk.i64_in _ (by omega)
              have v5 : IntKind.i64.wrap (1 + (y.toNat : Int) + 256 * (z.toNat : Int)) = (d : Int) := by rw [IntWalk.i64_in _ (by omega)]; exact hdi
              have v6 : IntKind.i64.wrap (d : Int) = (d : Int) := wrap_eq rfl (by omega)
              have hO := Grows.refl wr.drew
              repeat (first | (refine ord_take hO _ ?_ (by simp only [List.getElem?_cons_succ, List.getElem?_cons_zero]; rfl) (by rfl) ?_ ?_; rotate_left; (· (intro u hu0 hu; (try go_simp); (try with_reducible rfl))); try simp only [Act.put, List.setIfInBounds_toArray, List.set_cons_zero, List.set_cons_succ]) | (refine ord_skip _ (by simp only [List.getElem?_cons_succ, List.getElem?_cons_zero]; rfl) (by rfl) ?_; try simp only [Act.put, List.setIfInBounds_toArray, List.set_cons_zero, List.set_cons_succ]))
              clear hO l1 l2 v3 v4 v5 v6 vy vz q1 q2
              (refine ord_done (fun u hu => ?_); simp only [List.drop_succ_cons, List.drop_zero])
              have hgu := Grows.trans (Grows.refl wr).drew hu
              have hb0 := hb0.later hgu
              have hown := own_later hown hgu
              have hgr := Grows.trans hgr hgu
              go_wp2_with fail
              refine NoPanic.normal ?_
              go_wp2_with (refine wpList_storev rfl 56 (.tmp 4) (.tmp 87) rfl w.heap.size [.slice none 0 0, .int .i64 0, .int .i64 0] [.slice none 0 0, .int .i64 0, iv 3] 3 rfl rfl hb0 rfl rfl u_size (by simp [Value.oneCell']) ?_; intro w5 hb5 hbel5)
              refine bodyPost_ret (res_has (vs := [.slice none 0 0, .int .i64 0, iv 3]) rfl _ rfl htd htr u_size hb5) rfl ?_
              exact fin w5 3 hb5 (hbel5 w.heap.size w (Nat.le_refl _) hgr) HV.out
            · obtain ⟨ln, hln⟩ : ∃ ln, ln = x.toNat - 124 := ⟨_, rfl⟩
              have hlx : (x.toNat : Int) - 124 = (ln : Int) := by omega
              have hlb : ln ≤ 131 := by omega
              have HN : Hid (unp most (bs.drop (j + 3)) (copyN ln d out) = unpackOf bs most) := by
                show _ = _
                rw [← HCC.out, unp_mat h1 (by rw [HRL.out]; omega) (by rw [HOL.out, HG0.out, HG1.out, ← HD.out]; exact h3) (by rw [HOL.out]; exact h4), HG0.out, HG1.out, ← HD.out, ← hln, List.drop_drop]
              clear hln HCC
              go_wp2_with fail
              refine wp_region_ord 15 [(0, true), (1, true), (2, true), (3, true), (4, true), (5, true), (6, true), (7, true), (8, true), (9, true), (10, true), (11, true), (12, true), (13, true), (14, true)] (by kernel_rfl) (by kernel_rfl) ?_
              have l1 : ∀ u, Grows wr.drew u → u.cell? ⟨ad.block, ad.off + (j + 1), none⟩ = some (bv y) := fun u hu => hcell_later (by simpa [Addr.add] using cy) (Grows.trans (Grows.refl wr).drew hu)
              have l2 : ∀ u, Grows wr.drew u → u.cell? ⟨ad.block, ad.off + (j + 2), none⟩ = some (bv z) := fun u hu => hcell_later (by simpa [Addr.add] using cz) (Grows.trans (Grows.refl wr).drew hu)
              have q1 : IntKind.i64.wrap ((j : Int) + 1) = (j : Int) + 1 := IntWalk.i64_in _ (by omega)
              have q2 : IntKind.i64.wrap ((j : Int) + 2) = (j : Int) + 2 := IntWalk.i64_in _ (by omega)
              have vy : IntKind.i64.wrap (y.toNat : Int) = (y.toNat : Int) := wrap_eq rfl (by omega)
              have vz : IntKind.i64.wrap (z.toNat : Int) = (z.toNat : Int) := wrap_eq rfl (by omega)
              have v3 : IntKind.i64.wrap (1 + (y.toNat : Int)) = 1 + (y.toNat : Int) := IntWalk.i64_in _ (by omega)
              have v4 : IntKind.i64.wrap (256 * (z.toNat : Int)) = 256 * (z.toNat : Int) := IntWalk.i64_in _ (by omega)
              have v5 : IntKind.i64.wrap (1 + (y.toNat : Int) + 256 * (z.toNat : Int)) = (d : Int) := by rw [IntWalk.i64_in _ (by omega)]; exact hdi
              have v6 : IntKind.i64.wrap (d : Int) = (d : Int) := wrap_eq rfl (by omega)
              have hO := Grows.refl wr.drew
              repeat (first | (refine ord_take hO _ ?_ (by simp only [List.getElem?_cons_succ, List.getElem?_cons_zero]; rfl) (by rfl) ?_ ?_; rotate_left; (· (intro u hu0 hu; (try go_simp); (try with_reducible rfl))); try simp only [Act.put, List.setIfInBounds_toArray, List.set_cons_zero, List.set_cons_succ]) | (refine ord_skip _ (by simp only [List.getElem?_cons_succ, List.getElem?_cons_zero]; rfl) (by rfl) ?_; try simp only [Act.put, List.setIfInBounds_toArray, List.set_cons_zero, List.set_cons_succ]))
              clear hO l1 l2 v3 v4 v5 v6 vy vz q1 q2
              (refine ord_done (fun u hu => ?_); simp only [List.drop_succ_cons, List.drop_zero])
              have hgu := Grows.trans (Grows.refl wr).drew hu
              have hb0 := hb0.later hgu
              have hown := own_later hown hgu
              have hgr := Grows.trans hgr hgu
              go_wp2_with fail
              refine NoPanic.normal ?_
              go_wp2_with fail
              have hwbu : w.heap.size + 1 ≤ u.heap.size := Nat.le_trans hwb hgu.size
              go_loopw [5, 10] (fun v t wv => ∃ (kk L' : Nat) (o' : List UInt8), kk ≤ ln ∧ t = iv kk ∧ Hid (o' = copyN kk d out) ∧ L ≤ L' ∧ L' ≤ L + 131 ∧ Hid (L' = L + kk) ∧ wv.ownsRow (w.heap.size + 1) 5 1 v L' (o'.map bv) ∧ Below (w.heap.size + 1) u wv) (fun _ t _ => ln - (intOf t).toNat)
              case atStart => exact ⟨0, L, out, Nat.zero_le _, rfl, rfl, Nat.le_refl _, by omega, rfl, hown, Below.refl _ _⟩
              case round =>
                obtain ⟨kk, L', o', hkk, rfl, HO', hLL, hLL2, HLL, hown', hbv⟩ := hrel
                have hwbv : w.heap.size + 1 ≤ wr.heap.size := Nat.le_trans hwbu hbv.size
                have hol' : o'.length = L' := by simpa using hown'.1
                by_cases hkl : kk < ln
                · have hL131 : L' + 1 ≤ L + 131 := by have := HLL.out; omega
                  obtain ⟨Ab', cb', rfl, hcb'⟩ := own_form hown'
                  obtain ⟨jj, hjj⟩ : ∃ jj, jj + d = L' := ⟨L' - d, by omega⟩
                  obtain ⟨y', hy'⟩ : ∃ y, o'[jj]? = some y := ⟨_, List.getElem?_eq_getElem (by omega)⟩
                  have HN' : Hid (o' ++ [y'] = copyN (kk + 1) d out) := by
                    show _ = _
                    rw [copyN_succ, ← HO'.out, hol', show L' - d = jj by omega, List.getD, hy']; rfl
                  obtain ⟨ad', rfl, _, cy'⟩ := (Lies.of_own hown').at_ (j := jj) (u := bv y') (by rw [List.getElem?_map, hy']; rfl)
                  have hjd : (L' : Int) - (d : Int) = (jj : Int) := by omega
                  have hjm : (jj : Int) < (L' : Int) := by omega
                  clear hy' hjj hol'
                  have hnew := Lies.new wr 5 [bv y']
                  go_wp2_with (at_builtin; refine wpList_append_src _ rfl (.tmp 94) (.tmp 102) _ rfl (w.heap.size + 1) 5 i0 _ 1 Try.underlying22 hi0 hz0 hz1 hz2 rfl _ L' _ rfl (hown'.alloc _) _ _ 1 1 [bv y'] rfl rfl hnew (by simp [Value.oneCell']) (by unfold maxLen; omega) (by omega) (by rw [World.size_alloc]; omega) ?_; intro v4 w4 hown4 hg4 hat4)
                  have hb4 : Below (w.heap.size + 1) wr w4 := ((Below.refl _ wr).alloc hwbv _).grown hg4 (by rw [World.size_alloc]; omega) (own_ge hown')
                  rw [show [bv y'] = [y'].map bv from rfl, ← List.map_append] at hown4
                  go_roundw
                  case rel => exact ⟨kk + 1, L' + 1, o' ++ [y'], by omega, by go_num, HN'.out, by omega, by omega, by have := HLL.out; show _ = _; omega, hown4, hbv.trans hb4⟩
                  case measure => simp [intOf]; omega
                · obtain rfl : kk = ln := by omega
                  have HLL' : Hid ((copyN kk d out).length = L') := by show _ = _; rw [← HO'.out]; exact hol'
                  rw [HO'.out] at hown'
                  clear hol'
                  go_wp2_with fail
                  go_roundw
                  case rel => exact ⟨j + 3, k + 1, copyN kk d out, by go_num, by go_num, by omega, by omega, by rw [HLL'.out]; omega, own_len hown', HN.out, hb0.below hbv (Nat.lt_succ_self _), Below.trans hgr (hbv.mono (Nat.le_succ _)), hwbv⟩
                  case measure => simp [intOf]; omega
    · obtain rfl : j = n := by omega
      have HV : Hid (unpackOf bs most = (out, 0)) := by show _ = _; rw [← HC.out, List.drop_eq_nil_of_le (by rw [HL.out]; exact Nat.le_refl _), unp_nil]
      obtain ⟨Ab, cb, rfl, hcb⟩ := own_form hown
      have hLo := Lies.of_own hown
      go_wp2_with (refine wpList_storeb rfl 56 (.tmp 4) (.tmp 108) rfl w.heap.size [.slice none 0 0, .int .i64 0, .int .i64 0] [.slice Ab out.length cb, iv k, .int .i64 0] 3 rfl rfl hb0 rfl rfl u_size (by simp [Value.oneCell']) ?_; intro w5 hb5 hg5)
      have hown5 := hown.kept hg5 (by
        cases h : (Value.slice Ab out.length cb).ownBlock with
        | none => exact .inl rfl
        | some g => exact .inr (fun e => by injection e with e; have := (hown.lt g h).1; omega))
      refine bodyPost_ret (res_has (vs := [.slice Ab out.length cb, iv k, .int .i64 0]) rfl _ rfl htd htr u_size hb5) rfl ?_
      exact ⟨out, 0, out.length, cb, k, Ab, HV.out, rfl, rfl, hcb, Lies.of_own hown5, (fun ad h => by subst h; have := (hown5.lt ad.block rfl).1; omega), hgr.grown hg5 (by omega) (fun g hg => by injection hg with hg; omega)⟩
end Go.Proofs.Ythnjbmaiebiehaa
