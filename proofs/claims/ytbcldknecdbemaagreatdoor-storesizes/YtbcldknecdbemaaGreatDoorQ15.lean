/-
  Contracts, joined (RkA RkB RkC RkD RkE).
-/
import Derived.Test.YtbcldknecdbemaaGreatDoorQ13
import Derived.Test.YtbcldknecdbemaaGreatDoorQ11
import Derived.Test.YtbcldknecdbemaaGreatDoorQ12
import Derived.Deep.QuietTactic
import Derived.BigQuiet
import Derived.Test.YtbcldknecdbemaaGreatDoorQ14

/-
  The reference's disks in memory; its Named, Find, Used.
-/
namespace Go.Proofs.YtbcldknecdbemaaGreatDoor
open Go.RowKit
set_option linter.unusedVariables false
set_option maxRecDepth 20000

def fC (x : Byts × Byts) : List Value := [tv x.1, tv x.2]
theorem fC_len (S : Fls) : ∀ r ∈ S.map fC, r.length = 2 := fun r hr => by
  obtain ⟨x, _, rfl⟩ := List.mem_map.1 hr
  rfl
theorem fC_one (S : Fls) : ∀ u ∈ (S.map fC).flatten, u.oneCell' = true := fun u hu => by
  obtain ⟨r, hr, hu⟩ := List.mem_flatten.1 hu
  obtain ⟨x, _, rfl⟩ := List.mem_map.1 hr
  simp [fC] at hu
  rcases hu with rfl | rfl <;> rfl
/-- A list of files, as a value. -/
def FsV (w : World) (ok : Nat → Prop) (v : Value) (S : Fls) : Prop := ∃ A c, v = .slice A S.length c ∧ S.length ≤ c ∧ c ≤ maxLen ∧ LiesIn ok w A (S.map fC).flatten ∧ (A = none ∨ ∃ g, A = some ⟨g, 0, none⟩)
section
variable {w w' : World} {ok ok' Q : Nat → Prop} {v : Value} {S : Fls}
theorem FsV.later (h : FsV w ok v S) (hg : Grows w w') : FsV w' ok v S := by
  obtain ⟨A, c, a, b, d, e, f⟩ := h
  exact ⟨A, c, a, b, d, e.later hg, f⟩
theorem FsV.turned (h : FsV w ok v S) (ht : Turns Q w w') (hQ : ∀ k, ok k → ¬ Q k) : FsV w' ok v S := by
  obtain ⟨A, c, a, b, d, e, f⟩ := h
  exact ⟨A, c, a, b, d, e.turned ht hQ, f⟩
theorem FsV.mono (h : FsV w ok v S) (hk : ∀ k, ok k → ok' k) : FsV w ok' v S := by
  obtain ⟨A, c, a, b, d, e, f⟩ := h
  exact ⟨A, c, a, b, d, e.mono hk, f⟩
theorem FsV.nil (w : World) (ok : Nat → Prop) : FsV w ok (.slice none 0 0) [] := ⟨none, 0, rfl, Nat.le_refl _, Nat.zero_le _, fun j u hu => by simp at hu, .inl rfl⟩
theorem lies_cut {A : Option Addr} {vs : List Value} (h : LiesIn ok w A vs) : LiesIn (fun k => ok k ∧ k < w.heap.size) w A vs := fun j u hu => by
  obtain ⟨ad, e, ho, hc⟩ := h j u hu
  have := World.block_lt_of_cell? w _ hc
  rw [add_block] at this
  exact ⟨ad, e, ⟨ho, this⟩, hc⟩
theorem FsV.cut (h : FsV w ok v S) : FsV w (fun k => ok k ∧ k < w.heap.size) v S := by
  obtain ⟨A, c, a, b, d, e, f⟩ := h
  exact ⟨A, c, a, b, d, lies_cut e, f⟩
theorem FsV.at_ {A : Option Addr} {n c : Nat} (h : FsV w ok (.slice A n c) S) {i : Nat} {x : Byts × Byts} (hi : S[i]? = some x) : ∃ g, A = some ⟨g, 0, none⟩ ∧ w.cell? ⟨g, i * 2, none⟩ = some (tv x.1) ∧ w.cell? ⟨g, i * 2 + 1, none⟩ = some (tv x.2) := by
  obtain ⟨A', c', e1, h1, h2, h3, h4⟩ := h
  injection e1 with e1 _ _
  subst e1
  have hi' : (S.map fC)[i]? = some (fC x) := by rw [List.getElem?_map, hi]; rfl
  obtain ⟨ad, e, _, hc⟩ := h3 _ _ (flat_at (fC_len S) hi' (j := 0) rfl)
  obtain ⟨ad', e', _, hc'⟩ := h3 _ _ (flat_at (fC_len S) hi' (j := 1) rfl)
  subst e
  injection e' with e'
  subst e'
  rcases h4 with h4 | ⟨g, h4⟩
  · cases h4
  · injection h4 with h4
    subst h4
    rw [add_plain, Nat.zero_add] at hc hc'
    exact ⟨g, rfl, hc, hc'⟩
theorem FsV.form (h : FsV w ok v S) : ∃ A c, v = .slice A S.length c := by
  obtain ⟨A, c, a, _⟩ := h
  exact ⟨A, c, a⟩
end
/-- Where a file stands; -1: nowhere. -/
def findI : Fls → Byts → Nat → Int
  | [], _, _ => -1
  | x :: r, p, i => if x.1 = p then (i : Int) else findI r p (i + 1)
theorem findI_spec (p : Byts) : ∀ (S : Fls) (i : Nat), (findI S p i = -1 ∧ fGet S p = none) ∨ ∃ j b, findI S p i = ((i + j : Nat) : Int) ∧ S[j]? = some (p, b) ∧ fGet S p = some b
  | [], i => .inl ⟨rfl, rfl⟩
  | x :: r, i => by
    unfold findI
    rw [fGet_cons]
    by_cases h : x.1 = p
    · rw [if_pos h, if_pos h]
      exact .inr ⟨0, x.2, rfl, by rw [← h]; rfl, rfl⟩
    · rw [if_neg h, if_neg h]
      rcases findI_spec p r (i + 1) with h1 | ⟨j, b, h1, h2, h3⟩
      · exact .inl h1
      · exact .inr ⟨j + 1, b, by rw [h1]; congr 1; omega, by simpa using h2, h3⟩
theorem tix_any (l : Byts) (k : Nat) (b : UInt8) (h : l[k]? = some b) (w : World) : (Instr.index 9 (tv l) (.int .i64 (k : Int))).run Tryz.prog w = .ok (bv b) w := by
  obtain ⟨hk, e⟩ := List.getElem?_eq_some_iff.1 h
  rw [run_index_string w 9 _ .i64 (k : Int) Tryz.underlying9, dif_pos ⟨by omega, by rw [size_mk]; omega⟩]
  have : ((⟨l.toArray⟩ : ByteArray)[(k : Int).toNat]'(by rw [size_mk]; omega)) = l[k] := rfl
  rw [this, e]
theorem sum_sub {l l' : List Nat} (h : l'.Sublist l) : l'.sum ≤ l.sum := by
  induction h with
  | slnil => exact Nat.le_refl _
  | cons x _ ih => simp; omega
  | cons_cons x _ ih => simp; omega
theorem f_size : (Tryz.prog.info? 87).map (·.size) = some 2 := by kernel_rfl

theorem find_r (v : Value) (S : Fls) (p : Byts) (w : World) (ok : Nat → Prop) (h : FsV w ok v S) (hn : S.length ≤ 1000000) : Calls Tryz.prog 87 #[v, tv p] w fun e w' => e = .returned (.int .i64 (findI S p 0)) ∧ w' = w := by
  obtain ⟨A, c, rfl⟩ := h.form
  obtain ⟨n, hnn⟩ : ∃ n, n = S.length := ⟨_, rfl⟩
  rw [← hnn] at h hn ⊢
  have HN := Lib.hid hnn
  clear hnn
  go_enter Tryz.func87, Tryz.ntmps87
  go_wp2_with fail
  go_loopw [5] (fun i wr => ∃ k : Nat, k ≤ n ∧ i = .int .i64 (k : Int) ∧ wr = w ∧ Hid (findI S p 0 = findI (S.drop k) p k)) (fun i _ => n - (intOf i).toNat)
  case atStart => exact ⟨0, Nat.zero_le _, rfl, rfl, rfl⟩
  case round =>
    obtain ⟨k, hk, rfl, rfl, HR⟩ := hrel
    by_cases hlt : k < n
    · obtain ⟨x, hx⟩ : ∃ x, S[k]? = some x := ⟨_, List.getElem?_eq_getElem (by rw [← HN.out]; exact hlt)⟩
      obtain ⟨gb, rfl, hc0, hc1⟩ := h.at_ hx
      have e2 : ∀ t, binOp .eql t (tv x.1) (tv p) = (pure (.bool (x.1 == p)) : Sem Value) := fun t => run_teq (P := Tryz.prog) t _ _
      have hS := HR.out
      rw [drop_at hx, findI] at hS
      cases hb : (x.1 == p) with
      | true =>
        rw [hb] at e2
        rw [if_pos (by simpa using hb)] at hS
        have HS := Lib.hid hS
        clear hS hx hb HR
        go_wp2
        go_ret
        exact ⟨by rw [HS.out]; rfl, rfl⟩
      | false =>
        rw [hb] at e2
        rw [if_neg (by simpa using hb)] at hS
        have HS := Lib.hid hS
        clear hS hx hb HR
        go_wp2
        go_roundw
        case rel => exact ⟨k + 1, by omega, by go_num, by first | rfl | trivial, HS.out⟩
        case measure => simp [intOf]; omega
    · obtain rfl : k = n := by omega
      have hS := HR.out
      rw [HN.out, List.drop_length, findI] at hS
      have HS := Lib.hid hS
      clear hS HR
      go_wp2
      go_ret
      exact ⟨by rw [HS.out]; rfl, rfl⟩

set_option maxHeartbeats 1000000 in
theorem named_r (p : Byts) (w : World) (hn : p.length ≤ 1000000) : Calls Tryz.prog 121 #[tv p] w fun e w' => e = .returned (.bool (namedB p)) ∧ w' = w := by
  obtain ⟨n, hnn⟩ : ∃ n, n = p.length := ⟨_, rfl⟩
  have hsz := size_mk p
  rw [← hnn] at hn hsz
  have HN := Lib.hid hnn
  clear hnn
  go_enter Tryz.func121, Tryz.ntmps121
  go_wp2_with fail
  go_loopw [3] (fun i wr => ∃ k : Nat, k ≤ n ∧ i = .int .i64 (k : Int) ∧ wr = w ∧ Hid (p.all (fun c => c != 0) = (p.drop k).all (fun c => c != 0))) (fun i _ => n - (intOf i).toNat)
  case atStart => exact ⟨0, Nat.zero_le _, rfl, rfl, rfl⟩
  case round =>
    obtain ⟨k, hk, rfl, rfl, HR⟩ := hrel
    by_cases hlt : k < n
    · obtain ⟨x, hx⟩ : ∃ x, p[k]? = some x := ⟨_, List.getElem?_eq_getElem (by rw [← HN.out]; exact hlt)⟩
      have hS := HR.out
      rw [drop_at hx, List.all_cons] at hS
      have hix := fun u => tix_any p k x hx u
      have hb0 : ((x.toNat : Int) == 0) = (x == 0) := by
        rw [Bool.eq_iff_iff, beq_iff_eq, beq_iff_eq]
        constructor
        · intro h; exact UInt8.toNat_inj.1 (by simpa using h)
        · intro h; rw [h]; rfl
      cases hb : (x == 0) with
      | true =>
        have hx0 : x = 0 := by simpa using hb
        rw [hb] at hb0
        have hf : namedB p = false := by
          unfold namedB
          rw [hS, hx0]; simp
        have HF := Lib.hid hf
        clear hS HR hx hb hx0 hf
        go_wp2
        go_ret
        exact ⟨by rw [HF.out]; rfl, rfl⟩
      | false =>
        rw [hb] at hb0
        have hx0 : (x != 0) = true := by simpa using hb
        rw [hx0, Bool.true_and] at hS
        have HS := Lib.hid hS
        clear hS HR hx hb hx0
        go_wp2
        go_roundw
        case rel => exact ⟨k + 1, by omega, by go_num, by first | rfl | trivial, HS.out⟩
        case measure => simp [intOf]; omega
    · obtain rfl : k = n := by omega
      have hS := HR.out
      rw [HN.out, List.drop_length, List.all_nil] at hS
      have hf : namedB p = (decide (0 < k) && decide (k < 97)) := by
        unfold namedB
        rw [hS, ← HN.out, Bool.and_true]
      have HF := Lib.hid hf
      clear hS HR hf
      by_cases h0 : 0 < k
      · have d1 : decide ((k : Int) > 0) = true := by simpa using h0
        have d2 : decide (0 < k) = true := by simpa using h0
        have d3 : decide ((k : Int) < 97) = decide (k < 97) := by rw [Bool.eq_iff_iff]; simp; omega
        have hf := HF.out
        rw [d2, Bool.true_and, ← d3] at hf
        have HF2 := Lib.hid hf
        clear hf HF d2 d3
        go_wp2
        go_ret
        exact ⟨by rw [HF2.out]; simp, rfl⟩
      · have d1 : decide ((k : Int) > 0) = false := by simp; omega
        have d2 : decide (0 < k) = false := by simpa using h0
        have hf := HF.out
        rw [d2, Bool.false_and] at hf
        have HF2 := Lib.hid hf
        clear hf HF d2
        go_wp2
        go_ret
        exact ⟨by rw [HF2.out]; rfl, rfl⟩

theorem used_take (S : Fls) (k : Nat) {x : Byts × Byts} (h : S[k]? = some x) : fUsed (S.take (k + 1)) = fUsed (S.take k) + x.2.length := by
  rw [take_at h]; simp [fUsed]
theorem used_le (S : Fls) (k : Nat) : fUsed (S.take k) ≤ fUsed S := by
  have : (S.take k).Sublist S := List.take_sublist k S
  unfold fUsed
  exact sum_sub (this.map _)
/-- The reference's disk, as a value. -/
abbrev dV (D : Dk) (sv lv wv : Value) : Value := .agg #[rv D.room, sv, lv, wv, rv D.power]
set_option maxHeartbeats 1000000 in
theorem used_r (D : Dk) (sv lv wv : Value) (w : World) (ok : Nat → Prop) (h : FsV w ok sv D.seen) (hn : D.seen.length ≤ 1000000) (hu : fUsed D.seen ≤ 1000000000) :
    Calls Tryz.prog 44 #[dV D sv lv wv] w fun e w' => e = .returned (.int .i64 (fUsed D.seen : Int)) ∧ Grows w w' := by
  obtain ⟨A, c, rfl⟩ := h.form
  obtain ⟨S, hS⟩ : ∃ S, S = D.seen := ⟨_, rfl⟩
  rw [← hS] at h hn hu ⊢
  clear hS
  obtain ⟨n, hnn⟩ : ∃ n, n = S.length := ⟨_, rfl⟩
  rw [← hnn] at h hn ⊢
  have HN := Lib.hid hnn
  have hbox := Has.new w 39 [rv D.room, .slice A n c, lv, wv, rv D.power]
  have hga := grows_alloc w (.cells [rv D.room, .slice A n c, lv, wv, rv D.power].toArray 39)
  clear hnn
  go_enter Tryz.func44, Tryz.ntmps44
  go_wp2_with fail
  change Code.wp _ _ _ _ (w.alloc (.cells [rv D.room, .slice A n c, lv, wv, rv D.power].toArray 39))
  generalize w.alloc (.cells [rv D.room, .slice A n c, lv, wv, rv D.power].toArray 39) = w1 at *
  generalize w.heap.size = B at *
  have h1 := h.later hga
  have c1 := hbox.cell (k := 1) rfl
  go_loopw [3, 4] (fun s i wr => ∃ k : Nat, k ≤ n ∧ i = .int .i64 (k : Int) ∧ s = .int .i64 (fUsed (S.take k) : Int) ∧ wr = w1) (fun _ i _ => n - (intOf i).toNat)
  case atStart => exact ⟨0, Nat.zero_le _, rfl, rfl, rfl⟩
  case round =>
    obtain ⟨k, hk, rfl, rfl, rfl⟩ := hrel
    by_cases hlt : k < n
    · obtain ⟨x, hx⟩ : ∃ x, S[k]? = some x := ⟨_, List.getElem?_eq_getElem (by rw [← HN.out]; exact hlt)⟩
      obtain ⟨gb, rfl, hc0, hc1⟩ := h1.at_ hx
      have hsz := size_mk x.2
      have ht := used_take S k hx
      have hle := used_le S (k + 1)
      have hw : wrap64 ((fUsed (S.take k) : Int) + (x.2.length : Int)) = (fUsed (S.take (k + 1)) : Int) := by unfold wrap64; omega
      have HW := Lib.hid hw
      clear ht hle hx hw
      generalize fUsed (S.take k) = s0 at *
      generalize hs1 : fUsed (S.take (k + 1)) = s1 at *
      have HS1 := Lib.hid hs1
      clear hs1
      go_wp2_with fail
      rw [HW.out]
      go_roundw
      case rel => exact ⟨k + 1, by omega, by go_num, by rw [HS1.out], by first | rfl | trivial⟩
      case measure => simp [intOf]; omega
    · obtain rfl : k = n := by omega
      have hall : S.take k = S := by rw [HN.out, List.take_length]
      rw [hall]
      clear hall
      go_wp2_with fail
      go_ret
      exact ⟨rfl, hga⟩
end Go.Proofs.YtbcldknecdbemaaGreatDoor

/-
  The reference's without, with.
-/
namespace Go.Proofs.YtbcldknecdbemaaGreatDoor
open Go.RowKit
set_option linter.unusedVariables false
set_option maxRecDepth 20000

/-- Blocks that are ok, or new since w. -/
abbrev Nw (w : World) (ok : Nat → Prop) (k : Nat) : Prop := ok k ∨ w.heap.size ≤ k
theorem f_info : (Tryz.prog.info? 87).map (fun i => (i.zero, i.size, i.bytes)) = some (some (.agg #[.string ⟨#[]⟩, .string ⟨#[]⟩]), 2, 32) := by kernel_rfl
theorem FsV.own {w : World} {base : Nat} {v : Value} {S : Fls} {ok : Nat → Prop} (h : w.ownsRow base 87 2 v S.length (S.map fC).flatten) (hb : ∀ k, base ≤ k → ok k) : FsV w ok v S := by
  rcases h.2 with ⟨rfl, h0⟩ | ⟨g, c, cur, rfl, hg, hh, hnc, hm, hs, ht⟩
  · have : S = [] := by
      cases S with
      | nil => rfl
      | cons x r => simp [fC] at h0
    subst this
    exact FsV.nil _ _
  · refine ⟨_, c, rfl, hnc, hm, fun j u hu => ⟨_, rfl, hb g hg, ?_⟩, .inr ⟨g, rfl⟩⟩
    rw [add_plain, Nat.zero_add, cell_of_row w g _ cur 87 (0, 0) hh]
    have h2 : (cur.toList.take (S.length * 2))[j]? = some u := by rw [ht]; exact hu
    rw [List.getElem?_take] at h2
    split at h2
    · simpa using h2
    · cases h2
theorem load_f {w : World} {g j : Nat} {x : Byts × Byts} (h0 : w.cell? ⟨g, j, none⟩ = some (tv x.1)) (h1 : w.cell? ⟨g, j + 1, none⟩ = some (tv x.2)) : (Instr.loadAt 87 (.pointer (some ⟨g, j, none⟩))).run Tryz.prog w = .ok (.agg #[tv x.1, tv x.2]) w :=
  range_load (cs := [tv x.1, tv x.2]) (fun i u hu => by
    match i, hu with
    | 0, hu => simp at hu; rw [← hu]; exact h0
    | 1, hu => simp at hu; rw [← hu]; exact h1) Tryz.underlying87 rfl f_size
theorem fC_snoc (S : Fls) (x : Byts × Byts) : ((S ++ [x]).map fC).flatten = (S.map fC).flatten ++ fC x := by simp
set_option maxHeartbeats 2000000 in
theorem without_r (v : Value) (S : Fls) (p : Byts) (w : World) (ok : Nat → Prop) (h : FsV w ok v S) (hn : S.length ≤ 1000000) : Calls Tryz.prog 128 #[v, tv p] w fun e w' => ∃ v', e = .returned v' ∧ FsV w' (fun k => w.heap.size ≤ k) v' (fDel S p) ∧ Grows w w' := by
  obtain ⟨A, c, rfl⟩ := h.form
  obtain ⟨n, hnn⟩ : ∃ n, n = S.length := ⟨_, rfl⟩
  rw [← hnn] at h hn ⊢
  have HN := Lib.hid hnn
  obtain ⟨i0, hi0, hz0, hz1, hz2⟩ := info_parts f_info
  clear hnn
  go_enter Tryz.func128, Tryz.ntmps128
  go_wp2_with fail
  go_loopw [5, 6] (fun ov i wr => ∃ (k : Nat) (acc : Fls), k ≤ n ∧ i = .int .i64 (k : Int) ∧ acc.length ≤ k ∧ Hid (acc ++ fDel (S.drop k) p = fDel S p) ∧ wr.ownsRow w.heap.size 87 2 ov acc.length (acc.map fC).flatten ∧ Grows w wr) (fun _ i _ => n - (intOf i).toNat)
  case atStart => exact ⟨0, [], Nat.zero_le _, rfl, Nat.le_refl _, rfl, World.ownsRow_nil _ _ _ _, Grows.refl _⟩
  case round =>
    obtain ⟨k, acc, hk, rfl, hac, HA, hown, hg⟩ := hrel
    obtain ⟨A5, c5, rfl, hc5⟩ := own_form hown
    have hr := h.later hg
    by_cases hlt : k < n
    · obtain ⟨x, hx⟩ : ∃ x, S[k]? = some x := ⟨_, List.getElem?_eq_getElem (by rw [← HN.out]; exact hlt)⟩
      obtain ⟨gb, rfl, hc0, hc1⟩ := hr.at_ hx
      have e2 : ∀ t, binOp .neq t (tv x.1) (tv p) = (pure (.bool !(x.1 == p)) : Sem Value) := fun t => run_tne (P := Tryz.prog) t _ _
      have hA := HA.out
      rw [drop_at hx, fDel_cons] at hA
      cases hb : (x.1 == p) with
      | true =>
        rw [hb] at e2
        rw [if_pos (by simpa using hb)] at hA
        have HA2 := Lib.hid hA
        clear hA hx hb HA
        go_wp2_with fail
        go_roundw
        case rel => exact ⟨k + 1, acc, by omega, by go_num, by omega, HA2.out, hown, hg⟩
        case measure => simp [intOf]; omega
      | false =>
        rw [hb] at e2
        rw [if_neg (by simpa using hb)] at hA
        have HA2 : Hid ((acc ++ [x]) ++ fDel (S.drop (k + 1)) p = fDel S p) := by show _ = _; rw [List.append_assoc]; exact hA
        have ld := load_f hc0 hc1
        have hnew := Lies.new wr 87 [tv x.1, tv x.2]
        have hga := grows_alloc wr (.cells [tv x.1, tv x.2].toArray 87)
        have hown2 := own_later hown hga
        have hsz : w.heap.size ≤ (wr.alloc (.cells [tv x.1, tv x.2].toArray 87)).heap.size := by have := hga.size; have := hg.size; omega
        have HFC := Lib.hid (fC_snoc acc x)
        clear hA hx hb HA
        go_wp2_with (at_builtin; refine wpList_append_recs rfl (.tmp 20) (.tmp 25) _ rfl w.heap.size 87 i0 _ 2 32 (by omega) Tryz.underlying36 hi0 hz0 hz1 hz2 rfl _ acc.length _ rfl hown2 _ _ 1 1 [tv x.1, tv x.2] rfl rfl hnew (fC_one [x]) (by unfold maxLen; omega) (by omega) hsz ?_; intro v4 w4 hown4 hg4 hat4; obtain ⟨A4, c4, rfl, hc4⟩ := own_form hown4)
        go_roundw
        case rel =>
          refine ⟨k + 1, acc ++ [x], by omega, by go_num, by simp; omega, HA2, ?_, (Grows.trans hg hga).grown hg4 hsz (fun g hg' => own_ge hown g hg')⟩
          rw [HFC.out, List.length_append]; exact hown4
        case measure => simp [intOf]; omega
    · obtain rfl : k = n := by omega
      have hA := HA.out
      rw [HN.out, List.drop_length] at hA
      have hA2 : acc = fDel S p := by rw [← hA]; simp [fDel]
      have HA2 := Lib.hid hA2
      clear hA HA hA2
      go_wp2_with fail
      go_ret
      refine ⟨_, rfl, ?_, hg⟩
      have := HA2.out
      subst this
      exact FsV.own hown (fun k h => h)

theorem run_tge (t : TypeId) (x y : Byts) : binOp .geq t (tv x) (tv y) = (pure (.bool !(decide (cmpB x y = -1))) : Sem Value) := by
  rw [show binOp .geq t (tv x) (tv y) = pure (.bool !(Op.bytesLess (⟨x.toArray⟩ : ByteArray).toList (⟨y.toArray⟩ : ByteArray).toList)) by simp [binOp, Op.stringOp], toList_mk, toList_mk, less_cmp]
set_option maxHeartbeats 8000000 in
theorem with_r (v : Value) (S : Fls) (p b : Byts) (w : World) (ok : Nat → Prop) (h : FsV w ok v S) (hn : S.length ≤ 1000000) : Calls Tryz.prog 127 #[v, .agg #[tv p, tv b]] w fun e w' => ∃ v', e = .returned v' ∧ FsV w' (fun k => w.heap.size ≤ k) v' (fPut S p b) ∧ Grows w w' := by
  obtain ⟨A, c, rfl⟩ := h.form
  obtain ⟨n, hnn⟩ : ∃ n, n = S.length := ⟨_, rfl⟩
  rw [← hnn] at h hn ⊢
  have HN := Lib.hid hnn
  obtain ⟨i0, hi0, hz0, hz1, hz2⟩ := info_parts f_info
  have hbox := Has.new w 87 [tv p, tv b]
  have hgb := grows_alloc w (.cells [tv p, tv b].toArray 87)
  have hl := h.later hgb
  clear hnn
  go_enter Tryz.func127, Tryz.ntmps127
  go_wp2_with fail
  change Code.wp _ _ _ _ (w.alloc (.cells [tv p, tv b].toArray 87))
  generalize w.alloc (.cells [tv p, tv b].toArray 87) = w1 at *
  generalize w.heap.size = B at *
  go_loopw [5, 6, 7] (fun ov pv i wr => ∃ (k : Nat) (acc : Fls) (put : Bool), k ≤ n ∧ i = .int .i64 (k : Int) ∧ pv = .bool put ∧ acc.length ≤ k + put.toNat ∧ Hid (acc ++ (if put = true then fDel (S.drop k) p else fPut (S.drop k) p b) = fPut S p b) ∧ wr.ownsRow w1.heap.size 87 2 ov acc.length (acc.map fC).flatten ∧ Grows w1 wr) (fun _ _ i _ => n - (intOf i).toNat)
  case atStart => exact ⟨0, [], false, Nat.zero_le _, rfl, rfl, Nat.zero_le _, by show _ = _; simp, World.ownsRow_nil _ _ _ _, Grows.refl _⟩
  case round =>
    obtain ⟨k, acc, put, hk, rfl, rfl, hac, HA, hown, hg⟩ := hrel
    obtain ⟨A5, c5, rfl, hc5⟩ := own_form hown
    have hr := hl.later hg
    have hb2 := hbox.later hg
    have cp := hb2.cell (k := 0) rfl
    have cb := hb2.cell (k := 1) rfl
    by_cases hlt : k < n
    · obtain ⟨x, hx⟩ : ∃ x, S[k]? = some x := ⟨_, List.getElem?_eq_getElem (by rw [← HN.out]; exact hlt)⟩
      obtain ⟨gb, rfl, hc0, hc1⟩ := hr.at_ hx
      have e2 : ∀ t, binOp .neq t (tv x.1) (tv p) = (pure (.bool !(x.1 == p)) : Sem Value) := fun t => run_tne (P := Tryz.prog) t _ _
      have hA := HA.out
      rw [drop_at hx] at hA
      cases put with
      | true =>
        simp only [if_true, Bool.toNat_true] at hA hac
        rw [fDel_cons] at hA
        go_wp2_with fail
        go_quiet (fail)
        have hgq : Grows wr (wr.drewN nq) := below_draws (Grows.refl wr)
        have hown2 := own_later hown hgq
        have hg2 := Grows.trans hg hgq
        have hb3 := hb2.later hgq
        have hr2 := hr.later hgq
        generalize wr.drewN nq = w2 at *
        obtain ⟨gb', e4, hd0, hd1⟩ := hr2.at_ hx
        injection e4 with e4
        injection e4 with e4
        subst e4
        have cp2 := hb3.cell (k := 0) rfl
        cases hb : (x.1 == p) with
        | true =>
          rw [hb] at e2
          rw [if_pos (by simpa using hb)] at hA
          have HA2 := Lib.hid hA
          clear hA hx hb HA hc0 hc1 cp cb
          go_wp2_with fail
          go_quiet (fail)
          go_wp2_with fail
          go_roundw
          case rel => exact ⟨k + 1, acc, true, by omega, by go_num, rfl, by simp; omega, by show _ = _; simpa using HA2.out, own_later hown2 (below_draws (Grows.refl _)), Grows.trans hg2 (below_draws (Grows.refl _))⟩
          case measure => simp [intOf]; omega
        | false =>
          rw [hb] at e2
          rw [if_neg (by simpa using hb)] at hA
          have HA2 : Hid ((acc ++ [x]) ++ fDel (S.drop (k + 1)) p = fPut S p b) := by show _ = _; rw [List.append_assoc]; exact hA
          have HFC := Lib.hid (fC_snoc acc x)
          clear hA hx hb HA hc0 hc1 cp cb
          go_wp2_with fail
          go_quiet (fail)
          rename Nat => nq2
          have hgq2 : Grows w2 (w2.drewN nq2) := below_draws (Grows.refl w2)
          have hown3 := own_later hown2 hgq2
          have hg3 := Grows.trans hg2 hgq2
          have he0 := hcell_later hd0 hgq2
          have he1 := hcell_later hd1 hgq2
          generalize w2.drewN nq2 = w3 at *
          have hnew6 := Lies.new w3 87 [tv x.1, tv x.2]
          have hga6 := grows_alloc w3 (.cells [tv x.1, tv x.2].toArray 87)
          have howa6 := own_later hown3 hga6
          have hsz6 : w1.heap.size ≤ (w3.alloc (.cells [tv x.1, tv x.2].toArray 87)).heap.size := Nat.le_trans hg3.size hga6.size
          go_wp2_with (at_builtin; refine wpList_append_recs rfl (.tmp 38) (.tmp 43) _ rfl w1.heap.size 87 i0 _ 2 32 (by omega) Tryz.underlying36 hi0 hz0 hz1 hz2 rfl _ acc.length _ rfl howa6 _ _ 1 1 [tv x.1, tv x.2] rfl rfl hnew6 (by intro u hu; simp at hu; rcases hu with rfl | rfl <;> rfl) (by unfold maxLen; omega) (by omega) hsz6 ?_; intro v6 w6 hown6 hg6 hat6; obtain ⟨A6, c6, rfl, hc6⟩ := own_form hown6; have G6 := (Grows.trans hg3 hga6).grown hg6 hsz6 (fun g hg' => own_ge hown3 g hg'))
          go_roundw
          case rel => exact ⟨k + 1, acc ++ [x], true, by omega, by go_num, rfl, by simp; omega, by show _ = _; simpa using HA2.out, by rw [HFC.out, List.length_append]; exact hown6, G6⟩
          case measure => simp [intOf]; omega
      | false =>
        simp only [Bool.toNat_false, Nat.add_zero] at hac
        rw [if_neg (by exact Bool.false_ne_true)] at hA
        by_cases hcm : cmpB x.1 p = -1
        · have e3 : ∀ t, binOp .geq t (tv x.1) (tv p) = (pure (.bool false) : Sem Value) := fun t => by rw [run_tge, hcm]; rfl
          have hne : (x.1 == p) = false := by simpa using cmpB_lt_ne hcm
          rw [hne] at e2
          rw [fPut, if_pos hcm] at hA
          have HA2 : Hid ((acc ++ [x]) ++ fPut (S.drop (k + 1)) p b = fPut S p b) := by show _ = _; rw [List.append_assoc]; exact hA
          have HFC := Lib.hid (fC_snoc acc x)
          clear hA HA hcm hne
          go_wp2_with fail
          go_quiet (fail)
          have hgq : Grows wr (wr.drewN nq) := below_draws (Grows.refl wr)
          have hown2 := own_later hown hgq
          have hg2 := Grows.trans hg hgq
          have hb3 := hb2.later hgq
          have hr2 := hr.later hgq
          generalize wr.drewN nq = w2 at *
          obtain ⟨gb', e4, hd0, hd1⟩ := hr2.at_ hx
          injection e4 with e4
          injection e4 with e4
          subst e4
          have cp2 := hb3.cell (k := 0) rfl
          clear hx hc0 hc1 cp cb
          go_wp2_with fail
          go_quiet (fail)
          rename Nat => nq2
          have hgq2 : Grows w2 (w2.drewN nq2) := below_draws (Grows.refl w2)
          have hown3 := own_later hown2 hgq2
          have hg3 := Grows.trans hg2 hgq2
          have he0 := hcell_later hd0 hgq2
          have he1 := hcell_later hd1 hgq2
          generalize w2.drewN nq2 = w3 at *
          have hnew6 := Lies.new w3 87 [tv x.1, tv x.2]
          have hga6 := grows_alloc w3 (.cells [tv x.1, tv x.2].toArray 87)
          have howa6 := own_later hown3 hga6
          have hsz6 : w1.heap.size ≤ (w3.alloc (.cells [tv x.1, tv x.2].toArray 87)).heap.size := Nat.le_trans hg3.size hga6.size
          go_wp2_with (at_builtin; refine wpList_append_recs rfl (.tmp 38) (.tmp 43) _ rfl w1.heap.size 87 i0 _ 2 32 (by omega) Tryz.underlying36 hi0 hz0 hz1 hz2 rfl _ acc.length _ rfl howa6 _ _ 1 1 [tv x.1, tv x.2] rfl rfl hnew6 (by intro u hu; simp at hu; rcases hu with rfl | rfl <;> rfl) (by unfold maxLen; omega) (by omega) hsz6 ?_; intro v6 w6 hown6 hg6 hat6; obtain ⟨A6, c6, rfl, hc6⟩ := own_form hown6; have G6 := (Grows.trans hg3 hga6).grown hg6 hsz6 (fun g hg' => own_ge hown3 g hg'))
          go_roundw
          case rel => exact ⟨k + 1, acc ++ [x], false, by omega, by go_num, rfl, by simp; omega, by show _ = _; simpa using HA2.out, by rw [HFC.out, List.length_append]; exact hown6, G6⟩
          case measure => simp [intOf]; omega
        · have e3 : ∀ t, binOp .geq t (tv x.1) (tv p) = (pure (.bool true) : Sem Value) := fun t => by rw [run_tge]; simp [hcm]
          rw [fPut, if_neg hcm, fDel_cons] at hA
          have HF1 := Lib.hid (fC_snoc acc (p, b))
          clear HA hcm
          go_wp2_with fail
          go_quiet (fail)
          have hgq : Grows wr (wr.drewN nq) := below_draws (Grows.refl wr)
          have hown2 := own_later hown hgq
          have hg2 := Grows.trans hg hgq
          have hb3 := hb2.later hgq
          have hr2 := hr.later hgq
          generalize wr.drewN nq = w2 at *
          have cp2 := hb3.cell (k := 0) rfl
          have cb2 := hb3.cell (k := 1) rfl
          clear hc0 hc1 cp cb
          have hnew6 := Lies.new w2 87 [tv p, tv b]
          have hga6 := grows_alloc w2 (.cells [tv p, tv b].toArray 87)
          have howa6 := own_later hown2 hga6
          have hsz6 : w1.heap.size ≤ (w2.alloc (.cells [tv p, tv b].toArray 87)).heap.size := Nat.le_trans hg2.size hga6.size
          go_wp2_with (at_builtin; refine wpList_append_recs rfl (.tmp 26) (.tmp 28) _ rfl w1.heap.size 87 i0 _ 2 32 (by omega) Tryz.underlying36 hi0 hz0 hz1 hz2 rfl _ acc.length _ rfl howa6 _ _ 1 1 [tv p, tv b] rfl rfl hnew6 (by intro u hu; simp at hu; rcases hu with rfl | rfl <;> rfl) (by unfold maxLen; omega) (by omega) hsz6 ?_; intro v6 w6 hown6 hg6 hat6; obtain ⟨A6, c6, rfl, hc6⟩ := own_form hown6; have G6 := (Grows.trans hg2 hga6).grown hg6 hsz6 (fun g hg' => own_ge hown2 g hg'))
          have hown4 : w6.ownsRow w1.heap.size 87 2 (.slice A6 (acc.length + 1) c6) (acc.length + 1) ((acc ++ [(p, b)]).map fC).flatten := by rw [HF1.out]; exact hown6
          have hA' : Hid ((acc ++ [(p, b)]) ++ (if x.1 = p then fDel (S.drop (k + 1)) p else x :: fDel (S.drop (k + 1)) p) = fPut S p b) := by show _ = _; rw [List.append_assoc]; exact hA
          have hb6 := hbox.later G6
          have hr6 := hl.later G6
          obtain ⟨gb', e4, hd0, hd1⟩ := hr6.at_ hx
          injection e4 with e4
          injection e4 with e4
          subst e4
          have cp6 := hb6.cell (k := 0) rfl
          have hacl : (acc ++ [(p, b)]).length = acc.length + 1 := by simp
          have HAL := Lib.hid hacl
          obtain ⟨acc2, hacc2⟩ : ∃ acc2, acc2 = acc ++ [(p, b)] := ⟨_, rfl⟩
          rw [← hacc2] at hown4 hA' HAL
          clear hA hacl hacc2 hown6 hown2 hr2 hb3 cp2 cb2 hnew6 howa6 HF1
          cases hb : (x.1 == p) with
          | true =>
            rw [hb] at e2
            have hA3 := hA'.out
            rw [if_pos (by simpa using hb)] at hA3
            have HA2 := Lib.hid hA3
            clear hA3 hA' hx hb e3
            go_wp2_with fail
            go_quiet (fail)
            go_wp2_with fail
            go_roundw
            case rel => exact ⟨k + 1, acc2, true, by omega, by go_num, rfl, by simp; rw [HAL.out]; omega, by show _ = _; simpa using HA2.out, by rw [HAL.out]; exact own_later hown4 (below_draws (Grows.refl _)), Grows.trans G6 (below_draws (Grows.refl _))⟩
            case measure => simp [intOf]; omega
          | false =>
            rw [hb] at e2
            have hA3 := hA'.out
            rw [if_neg (by simpa using hb)] at hA3
            have HA2 : Hid ((acc2 ++ [x]) ++ fDel (S.drop (k + 1)) p = fPut S p b) := by show _ = _; rw [List.append_assoc]; exact hA3
            have HFC := Lib.hid (fC_snoc acc2 x)
            clear hA3 hA' hx hb e3
            go_wp2_with fail
            go_quiet (fail)
            rename Nat => nq2
            have hgq2 : Grows w6 (w6.drewN nq2) := below_draws (Grows.refl w6)
            have hown5 := own_later hown4 hgq2
            have hg7 := Grows.trans G6 hgq2
            have he0 := hcell_later hd0 hgq2
            have he1 := hcell_later hd1 hgq2
            generalize w6.drewN nq2 = w7 at *
            have hnew8 := Lies.new w7 87 [tv x.1, tv x.2]
            have hga8 := grows_alloc w7 (.cells [tv x.1, tv x.2].toArray 87)
            have howa8 := own_later hown5 hga8
            have hsz8 : w1.heap.size ≤ (w7.alloc (.cells [tv x.1, tv x.2].toArray 87)).heap.size := Nat.le_trans hg7.size hga8.size
            go_wp2_with (at_builtin; refine wpList_append_recs rfl (.tmp 38) (.tmp 43) _ rfl w1.heap.size 87 i0 _ 2 32 (by omega) Tryz.underlying36 hi0 hz0 hz1 hz2 rfl _ (acc.length + 1) _ rfl howa8 _ _ 1 1 [tv x.1, tv x.2] rfl rfl hnew8 (by intro u hu; simp at hu; rcases hu with rfl | rfl <;> rfl) (by unfold maxLen; omega) (by omega) hsz8 ?_; intro v8 w8 hown8 hg8 hat8; obtain ⟨A8, c8, rfl, hc8⟩ := own_form hown8; have G8 := (Grows.trans hg7 hga8).grown hg8 hsz8 (fun g hg' => own_ge hown5 g hg'))
            go_roundw
            case rel => exact ⟨k + 1, acc2 ++ [x], true, by omega, by go_num, rfl, by simp; rw [HAL.out]; omega, by show _ = _; simpa using HA2.out, by rw [HFC.out, List.length_append, HAL.out]; exact hown8, G8⟩
            case measure => simp [intOf]; omega
    · obtain rfl : k = n := by omega
      have hA := HA.out
      rw [HN.out, List.drop_length] at hA
      cases put with
      | true =>
        simp only [if_true] at hA
        have hA2 : acc = fPut S p b := by rw [← hA]; simp [fDel]
        have HA2 := Lib.hid hA2
        clear hA HA hA2
        go_wp2_with fail
        go_ret
        refine ⟨_, rfl, ?_, Grows.trans hgb hg⟩
        have := HA2.out
        subst this
        exact FsV.own hown (fun k h => Nat.le_trans hgb.size h)
      | false =>
        rw [if_neg (by exact Bool.false_ne_true), fPut] at hA
        have HA2 := Lib.hid hA
        have HF1 := Lib.hid (fC_snoc acc (p, b))
        have hbd : acc.length ≤ k := by simpa using hac
        clear hA HA
        have hnew6 := Lies.new wr 87 [tv p, tv b]
        have hga6 := grows_alloc wr (.cells [tv p, tv b].toArray 87)
        have howa6 := own_later hown hga6
        have hsz6 : w1.heap.size ≤ (wr.alloc (.cells [tv p, tv b].toArray 87)).heap.size := Nat.le_trans hg.size hga6.size
        go_wp2_with (at_builtin; refine wpList_append_recs rfl (.tmp 47) (.tmp 49) _ rfl w1.heap.size 87 i0 _ 2 32 (by omega) Tryz.underlying36 hi0 hz0 hz1 hz2 rfl _ acc.length _ rfl howa6 _ _ 1 1 [tv p, tv b] rfl rfl hnew6 (by intro u hu; simp at hu; rcases hu with rfl | rfl <;> rfl) (by unfold maxLen; omega) (by omega) hsz6 ?_; intro v6 w6 hown6 hg6 hat6; obtain ⟨A6, c6, rfl, hc6⟩ := own_form hown6; have G6 := (Grows.trans hg hga6).grown hg6 hsz6 (fun g hg' => own_ge hown g hg'))
        go_wp2_with fail
        go_ret
        refine ⟨_, rfl, ?_, Grows.trans hgb G6⟩
        have h1 : w6.ownsRow w1.heap.size 87 2 (.slice A6 (acc ++ [(p, b)]).length c6) (acc ++ [(p, b)]).length ((acc ++ [(p, b)]).map fC).flatten := by rw [HF1.out, List.length_append]; exact hown6
        have h2 := FsV.own h1 (ok := fun k => w.heap.size ≤ k) (fun k h => Nat.le_trans hgb.size h)
        rw [HA2.out] at h2
        have hl2 : acc.length + 1 = (fPut S p b).length := by rw [← HA2.out]; simp
        show FsV w6 _ (.slice A6 (acc.length + 1) c6) _
        rw [hl2]; exact h2
end Go.Proofs.YtbcldknecdbemaaGreatDoor

/-
  The reference's Make; changes as values.
-/
namespace Go.Proofs.YtbcldknecdbemaaGreatDoor
open Go.RowKit
set_option linter.unusedVariables false
set_option maxRecDepth 20000

/-- A change as the reference has it. -/
def cC : Chg → List Value
  | .wr p b => [rv 0, tv p, tv [], tv b]
  | .rn p q => [rv 1, tv p, tv q, tv []]
  | .rm p => [rv 2, tv p, tv [], tv []]
theorem cC_len (c : Chg) : (cC c).length = 4 := by cases c <;> rfl
theorem cC_one (c : Chg) : ∀ u ∈ cC c, u.oneCell' = true := by cases c <;> (intro u hu; simp [cC] at hu; rcases hu with rfl | rfl | rfl | rfl <;> rfl)
section
variable (v : Value) (S : Fls) (w : World) (ok : Nat → Prop)
set_option maxHeartbeats 2000000 in
theorem make_wr (p b : Byts) (h : FsV w ok v S) (hn : S.length ≤ 1000000) : Calls Tryz.prog 83 #[v, .agg #[rv 0, tv p, tv [], tv b]] w fun e w' => ∃ v', e = .returned v' ∧ FsV w' (Nw w ok) v' (mkF S (.wr p b)) ∧ Grows w w' := by
  have hga := grows_alloc w (.cells [rv 0, tv p, tv [], tv b].toArray 120)
  have W := with_r v S p b _ ok (h.later hga) hn
  go_enter Tryz.func83, Tryz.ntmps83
  go_wp2_with fail
  refine W.mono ?_
  rintro e w2 ⟨v', rfl, h2, g2⟩
  go_wp2_with fail
  go_ret
  exact ⟨v', rfl, h2.mono fun k hk => .inr (Nat.le_trans hga.size hk), Grows.trans hga g2⟩
set_option maxHeartbeats 2000000 in
theorem make_rm (p : Byts) (h : FsV w ok v S) (hn : S.length ≤ 1000000) : Calls Tryz.prog 83 #[v, .agg #[rv 2, tv p, tv [], tv []]] w fun e w' => ∃ v', e = .returned v' ∧ FsV w' (Nw w ok) v' (mkF S (.rm p)) ∧ Grows w w' := by
  have hga := grows_alloc w (.cells [rv 2, tv p, tv [], tv []].toArray 120)
  have F := find_r v S p _ ok (h.later hga) hn
  have W := without_r v S p _ ok (h.later hga) hn
  show Calls _ _ _ _ fun e w' => ∃ v', e = .returned v' ∧ FsV w' (Nw w ok) v' (fDel S p) ∧ Grows w w'
  obtain ⟨A, c, rfl⟩ := h.form
  rcases findI_spec p S 0 with ⟨e1, e2⟩ | ⟨j, b, e1, e2, e3⟩
  · rw [e1] at F
    rw [fDel_none e2]
    clear e1 e2
    go_enter Tryz.func83, Tryz.ntmps83
    go_wp2_with fail
    refine F.mono ?_
    rintro e w2 ⟨rfl, rfl⟩
    go_wp2_with fail
    go_ret
    exact ⟨_, rfl, (h.later hga).mono fun k hk => .inl hk, hga⟩
  · rw [e1, Nat.zero_add] at F
    clear e1 e2 e3
    go_enter Tryz.func83, Tryz.ntmps83
    go_wp2_with fail
    refine F.mono ?_
    rintro e w2 ⟨rfl, rfl⟩
    go_wp2_with fail
    refine W.mono ?_
    rintro e w3 ⟨v', rfl, h2, g2⟩
    go_wp2_with fail
    go_ret
    exact ⟨v', rfl, h2.mono fun k hk => .inr (Nat.le_trans hga.size hk), Grows.trans hga g2⟩
set_option maxHeartbeats 2000000 in
theorem make_rn (p q : Byts) (h : FsV w ok v S) (hn : S.length ≤ 1000000) : Calls Tryz.prog 83 #[v, .agg #[rv 1, tv p, tv q, tv []]] w fun e w' => ∃ v', e = .returned v' ∧ FsV w' (Nw w ok) v' (mkF S (.rn p q)) ∧ Grows w w' := by
  have hbox := Has.new w 120 [rv 1, tv p, tv q, tv []]
  have hga := grows_alloc w (.cells [rv 1, tv p, tv q, tv []].toArray 120)
  have F := find_r v S p _ ok (h.later hga) hn
  have WO := fun u (hu : Grows w u) => without_r v S p u ok (h.later hu) hn
  obtain ⟨A, c, rfl⟩ := h.form
  rcases findI_spec p S 0 with ⟨e1, e2⟩ | ⟨j, b, e1, e2, e3⟩
  · rw [e1] at F
    rw [show mkF S (.rn p q) = S by simp [mkF, e2]]
    clear e1 e2
    go_enter Tryz.func83, Tryz.ntmps83
    go_wp2_with fail
    refine F.mono ?_
    rintro e w2 ⟨rfl, rfl⟩
    go_wp2_with fail
    go_ret
    exact ⟨_, rfl, (h.later hga).mono fun k hk => .inl hk, hga⟩
  · rw [e1, Nat.zero_add] at F
    rw [show mkF S (.rn p q) = fPut (fDel S p) q b by simp [mkF, e3]]
    have hjl : j < S.length := (List.getElem?_eq_some_iff.1 e2).1
    have hdl : (fDel S p).length ≤ 1000000 := Nat.le_trans (fDel_sub S p).length_le hn
    obtain ⟨gb, rfl, hc0, hc1⟩ := h.at_ e2
    obtain ⟨n, hnn⟩ : ∃ n, n = S.length := ⟨_, rfl⟩
    rw [← hnn] at h F WO hjl ⊢
    have b0 : (j : Int) < (n : Int) := by omega
    have d0 : decide ((j : Int) < 0) = false := by simp
    clear e1 e2 e3 hnn
    go_enter Tryz.func83, Tryz.ntmps83
    go_wp2_with fail
    refine F.mono ?_
    rintro e w2 ⟨rfl, rfl⟩
    go_wp2_with fail
    change Code.wp _ _ _ _ (w.alloc (.cells [rv 1, tv p, tv q, tv []].toArray 120))
    generalize w.alloc (.cells [rv 1, tv p, tv q, tv []].toArray 120) = w1 at *
    generalize hBe : w.heap.size = B at *
    have HB := Lib.hid hBe
    clear hBe
    have hgd := (Grows.refl w1).drew
    have c1 : ∀ u, Grows w1.drew u → u.cell? ⟨B, 1, none⟩ = some (tv p) := fun u hu => (hbox.later (Grows.trans hgd hu)).cell (k := 1) rfl
    have c2 : ∀ u, Grows w1.drew u → u.cell? ⟨B, 2, none⟩ = some (tv q) := fun u hu => (hbox.later (Grows.trans hgd hu)).cell (k := 2) rfl
    have c3 : ∀ u, Grows w1.drew u → u.cell? ⟨gb, j * 2 + 1, none⟩ = some (tv b) := fun u hu => hcell_later hc1 (Grows.trans hga (Grows.trans hgd hu))
    refine wp_region_ord 14 [(0, true), (1, true), (2, true), (4, true), (5, true), (6, true), (7, true), (8, true), (9, true), (10, true), (11, true), (3, false), (12, false), (13, true)] (by kernel_rfl) (by kernel_rfl) ?_
    have hO := Grows.refl w1.drew
    have hgwd := Grows.trans hga hgd
    generalize hwd : w1.drew = wd at *
    clear hwd
    repeat (first | (refine ord_take hO _ ?_ (by simp only [List.getElem?_cons_succ, List.getElem?_cons_zero]; rfl) (by rfl) ?_ ?_; rotate_left; (· (intro u hu0 hu; (try go_simp); (try with_reducible rfl))); try simp only [Act.put, List.setIfInBounds_toArray, List.set_cons_zero, List.set_cons_succ]) | (refine ord_skip _ (by simp only [List.getElem?_cons_succ, List.getElem?_cons_zero]; rfl) (by rfl) ?_; try simp only [Act.put, List.setIfInBounds_toArray, List.set_cons_zero, List.set_cons_succ]))
    (refine ord_move _ (by simp only [List.getElem?_cons_succ, List.getElem?_cons_zero]; rfl) (by rfl) (fun u hu K hK => ?_); go_simp)
    refine (WO u (Grows.trans hgwd hu)).mono ?_
    rintro e w3 ⟨v3, rfl, h3, g3⟩
    refine hK.out _ _ g3 ?_
    clear hK K hO
    have gu3 := Grows.trans hu g3
    have c1' : ∀ u, Grows w3 u → u.cell? ⟨B, 1, none⟩ = some (tv p) := fun u hu => c1 u (Grows.trans gu3 hu)
    have c2' : ∀ u, Grows w3 u → u.cell? ⟨B, 2, none⟩ = some (tv q) := fun u hu => c2 u (Grows.trans gu3 hu)
    have c3' : ∀ u, Grows w3 u → u.cell? ⟨gb, j * 2 + 1, none⟩ = some (tv b) := fun u hu => c3 u (Grows.trans gu3 hu)
    have hgu : w.heap.size ≤ u.heap.size := (Grows.trans hgwd hu).size
    have hgw3 := Grows.trans hgwd gu3
    clear c1 c2 c3 hu g3 gu3
    have hO := Grows.refl w3
    repeat (first | (refine ord_take hO _ ?_ (by simp only [List.getElem?_cons_succ, List.getElem?_cons_zero]; rfl) (by rfl) ?_ ?_; rotate_left; (· (intro u hu0 hu; (try go_simp); (try with_reducible rfl))); try simp only [Act.put, List.setIfInBounds_toArray, List.set_cons_zero, List.set_cons_succ]) | (refine ord_skip _ (by simp only [List.getElem?_cons_succ, List.getElem?_cons_zero]; rfl) (by rfl) ?_; try simp only [Act.put, List.setIfInBounds_toArray, List.set_cons_zero, List.set_cons_succ]))
    (refine ord_move _ (by simp only [List.getElem?_cons_succ, List.getElem?_cons_zero]; rfl) (by rfl) (fun u hu K hK => ?_); go_simp)
    rename World => u5
    have hu5 := hu.size
    refine (with_r v3 (fDel S p) q b u5 _ (h3.later hu) hdl).mono ?_
    rintro e w6 ⟨v6, rfl, h6, g6⟩
    refine hK.out _ _ g6 ?_
    have hgw6 := Grows.trans hgw3 (Grows.trans hu g6)
    clear hK K hO c1' c2' c3'
    have hs5 := (Grows.trans hgw3 hu).size
    have hO := Grows.refl w6
    repeat (first | (refine ord_take hO _ ?_ (by simp only [List.getElem?_cons_succ, List.getElem?_cons_zero]; rfl) (by rfl) ?_ ?_; rotate_left; (· (intro u hu0 hu; (try go_simp); (try with_reducible rfl))); try simp only [Act.put, List.setIfInBounds_toArray, List.set_cons_zero, List.set_cons_succ]) | (refine ord_skip _ (by simp only [List.getElem?_cons_succ, List.getElem?_cons_zero]; rfl) (by rfl) ?_; try simp only [Act.put, List.setIfInBounds_toArray, List.set_cons_zero, List.set_cons_succ]))
    refine ord_done (fun w7 hu7 => ?_); simp only [List.drop_succ_cons, List.drop_zero]
    go_wp2_with fail
    refine NoPanic.normal ?_
    go_wp2_with fail
    go_ret
    exact ⟨v6, rfl, (h6.later hu7).mono fun k hk => .inr (Nat.le_trans hs5 hk), Grows.trans hgw6 hu7⟩
end
theorem make_r (v : Value) (S : Fls) (w : World) (ok : Nat → Prop) (c : Chg) (h : FsV w ok v S) (hn : S.length ≤ 1000000) : Calls Tryz.prog 83 #[v, .agg (cC c).toArray] w fun e w' => ∃ v', e = .returned v' ∧ FsV w' (Nw w ok) v' (mkF S c) ∧ Grows w w' := by
  cases c with
  | wr p b => exact make_wr v S w ok p b h hn
  | rn p q => exact make_rn v S w ok p q h hn
  | rm p => exact make_rm v S w ok p h hn

/-- A list of changes, as a value. -/
def CsV (w : World) (ok : Nat → Prop) (v : Value) (l : List Chg) : Prop := ∃ A c, v = .slice A l.length c ∧ l.length ≤ c ∧ c ≤ maxLen ∧ LiesIn ok w A (l.map cC).flatten ∧ (A = none ∨ ∃ g, A = some ⟨g, 0, none⟩)
section
variable {w w' : World} {ok ok' Q : Nat → Prop} {v : Value} {l : List Chg}
theorem CsV.later (h : CsV w ok v l) (hg : Grows w w') : CsV w' ok v l := by
  obtain ⟨A, c, a, b, d, e, f⟩ := h
  exact ⟨A, c, a, b, d, e.later hg, f⟩
theorem CsV.turned (h : CsV w ok v l) (ht : Turns Q w w') (hQ : ∀ k, ok k → ¬ Q k) : CsV w' ok v l := by
  obtain ⟨A, c, a, b, d, e, f⟩ := h
  exact ⟨A, c, a, b, d, e.turned ht hQ, f⟩
theorem CsV.mono (h : CsV w ok v l) (hk : ∀ k, ok k → ok' k) : CsV w ok' v l := by
  obtain ⟨A, c, a, b, d, e, f⟩ := h
  exact ⟨A, c, a, b, d, e.mono hk, f⟩
theorem CsV.cut (h : CsV w ok v l) : CsV w (fun k => ok k ∧ k < w.heap.size) v l := by
  obtain ⟨A, c, a, b, d, e, f⟩ := h
  exact ⟨A, c, a, b, d, lies_cut e, f⟩
theorem CsV.nil (w : World) (ok : Nat → Prop) : CsV w ok (.slice none 0 0) [] := ⟨none, 0, rfl, Nat.le_refl _, Nat.zero_le _, fun j u hu => by simp at hu, .inl rfl⟩
theorem CsV.form (h : CsV w ok v l) : ∃ A c, v = .slice A l.length c := by
  obtain ⟨A, c, a, _⟩ := h
  exact ⟨A, c, a⟩
theorem cCs_len (l : List Chg) : ∀ r ∈ l.map cC, r.length = 4 := fun r hr => by
  obtain ⟨x, _, rfl⟩ := List.mem_map.1 hr
  exact cC_len x
theorem cCs_one (l : List Chg) : ∀ u ∈ (l.map cC).flatten, u.oneCell' = true := fun u hu => by
  obtain ⟨r, hr, hu⟩ := List.mem_flatten.1 hu
  obtain ⟨x, _, rfl⟩ := List.mem_map.1 hr
  exact cC_one x u hu
theorem CsV.own {base : Nat} (h : w.ownsRow base 120 4 v l.length (l.map cC).flatten) (hb : ∀ k, base ≤ k → ok k) : CsV w ok v l := by
  rcases h.2 with ⟨rfl, h0⟩ | ⟨g, c, cur, rfl, hg, hh, hnc, hm, hs, ht⟩
  · have : l = [] := by
      cases l with
      | nil => rfl
      | cons x r =>
        simp at h0
    subst this
    exact CsV.nil _ _
  · refine ⟨_, c, rfl, hnc, hm, fun j u hu => ⟨_, rfl, hb g hg, ?_⟩, .inr ⟨g, rfl⟩⟩
    rw [add_plain, Nat.zero_add, cell_of_row w g _ cur 120 (0, 0) hh]
    have h2 : (cur.toList.take (l.length * 4))[j]? = some u := by rw [ht]; exact hu
    rw [List.getElem?_take] at h2
    split at h2
    · simpa using h2
    · cases h2
theorem CsV.at_ {A : Option Addr} {n c : Nat} (h : CsV w ok (.slice A n c) l) {i : Nat} {x : Chg} (hi : l[i]? = some x) : ∃ g, A = some ⟨g, 0, none⟩ ∧ w.rangeAt g (i * 4) (cC x) := by
  obtain ⟨A', c', e1, h1, h2, h3, h4⟩ := h
  injection e1 with e1 _ _
  subst e1
  have hi' : (l.map cC)[i]? = some (cC x) := by rw [List.getElem?_map, hi]; rfl
  obtain ⟨u0, hu0⟩ : ∃ u, (cC x)[0]? = some u := by cases x <;> exact ⟨_, rfl⟩
  rcases h4 with h4 | ⟨g, h4⟩
  · obtain ⟨ad, e, _⟩ := h3 _ _ (flat_at (cCs_len l) hi' hu0)
    rw [h4] at e; cases e
  · refine ⟨g, h4, fun j u hu => ?_⟩
    obtain ⟨ad, e, _, hc⟩ := h3 _ _ (flat_at (cCs_len l) hi' hu)
    rw [h4] at e
    injection e with e
    subst e
    rw [add_plain, Nat.zero_add] at hc
    exact hc
end
end Go.Proofs.YtbcldknecdbemaaGreatDoor

/-
  The reference's do.
-/
namespace Go.Proofs.YtbcldknecdbemaaGreatDoor
open Go.RowKit
set_option linter.unusedVariables false
set_option maxRecDepth 20000

/-- The reference's disk in memory. -/
structure RDk (w : World) (ok : Nat → Prop) (sv lv wv : Value) (D : Dk) : Prop where
  seen : FsV w ok sv D.seen
  lasts : FsV w ok lv D.lasts
  waits : CsV w ok wv D.waits
section
variable {w w' : World} {ok ok' Q : Nat → Prop} {sv lv wv : Value} {D : Dk}
theorem RDk.later (h : RDk w ok sv lv wv D) (hg : Grows w w') : RDk w' ok sv lv wv D := ⟨h.seen.later hg, h.lasts.later hg, h.waits.later hg⟩
theorem RDk.turned (h : RDk w ok sv lv wv D) (ht : Turns Q w w') (hQ : ∀ k, ok k → ¬ Q k) : RDk w' ok sv lv wv D := ⟨h.seen.turned ht hQ, h.lasts.turned ht hQ, h.waits.turned ht hQ⟩
theorem RDk.mono (h : RDk w ok sv lv wv D) (hk : ∀ k, ok k → ok' k) : RDk w ok' sv lv wv D := ⟨h.seen.mono hk, h.lasts.mono hk, h.waits.mono hk⟩
theorem RDk.cut (h : RDk w ok sv lv wv D) : RDk w (fun k => ok k ∧ k < w.heap.size) sv lv wv D := ⟨h.seen.cut, h.lasts.cut, h.waits.cut⟩
end
theorem three_b (w : World) (A B C : List Value) (ta tb tc : TypeId) (w3 : World) (h : w3 = ((w.alloc (.cells A.toArray ta)).alloc (.cells B.toArray tb)).alloc (.cells C.toArray tc)) :
    Has w3 w.heap.size A ∧ Has w3 (w.heap.size + 1) B ∧ Has w3 (w.heap.size + 2) C ∧ Grows w w3 ∧ w3.heap.size = w.heap.size + 3 := by
  subst h
  have h1 := Has.new w ta A
  have h2 := Has.new (w.alloc (.cells A.toArray ta)) tb B
  have h3 := Has.new ((w.alloc (.cells A.toArray ta)).alloc (.cells B.toArray tb)) tc C
  rw [World.size_alloc] at h2
  rw [World.size_alloc, World.size_alloc] at h3
  refine ⟨(h1.later (grows_alloc _ _)).later (grows_alloc _ _), h2.later (grows_alloc _ _), h3, Grows.trans (grows_alloc _ _) (Grows.trans (grows_alloc _ _) (grows_alloc _ _)), by simp⟩
theorem c_info : (Tryz.prog.info? 120).map (fun i => (i.zero, i.size, i.bytes)) = some (some (.agg #[.int .i64 0, .string ⟨#[]⟩, .string ⟨#[]⟩, .string ⟨#[]⟩]), 4, 56) := by kernel_rfl
theorem d_size : (Tryz.prog.info? 39).map (·.size) = some 5 := by kernel_rfl
set_option maxHeartbeats 4000000 in
theorem do_r (D : Dk) (sv lv wv : Value) (w : World) (ok : Nat → Prop) (c : Chg) (h : RDk w ok sv lv wv D) (hn : D.seen.length ≤ 1000000) (hw : D.waits.length ≤ 1000000) (hp : -1 ≤ D.power ∧ D.power ≤ 9223372036854775807) :
    Calls Tryz.prog 79 #[dV D sv lv wv, .agg (cC c).toArray] w fun e w' => ∃ sv' wv', e = .returned (dV (D.do_ c) sv' lv wv') ∧ RDk w' (Nw w ok) sv' lv wv' (D.do_ c) ∧ Grows w w' := by
  obtain ⟨x0, x1, x2, x3, hcc⟩ : ∃ x0 x1 x2 x3, cC c = [x0, x1, x2, x3] := by cases c <;> exact ⟨_, _, _, _, rfl⟩
  obtain ⟨Aw, cw, rfl⟩ := h.waits.form
  obtain ⟨As, cs, rfl⟩ := h.seen.form
  have MK := fun u (hu : Grows w u) => make_r _ D.seen u (fun k => ok k ∧ k < w.heap.size) c (h.cut.seen.later hu) hn
  rw [hcc] at MK ⊢
  have hone := cC_one c
  rw [hcc] at hone
  have HCC := Lib.hid hcc
  clear hcc
  obtain ⟨i0, hi0, hz0, hz1, hz2⟩ := info_parts c_info
  have h3 := three_b w [rv D.room, .slice As D.seen.length cs, lv, .slice Aw D.waits.length cw, rv D.power] [x0, x1, x2, x3] [rv 0, .slice none 0 0, .slice none 0 0, .slice none 0 0, rv 0] 39 120 39 _ rfl
  obtain ⟨b1, b2, b3, g1, s1⟩ := h3
  go_enter Tryz.func79, Tryz.ntmps79
  go_wp2_with fail
  change Calls _ _ _ (((w.alloc (.cells [rv D.room, .slice As D.seen.length cs, lv, .slice Aw D.waits.length cw, rv D.power].toArray 39)).alloc (.cells [x0, x1, x2, x3].toArray 120)).alloc (.cells [rv 0, .slice none 0 0, .slice none 0 0, .slice none 0 0, rv 0].toArray 39)) _
  generalize ((w.alloc (.cells [rv D.room, .slice As D.seen.length cs, lv, .slice Aw D.waits.length cw, rv D.power].toArray 39)).alloc (.cells [x0, x1, x2, x3].toArray 120)).alloc (.cells [rv 0, .slice none 0 0, .slice none 0 0, .slice none 0 0, rv 0].toArray 39) = w3 at *
  have h3r := h.later g1
  have HSZ := Lib.hid s1
  clear s1
  generalize hE : w.heap.size + 2 = E at *
  generalize hC : w.heap.size + 1 = C at *
  generalize hB : w.heap.size = B at *
  have HB := Lib.hid hB
  have HC := Lib.hid hC
  have HE := Lib.hid hE
  clear hB hC hE
  refine (MK _ g1).mono ?_
  rintro e w4 ⟨sv', rfl, hs4, g4⟩
  obtain ⟨As', cs', rfl⟩ := hs4.form
  have b14 := b1.later g4
  have b24 := b2.later g4
  have b34 := b3.later g4
  have f11 := b14.free 1
  have e11 := b14.cell (k := 1) rfl
  have hLw := (lies_cut h.waits.choose_spec.choose_spec.2.2.2.1).lies (B := B) (fun k hk => by have := HB.out; omega)
  have hAw : h.waits.choose = Aw := by
    have := h.waits.choose_spec.choose_spec.1
    injection this with e1 _ _
    exact e1.symm
  rw [hAw] at hLw
  clear hAw
  have G4 : Below B w w4 := Below.mono (Grows.trans g1 g4) (Nat.le_of_eq HB.out.symm)
  have hBlt := b14.lt
  have G5 : Below B w (w4.setCell ⟨B, 1, none⟩ (.slice As' (mkF D.seen c).length cs')) := Below.setCell G4 (p := ⟨B, 1, none⟩) (Nat.le_refl _) _
  have b15 := b14.set_ (k := 1) (by simp) (.slice As' (mkF D.seen c).length cs')
  have t5 := Turns.of_set (S := fun k => k = B) (b := B) (o := 1) w4 (.slice As' (mkF D.seen c).length cs') rfl
  have b25 := b24.turned t5 (by have := HC.out; omega)
  have b35 := b34.turned t5 (by have := HE.out; omega)
  have hs5 : (w4.setCell ⟨B, 1, none⟩ (.slice As' (mkF D.seen c).length cs')).heap.size = w4.heap.size := by simp [World.setCell]
  have HS5 := Lib.hid hs5
  have hL5 := hLw.below G5
  have e53 := b15.cell (k := 3) rfl
  have f53 := b15.free 3
  have c50 := b25.cell (k := 0) rfl
  have c51 := b25.cell (k := 1) rfl
  have c52 := b25.cell (k := 2) rfl
  have c53 := b25.cell (k := 3) rfl
  have hwl : w3.heap.size ≤ w4.heap.size := g4.size
  obtain ⟨n, hnn⟩ : ∃ n, n = D.waits.length := ⟨_, rfl⟩
  have hLl : (D.waits.map cC).flatten.length = n * 4 := by rw [flat_len (cCs_len _), List.length_map, hnn]
  have HLL := Lib.hid hLl
  have HN := Lib.hid hnn
  rw [← hnn] at hw h h3r b1 b14 b15 e53 ⊢
  clear hs5 hLl hnn hLw
  have hBs : B + 2 < w4.heap.size := by have := b34.lt; have := HE.out; omega
  have HLV : Hid (lv.oneCell' = true) := by
    show _ = _
    obtain ⟨A9, c9, e9, _⟩ := h.lasts
    rw [e9]; rfl
  by_cases hpos : 0 < D.power
  · have dp : decide (D.power > 0) = true := by simpa using hpos
    have wp : wrap64 (D.power - 1) = D.power - 1 := by unfold wrap64; omega
    go_wp2_with (first
      | (at_builtin; refine wpList_append_recs rfl (.tmp 11) (.tmp 13) _ rfl w4.heap.size 120 i0 _ 4 56 (by omega) Tryz.underlying37 hi0 hz0 hz1 hz2 rfl (.slice none 0 0) 0 [] rfl (World.ownsRow_nil _ _ _ _) B Aw n cw (D.waits.map cC).flatten rfl HLL.out hL5 (cCs_one D.waits) (by unfold maxLen; omega) (by omega) (Nat.le_of_eq HS5.out.symm) ?_; intro v6 w6 hown6 hg6 hat6; rw [Nat.zero_add, List.nil_append] at hown6; obtain ⟨A6, c6, rfl, hc6⟩ := own_form hown6; have t6 : Turns (fun _ => False) _ w6 := Turns.of_by hg6 (fun g hg _ => by simp [Value.ownBlock] at hg); have b16 := b15.turned t6 (fun e => e); have b26 := b25.turned t6 (fun e => e); have b36 := b35.turned t6 (fun e => e); have d0 := b26.cell (k := 0) rfl; have d1 := b26.cell (k := 1) rfl; have d2 := b26.cell (k := 2) rfl; have d3 := b26.cell (k := 3) rfl; have hga6 := grows_alloc w6 (.cells [x0, x1, x2, x3].toArray 120); have hnew6 := Lies.new w6 120 [x0, x1, x2, x3]; have hown7 := own_later hown6 hga6; have hs7 : w4.heap.size ≤ (w6.alloc (.cells [x0, x1, x2, x3].toArray 120)).heap.size := Nat.le_trans (Nat.le_of_eq HS5.out.symm) (Nat.le_trans t6.size hga6.size); clear hat6 hc6)
      | (at_builtin; refine wpList_append_recs rfl (.tmp 15) (.tmp 17) _ rfl w4.heap.size 120 i0 _ 4 56 (by omega) Tryz.underlying37 hi0 hz0 hz1 hz2 rfl _ n _ rfl hown7 _ _ 1 1 [x0, x1, x2, x3] rfl rfl hnew6 hone (by unfold maxLen; omega) (by omega) hs7 ?_; intro v8 w8 hown8 hg8 hat8; obtain ⟨A8, c8, rfl, hc8⟩ := own_form hown8; have t8 : Turns (fun k => w4.heap.size ≤ k) _ w8 := Turns.of_by hg8 (fun g hg _ => own_ge hown7 g hg); have b18 := (b16.later hga6).turned t8 (by omega); have b38 := (b36.later hga6).turned t8 (by have := HE.out; omega); have e83 := b18.cell (k := 3) rfl; have f83 := b18.free 3; have b19 := b18.set_ (k := 3) (by simp) (.slice A8 (n + 1) c8); have t9 := Turns.of_set (S := fun k => k = B) (b := B) (o := 3) w8 (.slice A8 (n + 1) c8) rfl; have b39 := b38.turned t9 (by have := HE.out; omega); have q0 := b19.cell (k := 0) rfl; have q1 := b19.cell (k := 1) rfl; have q2 := b19.cell (k := 2) rfl; have q3 := b19.cell (k := 3) rfl; have q4 := b19.cell (k := 4) rfl; clear hat8 hc8; have f94 := b19.free 4; have b20 := b19.set_ (k := 4) (by simp) (rv (D.power - 1)); have t20 := Turns.of_set (S := fun k => k = B) (b := B) (o := 4) (w8.setCell ⟨B, 3, none⟩ (.slice A8 (n + 1) c8)) (rv (D.power - 1)) rfl; have b30 := b39.turned t20 (by have := HE.out; omega); have r0 := b20.cell (k := 0) rfl; have r1 := b20.cell (k := 1) rfl; have r2 := b20.cell (k := 2) rfl; have r3 := b20.cell (k := 3) rfl; have r4 := b20.cell (k := 4) rfl)
      | (refine wpList_storeT rfl 39 (.tmp 4) (.tmp 27) rfl E _ [rv D.room, .slice As' (mkF D.seen c).length cs', lv, .slice A8 (n + 1) c8, rv (D.power - 1)] 5 rfl rfl b30 rfl rfl d_size (by intro u hu; simp at hu; rcases hu with rfl | rfl | rfl | rfl | rfl <;> first | rfl | exact HLV.out) ?_; intro w12 b12 t12))
    refine bodyPost_ret (res_has (vs := [rv D.room, .slice As' (mkF D.seen c).length cs', lv, .slice A8 (n + 1) c8, rv (D.power - 1)]) rfl _ rfl Tryz.underlying39 rfl d_size b12) rfl ?_
    have hpw : (D.do_ c).power = (D.power - 1) := if_pos hpos
    have TA : Turns (fun k => k = B ∨ k = E) w8 w12 := Turns.trans ((t9.trans t20).mono fun k _ e => .inl e) (t12.mono fun k _ e => .inr e)
    have TB : Turns (fun k => k = B ∨ k = E ∨ w4.heap.size ≤ k) w4 w12 := (((t5.mono fun k _ e => .inl e).trans (t6.mono fun k _ e => e.elim)).trans (Turns.of_grows hga6)).trans ((t8.mono fun k _ e => .inr (.inr e)).trans (TA.mono fun k _ e => e.elim .inl (fun e => .inr (.inl e))))
    have hsz := HSZ.out
    have hbb := HB.out
    have hee := HE.out
    have hsz4 := g4.size
    have hown12 := own_turned hown8 TA (fun g hg e => by have := own_ge hown8 g hg; omega)
    have hLn : n + 1 = (D.waits ++ [c]).length := by rw [HN.out]; simp
    have hLc : (D.waits.map cC).flatten ++ [x0, x1, x2, x3] = ((D.waits ++ [c]).map cC).flatten := by rw [List.map_append, List.flatten_append, ← HCC.out]; simp
    rw [hLn, hLc] at hown12
    refine ⟨.slice As' (mkF D.seen c).length cs', .slice A8 (n + 1) c8, by show _ = Ending.returned (.agg #[rv D.room, _, lv, _, rv (D.do_ c).power]); rw [hpw], ⟨?_, ?_, ?_⟩, ?_⟩
    · refine (hs4.cut.turned TB (fun k hk e => ?_)).mono fun k hk => ?_
      · obtain ⟨h1 | h1, h2⟩ := hk <;> omega
      · obtain ⟨h1 | h1, h2⟩ := hk
        · exact .inl h1.1
        · exact .inr (by omega)
    · exact (((h.lasts.cut).later (Grows.trans g1 g4)).turned TB (fun k hk e => by obtain ⟨h1, h2⟩ := hk; have := (Grows.trans g1 g4).size; omega)).mono fun k hk => .inl hk.1
    · rw [hLn]
      exact CsV.own hown12 (fun k hk => .inr (by omega))
    · exact ((Turns.of_grows (S := fun k => B ≤ k) (Grows.trans g1 g4)).trans (TB.mono fun k _ e => by omega)).grows (fun k hk => by omega)
  · have dp : decide (D.power > 0) = false := by simpa using hpos
    go_wp2_with (first
      | (at_builtin; refine wpList_append_recs rfl (.tmp 11) (.tmp 13) _ rfl w4.heap.size 120 i0 _ 4 56 (by omega) Tryz.underlying37 hi0 hz0 hz1 hz2 rfl (.slice none 0 0) 0 [] rfl (World.ownsRow_nil _ _ _ _) B Aw n cw (D.waits.map cC).flatten rfl HLL.out hL5 (cCs_one D.waits) (by unfold maxLen; omega) (by omega) (Nat.le_of_eq HS5.out.symm) ?_; intro v6 w6 hown6 hg6 hat6; rw [Nat.zero_add, List.nil_append] at hown6; obtain ⟨A6, c6, rfl, hc6⟩ := own_form hown6; have t6 : Turns (fun _ => False) _ w6 := Turns.of_by hg6 (fun g hg _ => by simp [Value.ownBlock] at hg); have b16 := b15.turned t6 (fun e => e); have b26 := b25.turned t6 (fun e => e); have b36 := b35.turned t6 (fun e => e); have d0 := b26.cell (k := 0) rfl; have d1 := b26.cell (k := 1) rfl; have d2 := b26.cell (k := 2) rfl; have d3 := b26.cell (k := 3) rfl; have hga6 := grows_alloc w6 (.cells [x0, x1, x2, x3].toArray 120); have hnew6 := Lies.new w6 120 [x0, x1, x2, x3]; have hown7 := own_later hown6 hga6; have hs7 : w4.heap.size ≤ (w6.alloc (.cells [x0, x1, x2, x3].toArray 120)).heap.size := Nat.le_trans (Nat.le_of_eq HS5.out.symm) (Nat.le_trans t6.size hga6.size); clear hat6 hc6)
      | (at_builtin; refine wpList_append_recs rfl (.tmp 15) (.tmp 17) _ rfl w4.heap.size 120 i0 _ 4 56 (by omega) Tryz.underlying37 hi0 hz0 hz1 hz2 rfl _ n _ rfl hown7 _ _ 1 1 [x0, x1, x2, x3] rfl rfl hnew6 hone (by unfold maxLen; omega) (by omega) hs7 ?_; intro v8 w8 hown8 hg8 hat8; obtain ⟨A8, c8, rfl, hc8⟩ := own_form hown8; have t8 : Turns (fun k => w4.heap.size ≤ k) _ w8 := Turns.of_by hg8 (fun g hg _ => own_ge hown7 g hg); have b18 := (b16.later hga6).turned t8 (by omega); have b38 := (b36.later hga6).turned t8 (by have := HE.out; omega); have e83 := b18.cell (k := 3) rfl; have f83 := b18.free 3; have b19 := b18.set_ (k := 3) (by simp) (.slice A8 (n + 1) c8); have t9 := Turns.of_set (S := fun k => k = B) (b := B) (o := 3) w8 (.slice A8 (n + 1) c8) rfl; have b39 := b38.turned t9 (by have := HE.out; omega); have q0 := b19.cell (k := 0) rfl; have q1 := b19.cell (k := 1) rfl; have q2 := b19.cell (k := 2) rfl; have q3 := b19.cell (k := 3) rfl; have q4 := b19.cell (k := 4) rfl; clear hat8 hc8)
      | (refine wpList_storeT rfl 39 (.tmp 4) (.tmp 27) rfl E _ [rv D.room, .slice As' (mkF D.seen c).length cs', lv, .slice A8 (n + 1) c8, rv D.power] 5 rfl rfl b39 rfl rfl d_size (by intro u hu; simp at hu; rcases hu with rfl | rfl | rfl | rfl | rfl <;> first | rfl | exact HLV.out) ?_; intro w12 b12 t12))
    refine bodyPost_ret (res_has (vs := [rv D.room, .slice As' (mkF D.seen c).length cs', lv, .slice A8 (n + 1) c8, rv D.power]) rfl _ rfl Tryz.underlying39 rfl d_size b12) rfl ?_
    have hpw : (D.do_ c).power = D.power := if_neg (by omega)
    have TA : Turns (fun k => k = B ∨ k = E) w8 w12 := Turns.trans (t9.mono fun k _ e => .inl e) (t12.mono fun k _ e => .inr e)
    have TB : Turns (fun k => k = B ∨ k = E ∨ w4.heap.size ≤ k) w4 w12 := (((t5.mono fun k _ e => .inl e).trans (t6.mono fun k _ e => e.elim)).trans (Turns.of_grows hga6)).trans ((t8.mono fun k _ e => .inr (.inr e)).trans (TA.mono fun k _ e => e.elim .inl (fun e => .inr (.inl e))))
    have hsz := HSZ.out
    have hbb := HB.out
    have hee := HE.out
    have hsz4 := g4.size
    have hown12 := own_turned hown8 TA (fun g hg e => by have := own_ge hown8 g hg; omega)
    have hLn : n + 1 = (D.waits ++ [c]).length := by rw [HN.out]; simp
    have hLc : (D.waits.map cC).flatten ++ [x0, x1, x2, x3] = ((D.waits ++ [c]).map cC).flatten := by rw [List.map_append, List.flatten_append, ← HCC.out]; simp
    rw [hLn, hLc] at hown12
    refine ⟨.slice As' (mkF D.seen c).length cs', .slice A8 (n + 1) c8, by show _ = Ending.returned (.agg #[rv D.room, _, lv, _, rv (D.do_ c).power]); rw [hpw], ⟨?_, ?_, ?_⟩, ?_⟩
    · refine (hs4.cut.turned TB (fun k hk e => ?_)).mono fun k hk => ?_
      · obtain ⟨h1 | h1, h2⟩ := hk <;> omega
      · obtain ⟨h1 | h1, h2⟩ := hk
        · exact .inl h1.1
        · exact .inr (by omega)
    · exact (((h.lasts.cut).later (Grows.trans g1 g4)).turned TB (fun k hk e => by obtain ⟨h1, h2⟩ := hk; have := (Grows.trans g1 g4).size; omega)).mono fun k hk => .inl hk.1
    · rw [hLn]
      exact CsV.own hown12 (fun k hk => .inr (by omega))
    · exact ((Turns.of_grows (S := fun k => B ≤ k) (Grows.trans g1 g4)).trans (TB.mono fun k _ e => by omega)).grows (fun k hk => by omega)
end Go.Proofs.YtbcldknecdbemaaGreatDoor

/-
  The reference's New, Read, Write.
-/
namespace Go.Proofs.YtbcldknecdbemaaGreatDoor
open Go.RowKit
set_option linter.unusedVariables false
set_option maxRecDepth 20000

theorem res_has_two {P : Program} {fn : Func} {p q b : Nat} {t : TypeId} {d : TypeDesc} {vs : List Value} {w : World} (h : fn.results = #[.cell p t, .tmp q]) (tmps : Array Value) (hp : tmps.getD p undef = .pointer (some ⟨b, 0, none⟩))
    (ht : P.underlying t = some d) (hd : d.isRow = true) (hi : (P.info? t).map (·.size) = some vs.length) (hb : Has w b vs) : (results fn tmps).run P w = .ok (.tuple #[.agg vs.toArray, tmps.getD q undef]) w := by
  have hp' : tmps[p]?.getD undef = .pointer (some ⟨b, 0, none⟩) := by simpa using hp
  simp [results, h, hp', asAddr, run_loadVar_mid w b 0 t vs d hb.cells ht hd hi]
theorem new_r (room : Int) (w : World) (ok : Nat → Prop) : Calls Tryz.prog 34 #[rv room] w fun e w' => e = .returned (dV (newD room) (.slice none 0 0) (.slice none 0 0) (.slice none 0 0)) ∧ RDk w' ok (.slice none 0 0) (.slice none 0 0) (.slice none 0 0) (newD room) ∧ Grows w w' := by
  go_enter Tryz.func34, Tryz.ntmps34
  go_wp2_with fail
  have hb := Has.new w 39 [rv room, .slice none 0 0, .slice none 0 0, .slice none 0 0, rv (-1)]
  refine bodyPost_ret (res_has (vs := [rv room, .slice none 0 0, .slice none 0 0, .slice none 0 0, rv (-1)]) rfl _ rfl Tryz.underlying39 rfl d_size hb) rfl ?_
  exact ⟨rfl, ⟨FsV.nil _ _, FsV.nil _ _, CsV.nil _ _⟩, grows_alloc _ _⟩
set_option maxHeartbeats 2000000 in
theorem read_r (D : Dk) (sv lv wv : Value) (w : World) (ok : Nat → Prop) (p : Byts) (h : RDk w ok sv lv wv D) (hn : D.seen.length ≤ 1000000) :
    Calls Tryz.prog 46 #[dV D sv lv wv, tv p] w fun e w' => e = .returned (.tuple #[tv (readD D p).1, rv (readD D p).2]) ∧ Grows w w' := by
  obtain ⟨A, c, rfl⟩ := h.seen.form
  have hbox := Has.new w 39 [rv D.room, .slice A D.seen.length c, lv, wv, rv D.power]
  have hga := grows_alloc w (.cells [rv D.room, .slice A D.seen.length c, lv, wv, rv D.power].toArray 39)
  have F := find_r _ D.seen p _ ok (h.seen.later hga) hn
  have hs1 := h.seen.later hga
  obtain ⟨R, hR⟩ : ∃ R, R = readD D p := ⟨_, rfl⟩
  rw [← hR]
  have HR := Lib.hid hR
  unfold readD at hR
  obtain ⟨n, hnn⟩ : ∃ n, n = D.seen.length := ⟨_, rfl⟩
  rw [← hnn] at h hbox hga F hs1 hn ⊢
  have HN := Lib.hid hnn
  clear hnn HR
  by_cases e2 : D.power = 0
  · rw [if_pos e2] at hR
    have d2 : (D.power == 0) = true := by simpa using e2
    have HR := Lib.hid hR
    clear hR e2
    go_enter Tryz.func46, Tryz.ntmps46
    go_wp2_with fail
    refine F.mono ?_
    rintro e w2 ⟨rfl, rfl⟩
    go_wp2_with fail
    go_ret2
    exact ⟨by rw [HR.out]; rfl, hga⟩
  · rw [if_neg e2] at hR
    have d2 : (D.power == 0) = false := by simpa using e2
    rcases findI_spec p D.seen 0 with ⟨f1, f2⟩ | ⟨j, b, f1, f2, f3⟩
    · rw [f2] at hR
      rw [f1] at F
      have HR := Lib.hid hR
      clear hR e2 f1 f2
      go_enter Tryz.func46, Tryz.ntmps46
      go_wp2_with fail
      refine F.mono ?_
      rintro e w2 ⟨rfl, rfl⟩
      go_wp2_with fail
      go_ret2
      exact ⟨by rw [HR.out]; rfl, hga⟩
    · rw [f3] at hR
      rw [f1, Nat.zero_add] at F
      have HR := Lib.hid hR
      obtain ⟨gb, rfl, hc0, hc1⟩ := hs1.at_ f2
      have d0 : decide ((j : Int) < 0) = false := by simp
      have HJ : Hid (j < D.seen.length) := (List.getElem?_eq_some_iff.1 f2).1
      have b0 : (j : Int) < (n : Int) := by have := HJ.out; rw [← HN.out] at this; omega
      clear hR e2 f1 f2 f3
      go_enter Tryz.func46, Tryz.ntmps46
      go_wp2_with fail
      refine F.mono ?_
      rintro e w2 ⟨rfl, rfl⟩
      go_wp2_with fail
      go_ret2
      exact ⟨by rw [HR.out]; rfl, hga⟩

theorem two_b (w : World) (A B : List Value) (ta tb : TypeId) (w2 : World) (h : w2 = (w.alloc (.cells A.toArray ta)).alloc (.cells B.toArray tb)) :
    Has w2 w.heap.size A ∧ Has w2 (w.heap.size + 1) B ∧ Grows w w2 ∧ w2.heap.size = w.heap.size + 2 := by
  subst h
  have h1 := Has.new w ta A
  have h2 := Has.new (w.alloc (.cells A.toArray ta)) tb B
  rw [World.size_alloc] at h2
  exact ⟨h1.later (grows_alloc _ _), h2, Grows.trans (grows_alloc _ _) (grows_alloc _ _), by simp⟩
abbrev zeroD : List Value := [rv 0, .slice none 0 0, .slice none 0 0, .slice none 0 0, rv 0]
def dL (D : Dk) (sv lv wv : Value) : List Value := [rv D.room, sv, lv, wv, rv D.power]
theorem dL_one {w : World} {ok : Nat → Prop} {sv lv wv : Value} {D : Dk} (h : RDk w ok sv lv wv D) : ∀ u ∈ dL D sv lv wv, u.oneCell' = true := by
  obtain ⟨A1, c1, e1⟩ := h.seen.form
  obtain ⟨A2, c2, e2⟩ := h.lasts.form
  obtain ⟨A3, c3, e3⟩ := h.waits.form
  subst e1 e2 e3
  intro u hu
  simp [dL] at hu
  rcases hu with rfl | rfl | rfl | rfl | rfl <;> rfl
theorem wr_arith (us u0 yl dl : Nat) (room : Int) (h : us = u0 + yl) (hu : us + dl ≤ 1000000000) (hr : 0 ≤ room ∧ room ≤ 1048576) :
    wrap64 ((us : Int) + (dl : Int)) = (us : Int) + (dl : Int) ∧ wrap64 ((us : Int) + (dl : Int) - (yl : Int)) = (us : Int) + (dl : Int) - (yl : Int) ∧ (room < (us : Int) - (yl : Int) + (dl : Int) → decide ((us : Int) + (dl : Int) - (yl : Int) > room) = true) ∧ (¬ room < (us : Int) - (yl : Int) + (dl : Int) → decide ((us : Int) + (dl : Int) - (yl : Int) > room) = false) := by
  refine ⟨by unfold wrap64; omega, by unfold wrap64; omega, fun e => by simp; omega, fun e => by simp; omega⟩
set_option maxHeartbeats 4000000 in
theorem write_up (D : Dk) (sv lv wv : Value) (w : World) (ok : Nat → Prop) (p d : Byts) (h : RDk w ok sv lv wv D) (hn : D.seen.length ≤ 1000000) (hw : D.waits.length ≤ 1000000) (hp : -1 ≤ D.power ∧ D.power ≤ 9223372036854775807) (hpl : p.length ≤ 1000000) (hu : fUsed D.seen + d.length ≤ 1000000000) (hok : D.Ok) (hr : 0 ≤ D.room ∧ D.room ≤ 1048576) (e1 : namedB p = true) (e2 : D.power ≠ 0) :
    Calls Tryz.prog 75 #[dV D sv lv wv, tv p, tv d] w fun e w' => ∃ sv' wv', e = .returned (.tuple #[dV (writeD D p d).1 sv' lv wv', rv (writeD D p d).2]) ∧ RDk w' (Nw w ok) sv' lv wv' (writeD D p d).1 ∧ Grows w w' := by
  obtain ⟨A, c, rfl⟩ := h.seen.form
  have hDL := dL_one h
  obtain ⟨n, hnn⟩ : ∃ n, n = D.seen.length := ⟨_, rfl⟩
  have HN := Lib.hid hnn
  have hn' : n ≤ 1000000 := by omega
  rw [← hnn] at h hDL ⊢
  clear hnn
  obtain ⟨b1, b2, g1, s1⟩ := two_b w (dL D (.slice A n c) lv wv) zeroD 39 39 _ rfl
  clear s1
  have NM := fun u => named_r p u hpl
  have US := fun u (hu' : Grows w u) => used_r D (.slice A n c) lv wv u ok (h.seen.later hu') hn (by omega)
  have FI := fun u (hu' : Grows w u) => find_r (.slice A n c) D.seen p u ok (h.seen.later hu') hn
  have DO := fun u (hu' : Grows w u) => do_r D (.slice A n c) lv wv u (fun k => ok k ∧ k < w.heap.size) (.wr p d) (h.cut.later hu') hn hw hp
  obtain ⟨R, hR⟩ : ∃ R, R = writeD D p d := ⟨_, rfl⟩
  rw [← hR]
  unfold writeD at hR
  rw [if_neg (by rw [e1]; simp), if_neg e2] at hR
  rw [e1] at NM
  have d2 : (D.power == 0) = false := by simpa using e2
  have hsz := size_mk d
  obtain ⟨y, hy⟩ : ∃ y, y = (fGet D.seen p).getD [] := ⟨_, rfl⟩
  obtain ⟨us, hus⟩ : ∃ us, us = fUsed D.seen := ⟨_, rfl⟩
  have ⟨hW1, hW2, hc1, hc2⟩ := wr_arith us (fUsed (fDel D.seen p)) y.length d.length D.room (by rw [hus, hy]; exact used_del hok.srt.nodup p) (by omega) hr
  rw [← hus, ← hy] at hR
  rw [← hus] at US
  unfold dL at *
  clear hus hu hr hpl hok e1 e2
  rcases findI_spec p D.seen 0 with ⟨f1, f2⟩ | ⟨j, bb, f1, f2, f3⟩
  · have hy0 : (y.length : Int) = 0 := by rw [hy, f2]; rfl
    have hz : ∀ x : Int, x - 0 = x := fun x => by simp
    rw [hy0] at hc1 hc2 hR
    rw [hz] at hc1 hc2 hR
    rw [f1] at FI
    rw [hz] at hc1 hc2
    clear f1 f2
    by_cases e3 : D.room < (us : Int) + (d.length : Int)
    · rw [if_pos e3] at hR
      have d3 := hc1 e3
      have HR := Lib.hid hR
      clear hR e3 hc1 hc2 hy hy0 hW2 DO hn hw hp
      go_enter Tryz.func75, Tryz.ntmps75
      go_wp2_with fail
      change Calls _ _ _ ((w.alloc (.cells [rv D.room, .slice A n c, lv, wv, rv D.power].toArray 39)).alloc (.cells [rv 0, .slice none 0 0, .slice none 0 0, .slice none 0 0, rv 0].toArray 39)) _
      generalize (w.alloc (.cells [rv D.room, .slice A n c, lv, wv, rv D.power].toArray 39)).alloc (.cells [rv 0, .slice none 0 0, .slice none 0 0, .slice none 0 0, rv 0].toArray 39) = w2 at *
      generalize hE : w.heap.size + 1 = E at *
      generalize hB : w.heap.size = B at *
      have HB := Lib.hid hB
      have HE := Lib.hid hE
      clear hB hE
      have c0 := b1.cell (k := 0) rfl
      have c1 := b1.cell (k := 1) rfl
      have c2 := b1.cell (k := 2) rfl
      have c3 := b1.cell (k := 3) rfl
      have c4 := b1.cell (k := 4) rfl
      refine (NM w2).mono ?_
      rintro e w2 ⟨rfl, rfl⟩
      go_wp2_with fail
      refine (US w2 g1).mono ?_
      rintro e w3 ⟨rfl, g3⟩
      have b13 := b1.later g3
      have b23 := b2.later g3
      have G3 := Grows.trans g1 g3
      have k0 := b13.cell (k := 0) rfl
      have k1 := b13.cell (k := 1) rfl
      have k2 := b13.cell (k := 2) rfl
      have k3 := b13.cell (k := 3) rfl
      have k4 := b13.cell (k := 4) rfl
      have FI3 := FI w3 G3
      clear FI
      go_wp2_with fail
      refine FI3.mono ?_
      rintro e w4 ⟨rfl, rfl⟩
      clear FI3
      go_wp2_with (refine wpList_storeT rfl 39 (.tmp 6) (.tmp 44) rfl E _ [rv D.room, .slice A n c, lv, wv, rv D.power] 5 rfl rfl b23 rfl rfl d_size hDL ?_; intro w9 b9 t9)
      (try simp only [Exit.inBlock, Exit.then])
      refine bodyPost_ret (res_has_two (vs := [rv D.room, .slice A n c, lv, wv, rv D.power]) Tryz.results75 _ rfl Tryz.underlying39 rfl d_size b9) rfl ?_
      have hbb := HB.out
      have hee := HE.out
      refine ⟨_, wv, by rw [HR.out]; rfl, ?_, ?_⟩
      · rw [HR.out]
        exact (((h.cut).later G3).turned t9 (fun k hk e => by have := hk.2; omega)).mono fun k hk => .inl hk.1
      · exact ((Turns.of_grows (S := fun k => B ≤ k) G3).trans (t9.mono fun k _ e => by omega)).grows (fun k hk => by omega)
    · rw [if_neg e3] at hR
      have d3 := hc2 e3
      have HR := Lib.hid hR
      clear hR e3 hc1 hc2 hy hy0 hW2 hn hw hp
      go_enter Tryz.func75, Tryz.ntmps75
      go_wp2_with fail
      change Calls _ _ _ ((w.alloc (.cells [rv D.room, .slice A n c, lv, wv, rv D.power].toArray 39)).alloc (.cells [rv 0, .slice none 0 0, .slice none 0 0, .slice none 0 0, rv 0].toArray 39)) _
      generalize (w.alloc (.cells [rv D.room, .slice A n c, lv, wv, rv D.power].toArray 39)).alloc (.cells [rv 0, .slice none 0 0, .slice none 0 0, .slice none 0 0, rv 0].toArray 39) = w2 at *
      generalize hE : w.heap.size + 1 = E at *
      generalize hB : w.heap.size = B at *
      have HB := Lib.hid hB
      have HE := Lib.hid hE
      clear hB hE
      have c0 := b1.cell (k := 0) rfl
      have c1 := b1.cell (k := 1) rfl
      have c2 := b1.cell (k := 2) rfl
      have c3 := b1.cell (k := 3) rfl
      have c4 := b1.cell (k := 4) rfl
      refine (NM w2).mono ?_
      rintro e w2 ⟨rfl, rfl⟩
      go_wp2_with fail
      refine (US w2 g1).mono ?_
      rintro e w3 ⟨rfl, g3⟩
      have b13 := b1.later g3
      have b23 := b2.later g3
      have G3 := Grows.trans g1 g3
      have k0 := b13.cell (k := 0) rfl
      have k1 := b13.cell (k := 1) rfl
      have k2 := b13.cell (k := 2) rfl
      have k3 := b13.cell (k := 3) rfl
      have k4 := b13.cell (k := 4) rfl
      have FI3 := FI w3 G3
      clear FI
      go_wp2_with fail
      refine FI3.mono ?_
      rintro e w4 ⟨rfl, rfl⟩
      clear FI3
      go_wp2_with fail
      refine (DO w4 G3).mono ?_
      rintro e w5 ⟨sv', wv', rfl, h5, g5⟩
      have b25 := b23.later g5
      have hDL5 := dL_one h5
      unfold dL at hDL5
      go_wp2_with (refine wpList_storeT rfl 39 (.tmp 6) (.tmp 49) rfl E _ [rv (D.do_ (.wr p d)).room, sv', lv, wv', rv (D.do_ (.wr p d)).power] 5 rfl rfl b25 rfl rfl d_size hDL5 ?_; intro w9 b9 t9)
      (try simp only [Exit.inBlock, Exit.then])
      refine bodyPost_ret (res_has_two (vs := [rv (D.do_ (.wr p d)).room, sv', lv, wv', rv (D.do_ (.wr p d)).power]) Tryz.results75 _ rfl Tryz.underlying39 rfl d_size b9) rfl ?_
      have hbb := HB.out
      have hee := HE.out
      have hlt := g1.size
      have hl3 := g3.size
      have hb2 := b2.lt
      refine ⟨sv', wv', by rw [HR.out]; rfl, ?_, ?_⟩
      · rw [HR.out]
        exact (h5.turned t9 (fun k hk e => by rcases hk with hk | hk <;> omega)).mono fun k hk => by rcases hk with hk | hk; exact .inl hk.1; exact .inr (by omega)
      · exact ((Turns.of_grows (S := fun k => B ≤ k) (Grows.trans G3 g5)).trans (t9.mono fun k _ e => by omega)).grows (fun k hk => by omega)
  · rw [f3] at hy
    change y = bb at hy
    subst hy
    rw [f1, Nat.zero_add] at FI
    have d0 : decide ((j : Int) ≥ 0) = true := by simp
    have b0 : (j : Int) < (n : Int) := by have := (List.getElem?_eq_some_iff.1 f2).1; rw [← HN.out] at this; omega
    clear f1 f3
    by_cases e3 : D.room < (us : Int) - (y.length : Int) + (d.length : Int)
    · rw [if_pos e3] at hR
      have d3 := hc1 e3
      have HR := Lib.hid hR
      clear hR e3 hc1 hc2 DO hn hw hp
      go_enter Tryz.func75, Tryz.ntmps75
      go_wp2_with fail
      change Calls _ _ _ ((w.alloc (.cells [rv D.room, .slice A n c, lv, wv, rv D.power].toArray 39)).alloc (.cells [rv 0, .slice none 0 0, .slice none 0 0, .slice none 0 0, rv 0].toArray 39)) _
      generalize (w.alloc (.cells [rv D.room, .slice A n c, lv, wv, rv D.power].toArray 39)).alloc (.cells [rv 0, .slice none 0 0, .slice none 0 0, .slice none 0 0, rv 0].toArray 39) = w2 at *
      generalize hE : w.heap.size + 1 = E at *
      generalize hB : w.heap.size = B at *
      have HB := Lib.hid hB
      have HE := Lib.hid hE
      clear hB hE
      have c0 := b1.cell (k := 0) rfl
      have c1 := b1.cell (k := 1) rfl
      have c2 := b1.cell (k := 2) rfl
      have c3 := b1.cell (k := 3) rfl
      have c4 := b1.cell (k := 4) rfl
      refine (NM w2).mono ?_
      rintro e w2 ⟨rfl, rfl⟩
      go_wp2_with fail
      refine (US w2 g1).mono ?_
      rintro e w3 ⟨rfl, g3⟩
      have b13 := b1.later g3
      have b23 := b2.later g3
      have G3 := Grows.trans g1 g3
      have k0 := b13.cell (k := 0) rfl
      have k1 := b13.cell (k := 1) rfl
      have k2 := b13.cell (k := 2) rfl
      have k3 := b13.cell (k := 3) rfl
      have k4 := b13.cell (k := 4) rfl
      have FI3 := FI w3 G3
      obtain ⟨gb, rfl, hc0, hc1⟩ := (h.seen.later G3).at_ f2
      have hsy := size_mk y
      clear f2
      clear FI
      go_wp2_with fail
      refine FI3.mono ?_
      rintro e w4 ⟨rfl, rfl⟩
      clear FI3
      go_wp2_with (refine wpList_storeT rfl 39 (.tmp 6) (.tmp 44) rfl E _ [rv D.room, .slice (some ⟨gb, 0, none⟩) n c, lv, wv, rv D.power] 5 rfl rfl b23 rfl rfl d_size hDL ?_; intro w9 b9 t9)
      (try simp only [Exit.inBlock, Exit.then])
      refine bodyPost_ret (res_has_two (vs := [rv D.room, .slice (some ⟨gb, 0, none⟩) n c, lv, wv, rv D.power]) Tryz.results75 _ rfl Tryz.underlying39 rfl d_size b9) rfl ?_
      have hbb := HB.out
      have hee := HE.out
      refine ⟨_, wv, by rw [HR.out]; rfl, ?_, ?_⟩
      · rw [HR.out]
        exact (((h.cut).later G3).turned t9 (fun k hk e => by have := hk.2; omega)).mono fun k hk => .inl hk.1
      · exact ((Turns.of_grows (S := fun k => B ≤ k) G3).trans (t9.mono fun k _ e => by omega)).grows (fun k hk => by omega)
    · rw [if_neg e3] at hR
      have d3 := hc2 e3
      have HR := Lib.hid hR
      clear hR e3 hc1 hc2 hn hw hp
      go_enter Tryz.func75, Tryz.ntmps75
      go_wp2_with fail
      change Calls _ _ _ ((w.alloc (.cells [rv D.room, .slice A n c, lv, wv, rv D.power].toArray 39)).alloc (.cells [rv 0, .slice none 0 0, .slice none 0 0, .slice none 0 0, rv 0].toArray 39)) _
      generalize (w.alloc (.cells [rv D.room, .slice A n c, lv, wv, rv D.power].toArray 39)).alloc (.cells [rv 0, .slice none 0 0, .slice none 0 0, .slice none 0 0, rv 0].toArray 39) = w2 at *
      generalize hE : w.heap.size + 1 = E at *
      generalize hB : w.heap.size = B at *
      have HB := Lib.hid hB
      have HE := Lib.hid hE
      clear hB hE
      have c0 := b1.cell (k := 0) rfl
      have c1 := b1.cell (k := 1) rfl
      have c2 := b1.cell (k := 2) rfl
      have c3 := b1.cell (k := 3) rfl
      have c4 := b1.cell (k := 4) rfl
      refine (NM w2).mono ?_
      rintro e w2 ⟨rfl, rfl⟩
      go_wp2_with fail
      refine (US w2 g1).mono ?_
      rintro e w3 ⟨rfl, g3⟩
      have b13 := b1.later g3
      have b23 := b2.later g3
      have G3 := Grows.trans g1 g3
      have k0 := b13.cell (k := 0) rfl
      have k1 := b13.cell (k := 1) rfl
      have k2 := b13.cell (k := 2) rfl
      have k3 := b13.cell (k := 3) rfl
      have k4 := b13.cell (k := 4) rfl
      have FI3 := FI w3 G3
      obtain ⟨gb, rfl, hc0, hc1⟩ := (h.seen.later G3).at_ f2
      have hsy := size_mk y
      clear f2
      clear FI
      go_wp2_with fail
      refine FI3.mono ?_
      rintro e w4 ⟨rfl, rfl⟩
      clear FI3
      go_wp2_with fail
      refine (DO w4 G3).mono ?_
      rintro e w5 ⟨sv', wv', rfl, h5, g5⟩
      have b25 := b23.later g5
      have hDL5 := dL_one h5
      unfold dL at hDL5
      go_wp2_with (refine wpList_storeT rfl 39 (.tmp 6) (.tmp 49) rfl E _ [rv (D.do_ (.wr p d)).room, sv', lv, wv', rv (D.do_ (.wr p d)).power] 5 rfl rfl b25 rfl rfl d_size hDL5 ?_; intro w9 b9 t9)
      (try simp only [Exit.inBlock, Exit.then])
      refine bodyPost_ret (res_has_two (vs := [rv (D.do_ (.wr p d)).room, sv', lv, wv', rv (D.do_ (.wr p d)).power]) Tryz.results75 _ rfl Tryz.underlying39 rfl d_size b9) rfl ?_
      have hbb := HB.out
      have hee := HE.out
      have hlt := g1.size
      have hl3 := g3.size
      have hb2 := b2.lt
      refine ⟨sv', wv', by rw [HR.out]; rfl, ?_, ?_⟩
      · rw [HR.out]
        exact (h5.turned t9 (fun k hk e => by rcases hk with hk | hk <;> omega)).mono fun k hk => by rcases hk with hk | hk; exact .inl hk.1; exact .inr (by omega)
      · exact ((Turns.of_grows (S := fun k => B ≤ k) (Grows.trans G3 g5)).trans (t9.mono fun k _ e => by omega)).grows (fun k hk => by omega)
set_option maxHeartbeats 4000000 in
theorem write_r (D : Dk) (sv lv wv : Value) (w : World) (ok : Nat → Prop) (p d : Byts) (h : RDk w ok sv lv wv D) (hn : D.seen.length ≤ 1000000) (hw : D.waits.length ≤ 1000000) (hp : -1 ≤ D.power ∧ D.power ≤ 9223372036854775807) (hpl : p.length ≤ 1000000) (hu : fUsed D.seen + d.length ≤ 1000000000) (hok : D.Ok) (hr : 0 ≤ D.room ∧ D.room ≤ 1048576) :
    Calls Tryz.prog 75 #[dV D sv lv wv, tv p, tv d] w fun e w' => ∃ sv' wv', e = .returned (.tuple #[dV (writeD D p d).1 sv' lv wv', rv (writeD D p d).2]) ∧ RDk w' (Nw w ok) sv' lv wv' (writeD D p d).1 ∧ Grows w w' := by
  by_cases e1 : namedB p = false
  · obtain ⟨A, c, rfl⟩ := h.seen.form
    have hDL := dL_one h
    obtain ⟨n, hnn⟩ : ∃ n, n = D.seen.length := ⟨_, rfl⟩
    have HN := Lib.hid hnn
    have hn' : n ≤ 1000000 := by omega
    rw [← hnn] at h hDL ⊢
    clear hnn
    obtain ⟨b1, b2, g1, s1⟩ := two_b w (dL D (.slice A n c) lv wv) zeroD 39 39 _ rfl
    clear s1
    have NM := fun u => named_r p u hpl
    obtain ⟨R, hR⟩ : ∃ R, R = writeD D p d := ⟨_, rfl⟩
    rw [← hR]
    unfold writeD at hR
    rw [if_pos e1] at hR
    rw [e1] at NM
    have HR := Lib.hid hR
    unfold dL at *
    clear hR hu hok hr hn hw hp hpl e1
    go_enter Tryz.func75, Tryz.ntmps75
    go_wp2_with fail
    change Calls _ _ _ ((w.alloc (.cells [rv D.room, .slice A n c, lv, wv, rv D.power].toArray 39)).alloc (.cells [rv 0, .slice none 0 0, .slice none 0 0, .slice none 0 0, rv 0].toArray 39)) _
    generalize (w.alloc (.cells [rv D.room, .slice A n c, lv, wv, rv D.power].toArray 39)).alloc (.cells [rv 0, .slice none 0 0, .slice none 0 0, .slice none 0 0, rv 0].toArray 39) = w2 at *
    generalize hE : w.heap.size + 1 = E at *
    generalize hB : w.heap.size = B at *
    have HB := Lib.hid hB
    have HE := Lib.hid hE
    clear hB hE
    have c0 := b1.cell (k := 0) rfl
    have c1 := b1.cell (k := 1) rfl
    have c2 := b1.cell (k := 2) rfl
    have c3 := b1.cell (k := 3) rfl
    have c4 := b1.cell (k := 4) rfl
    refine (NM w2).mono ?_
    rintro e w2 ⟨rfl, rfl⟩
    go_wp2_with (refine wpList_storeT rfl 39 (.tmp 6) (.tmp 15) rfl E _ [rv D.room, .slice A n c, lv, wv, rv D.power] 5 rfl rfl b2 rfl rfl d_size hDL ?_; intro w9 b9 t9)
    (try simp only [Exit.inBlock, Exit.then])
    refine bodyPost_ret (res_has_two (vs := [rv D.room, .slice A n c, lv, wv, rv D.power]) Tryz.results75 _ rfl Tryz.underlying39 rfl d_size b9) rfl ?_
    have hbb := HB.out
    have hee := HE.out
    refine ⟨_, wv, by rw [HR.out]; rfl, ?_, ?_⟩
    · rw [HR.out]
      exact (((h.cut).later g1).turned t9 (fun k hk e => by have := hk.2; omega)).mono fun k hk => .inl hk.1
    · exact ((Turns.of_grows (S := fun k => B ≤ k) g1).trans (t9.mono fun k _ e => by omega)).grows (fun k hk => by omega)
  · by_cases e2 : D.power = 0
    · obtain ⟨A, c, rfl⟩ := h.seen.form
      have hDL := dL_one h
      obtain ⟨n, hnn⟩ : ∃ n, n = D.seen.length := ⟨_, rfl⟩
      have HN := Lib.hid hnn
      have hn' : n ≤ 1000000 := by omega
      rw [← hnn] at h hDL ⊢
      clear hnn
      obtain ⟨b1, b2, g1, s1⟩ := two_b w (dL D (.slice A n c) lv wv) zeroD 39 39 _ rfl
      clear s1
      have NM := fun u => named_r p u hpl
      obtain ⟨R, hR⟩ : ∃ R, R = writeD D p d := ⟨_, rfl⟩
      rw [← hR]
      unfold writeD at hR
      rw [if_neg e1, if_pos e2] at hR
      have e1 : namedB p = true := by cases h : namedB p with | true => rfl | false => exact absurd h e1
      rw [e1] at NM
      have d2 : (D.power == 0) = true := by simpa using e2
      have HR := Lib.hid hR
      unfold dL at *
      clear hR hu hok hr hn hw hp hpl e1 e2
      go_enter Tryz.func75, Tryz.ntmps75
      go_wp2_with fail
      change Calls _ _ _ ((w.alloc (.cells [rv D.room, .slice A n c, lv, wv, rv D.power].toArray 39)).alloc (.cells [rv 0, .slice none 0 0, .slice none 0 0, .slice none 0 0, rv 0].toArray 39)) _
      generalize (w.alloc (.cells [rv D.room, .slice A n c, lv, wv, rv D.power].toArray 39)).alloc (.cells [rv 0, .slice none 0 0, .slice none 0 0, .slice none 0 0, rv 0].toArray 39) = w2 at *
      generalize hE : w.heap.size + 1 = E at *
      generalize hB : w.heap.size = B at *
      have HB := Lib.hid hB
      have HE := Lib.hid hE
      clear hB hE
      have c0 := b1.cell (k := 0) rfl
      have c1 := b1.cell (k := 1) rfl
      have c2 := b1.cell (k := 2) rfl
      have c3 := b1.cell (k := 3) rfl
      have c4 := b1.cell (k := 4) rfl
      refine (NM w2).mono ?_
      rintro e w2 ⟨rfl, rfl⟩
      go_wp2_with (refine wpList_storeT rfl 39 (.tmp 6) (.tmp 19) rfl E _ [rv D.room, .slice A n c, lv, wv, rv D.power] 5 rfl rfl b2 rfl rfl d_size hDL ?_; intro w9 b9 t9)
      (try simp only [Exit.inBlock, Exit.then])
      refine bodyPost_ret (res_has_two (vs := [rv D.room, .slice A n c, lv, wv, rv D.power]) Tryz.results75 _ rfl Tryz.underlying39 rfl d_size b9) rfl ?_
      have hbb := HB.out
      have hee := HE.out
      refine ⟨_, wv, by rw [HR.out]; rfl, ?_, ?_⟩
      · rw [HR.out]
        exact (((h.cut).later g1).turned t9 (fun k hk e => by have := hk.2; omega)).mono fun k hk => .inl hk.1
      · exact ((Turns.of_grows (S := fun k => B ≤ k) g1).trans (t9.mono fun k _ e => by omega)).grows (fun k hk => by omega)
    · exact write_up D sv lv wv w ok p d h hn hw hp hpl hu hok hr (by cases h : namedB p with | true => rfl | false => exact absurd h e1) e2
end Go.Proofs.YtbcldknecdbemaaGreatDoor
