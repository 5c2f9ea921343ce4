/-
  The iterator of cut.chunks: it goes through the chunks of its bytes.
-/
import Derived.Test.YtkgkkobdpgnicaaDoorCutD
import Derived.Test.YtkgkkobdpgnicaaDoorItr
import Derived.Test.YtkgkkobdpgnicaaDoorCut
import Derived.Shelf.Abstract
import Derived.Shelf.RegionOpen
import Derived.WalkKit
import Derived.OwnWalkIn
import Derived.TacticsInMore
import Derived.LoopNIn
import Derived.LoopIn
namespace Go.Proofs.YtkgkkobdpgnicaaDoor
open Go.RowKit Go.Shelf
set_option linter.unusedVariables false
attribute [local go_sem] Oper.semAt_some

theorem byte_size : (Tryd.prog.info? 5).map (·.size) = some 1 := by kernel_rfl
theorem cutA_lies {w : World} {B : Nat} {A : Option Addr} {vs : List Value} (h : Lies w B A vs) {c m : Nat} (hc : vs.length ≤ c) : Lies w B (cutA A c m 1) (vs.drop m) := by
  unfold cutA
  by_cases hcm : c = m
  · rw [if_pos hcm, List.drop_eq_nil_of_le (by omega)]; exact Lies.empty
  · rw [if_neg hcm, Nat.mul_one]; exact h.from_ m
/-- Values lie in blocks that are ok. -/
def LiesIn (ok : Nat → Prop) (w : World) (A : Option Addr) (vs : List Value) : Prop := ∀ (j : Nat) (u : Value), vs[j]? = some u → ∃ ad : Addr, A = some ad ∧ ok ad.block ∧ w.cell? (ad.add j) = some u
section
variable {ok S : Nat → Prop} {w w' : World} {A : Option Addr} {vs : List Value}
theorem LiesIn.lies (h : LiesIn ok w A vs) {B : Nat} (hB : ∀ k, ok k → k < B) : Lies w B A vs := fun j u hu => let ⟨ad, e, ho, hc⟩ := h j u hu; ⟨ad, e, hB _ ho, hc⟩
theorem LiesIn.of_lies {B : Nat} (h : Lies w B A vs) (hB : ∀ k, k < B → ok k) : LiesIn ok w A vs := fun j u hu => let ⟨ad, e, ho, hc⟩ := h j u hu; ⟨ad, e, hB _ ho, hc⟩
theorem LiesIn.turned (h : LiesIn ok w A vs) (ht : Turns S w w') (hS : ∀ k, ok k → ¬ S k) : LiesIn ok w' A vs := fun j u hu => let ⟨ad, e, ho, hc⟩ := h j u hu; ⟨ad, e, ho, ht.cell hc (by rw [add_block]; exact hS _ ho)⟩
theorem LiesIn.later (h : LiesIn ok w A vs) (hg : Grows w w') : LiesIn ok w' A vs := fun j u hu => let ⟨ad, e, ho, hc⟩ := h j u hu; ⟨ad, e, ho, hcell_later hc hg⟩
theorem LiesIn.take (h : LiesIn ok w A vs) (k : Nat) : LiesIn ok w A (vs.take k) := fun j u hu => h j u (by
  have := (List.getElem?_eq_some_iff.1 hu).1
  rw [List.length_take] at this
  rwa [List.getElem?_take_of_lt (by omega)] at hu)
theorem LiesIn.cutA (h : LiesIn ok w A vs) {c m : Nat} (hc : vs.length ≤ c) : LiesIn ok w (cutA A c m 1) (vs.drop m) := by
  unfold Go.Proofs.YtkgkkobdpgnicaaDoor.cutA
  by_cases hcm : c = m
  · rw [if_pos hcm, List.drop_eq_nil_of_le (by omega)]; exact fun j u hu => by simp at hu
  · rw [if_neg hcm, Nat.mul_one]
    intro j u hu
    rw [List.getElem?_drop] at hu
    obtain ⟨ad, rfl, ho, hcl⟩ := h _ u hu
    exact ⟨ad.add m, rfl, by rw [add_block]; exact ho, by rw [add_add_addr]; exact hcl⟩
theorem LiesIn.of_own {base : Nat} {e : TypeId} {n c : Nat} (h : w.ownsRow base e 1 (.slice A n c) n vs) : LiesIn (fun k => base ≤ k ∧ k < w.heap.size) w A vs := fun j u hu => by
  obtain ⟨ad, e1, h1, h2⟩ := Lies.of_own h j u hu
  have hn : 0 < n := by
    have h3 := (List.getElem?_eq_some_iff.1 hu).1
    have h4 := h.1
    omega
  obtain ⟨g, c', e2, _, _, h5, _⟩ := own_has h hn
  subst e1
  injection e2 with e2
  injection e2 with e2
  subst e2
  exact ⟨_, rfl, ⟨h5, h1⟩, h2⟩
end
/-- The value v is the bytes x, in blocks that are ok. -/
def Chu (ok : Nat → Prop) (m : Nat) (W0 W : World) (x : List UInt8) (v : Value) : Prop := ∃ A c, v = .slice A x.length c ∧ x.length ≤ c ∧ LiesIn ok W A (x.map bv)
/-- How long a slice is. -/
def slen : Value → Nat
  | .slice _ n _ => n
  | _ => 0
/-- What it reads. -/
def ChInp (bb bp : Nat) (ok : Nat → Prop) (k : Nat) : Prop := k = bb ∨ k = bp ∨ k = 0 ∨ ok k
theorem lies_turned {S : Nat → Prop} {w w' : World} {B : Nat} {A : Option Addr} {vs : List Value} (h : Lies w B A vs) (ht : Turns S w w') (hS : ∀ k, k < B → ¬ S k) : Lies w' B A vs := fun j u hu => by
  obtain ⟨ad, e, hlt, hc⟩ := h j u hu
  exact ⟨ad, e, hlt, ht.cell hc (by rw [add_block]; exact hS _ hlt)⟩

set_option maxRecDepth 20000 in
set_option maxHeartbeats 2000000 in
theorem chunks_at (p : Prm) (hp : p.Ok) (bb bp : Nat) (ok : Nat → Prop) (A : Option Addr) (n c : Nat) (bs : List UInt8) (O : Nat → Prop) (W : World) (hbb : Has W bb [.slice A n c]) (hbp : Has W bp [.int .i64 p.mn, .int .i64 p.av, .int .i64 p.mx])
    (hl : bs.length = n) (hnc : n ≤ c) (hr : LiesIn ok W A (bs.map bv)) (hB : ∀ k, ok k → k < W.heap.size) (hs : Starts W) (hn : n ≤ 1000000) (hO : ∀ k, ChInp bb bp ok k → ¬ O k) (hOl : ∀ k, O k → k < W.heap.size) :
    SeqAt Tryd.prog 42 #[.pointer (some ⟨bp, 0, none⟩), .pointer (some ⟨bb, 0, none⟩)] (Chu ok) (chunksOf p bs) O W := by
  intro l J Jx hJ hJx hY h0
  have P0 := hbp.cell (k := 0) rfl
  have P1 := hbp.cell (k := 1) rfl
  have P2 := hbp.cell (k := 2) rfl
  refine callsIn_of_wp Tryd.func42 rfl trivial ?_ rfl
  simp only [Tryd.ntmps42, List.size_toArray, List.length_cons, List.length_nil, Nat.reduceAdd, Nat.reduceSub, Array.replicate_succ, Array.replicate_zero, List.push_toArray, List.append_toArray, List.nil_append, List.cons_append]
  have M0 := may_any p.mn p.av p.mx W
  rw [may_ok hp] at M0
  gi_wp2_with fail
  refine call_wide M0 ?_
  rintro e w1 ⟨rfl, hg1⟩
  have P0' := hcell_later P0 hg1
  have P1' := hcell_later P1 hg1
  have P2' := hcell_later P2 hg1
  clear P0 P1 P2
  gi_wp2_with fail
  refine call_wide (newknife_any p w1 hp (hs.later hg1)) ?_
  rintro e w2 ⟨kb, rb, rfl, hkb, hrb, K2, hg2⟩
  have hg := Grows.trans hg1 hg2
  have Q0 := (hbb.later hg).cell (k := 0) rfl
  have hm1 : W.heap.size ≤ w2.heap.size := hg.size
  have hkb2 := K2.has.lt
  have hrb2 := K2.roll.lt
  have hkb1 : W.heap.size ≤ kb := Nat.le_trans hg1.size hkb
  have hrb1 : W.heap.size ≤ rb := Nat.le_trans hg1.size hrb
  have hJ0 := h0 w2.heap.size w2 hm1 (Nat.le_refl _) hg
  have hs2 := hs.later hg
  have hr2 : LiesIn ok w2 A (bs.map bv) := hr.later hg
  have hsz := hs.pos
  obtain ⟨m, hm⟩ : ∃ m, m = w2.heap.size := ⟨_, rfl⟩
  rw [← hm] at hm1 hkb2 hrb2 hJ0
  have hm2 : m ≤ w2.heap.size := by omega
  clear hm hkb hrb hg2 hg1
  gi_wp2_with fail
  gi_loopw [5] (fun rv wr => ∃ (A' : Option Addr) (n' c' : Nat) (rest : List UInt8) (pre : List (List UInt8)), rv = .slice A' n' c' ∧ rest.length = n' ∧ n' ≤ c' ∧ n' ≤ 1000000 ∧ LiesIn ok wr A' (rest.map bv) ∧
    Hid (chunksOf p bs = pre ++ chunksOf p rest) ∧ m ≤ wr.heap.size ∧ (rest ≠ [] → Knife wr kb rb p []) ∧ Starts wr ∧ J m pre wr) (fun rv _ => slen rv)
  case atStart => exact ⟨A, n, c, bs, [], rfl, hl, hnc, hn, hr2, rfl, hm2, fun _ => K2, hs2, hJ0⟩
  case round =>
    obtain ⟨A', n', c', rest, pre, rfl, hl', hnc', hn', hr', HC, hmw, hK, hsw, hJw⟩ := hrel
    by_cases hrest : rest = []
    · subst hrest
      obtain rfl : n' = 0 := by simpa using hl'.symm
      gi_wp2
      go_end0
      have HC' := HC.out
      rw [chunksOf_nil, List.append_nil] at HC'
      exact ⟨⟨_, rfl⟩, m, hm1, hmw, .inl (by rw [HC']; exact hJw)⟩
    · have hpos : 0 < n' := by rw [← hl']; exact List.length_pos_iff.2 hrest
      have d1 : ((n' : Int) > 0) := by omega
      have NX := next_any kb rb W.heap.size p [] A' n' c' rest wr hp (hK hrest) hsw hl' (hr'.lies hB) (by omega) (by omega) (by simp; omega)
      have hk1 := scan_pos p [] hrest
      have hk2 := scan_le p rest []
      have HCC := chunksOf_cons p hrest
      have HB : Hid ((scan p [] rest).2 = false → rest.drop (scan p [] rest).1 = []) := fun h => by rw [scan_false p rest [] h, List.drop_length]
      have HB2 : Hid ((scan p [] rest).2 = true → behind p [] rest = []) := fun h => by unfold behind; rw [if_pos h]
      generalize (scan p [] rest).1 = k at *
      generalize (scan p [] rest).2 = cut at *
      have NX := Lib.hid NX
      have HCC := Lib.hid HCC
      have HLL := Lib.hid hl'
      have hkn : k ≤ n' := by rw [← hl']; exact hk2
      clear hk2 hl' hK
      gi_wp2_with fail
      refine call_wide NX.out ?_
      rintro e w3 ⟨rfl, K3, T3⟩
      have hJ3 := hJ m pre wr w3 hJw (T3.mono fun j _ h => by rcases h with rfl | rfl <;> exact ⟨by omega, by omega⟩)
      have hm3 : m ≤ w3.heap.size := Nat.le_trans hmw T3.size
      have hr3 := hr'.turned T3 (fun j hj h => by have := hB j hj; rcases h with rfl | rfl <;> omega)
      have hs3 := hsw.turned T3 (fun h => by rcases h with h | h <;> omega)
      have hpre : (pre ++ [rest.take k]) <+: chunksOf p bs := ⟨chunksOf p (rest.drop k), by rw [HC.out, HCC.out]; simp⟩
      obtain ⟨fn, tmps, assign, body, hy, hR⟩ := hY m pre (rest.take k) (.slice A' k c') w3 w3 hm1 hm3 hJ3 (Grows.refl _) hpre ⟨A', c', by rw [List.length_take, HLL.out, Nat.min_eq_left hkn], by rw [List.length_take]; omega, by rw [List.map_take]; exact hr3.take k⟩
      have hc1 := fun u => run_cutK_to (P := Tryd.prog) (t := 35) (e := 5) Tryd.underlying35 byte_size A' n' c' k .i64 (by omega) u
      have hc2 := fun u => run_cutK_from (P := Tryd.prog) (t := 35) (e := 5) Tryd.underlying35 byte_size A' n' c' k .i64 hkn hnc' u
      gi_wp2_with fail
      refine ⟨rfl, hR.mono ?_⟩
      clear hy hR
      rintro e W4 (⟨rfl, hJ4, T4⟩ | ⟨rfl, hJx4, T4⟩)
      · have hno : ∀ j, j < m → ¬ O j → ¬ Rnd O m j := fun j h1 h2 h => h.elim h2 (fun h => by omega)
        have hr4 := hr3.turned T4 (fun j hj => hno j (by have := hB j hj; omega) (hO j (.inr (.inr (.inr hj)))))
        have hs4 := hs3.turned T4 (hno _ (by omega) (hO _ (.inr (.inr (.inl rfl)))))
        have hK4 : rest.drop k ≠ [] → Knife W4 kb rb p [] := fun hne => by
          have h1 : cut = true := by
            cases hcc : cut with
            | true => rfl
            | false => exact absurd (HB.out hcc) hne
          have := K3.turned T4 (hno _ hkb2 (fun h => by have := hOl _ h; omega)) (hno _ hrb2 (fun h => by have := hOl _ h; omega))
          rwa [HB2.out h1] at this
        clear hc1
        gi_wp2_with fail
        go_roundw
        case rel => exact ⟨cutA A' c' k 1, n' - k, c' - k, rest.drop k, pre ++ [rest.take k], rfl, by rw [List.length_drop, HLL.out], by omega, by omega, by rw [List.map_drop]; exact hr4.cutA (by rw [List.length_map, HLL.out]; exact hnc'), by show _ = _; rw [HC.out, HCC.out]; simp, Nat.le_trans hm3 T4.size, hK4, hs4, hJ4⟩
        case measure => simp only [slen]; omega
      · gi_wp2_with fail
        refine bodyPost_ret (results_none rfl _ _ _) rfl ?_
        exact ⟨⟨_, rfl⟩, m, hm1, Nat.le_trans hm3 T4.size, .inr ⟨_, hpre, hJx4⟩⟩

theorem chunks_seq (p : Prm) (hp : p.Ok) (bb bp : Nat) (ok : Nat → Prop) (A : Option Addr) (n c : Nat) (bs : List UInt8) (w : World) (hbb : Has w bb [.slice A n c]) (hbp : Has w bp [.int .i64 p.mn, .int .i64 p.av, .int .i64 p.mx])
    (hl : bs.length = n) (hnc : n ≤ c) (hr : LiesIn ok w A (bs.map bv)) (hB : ∀ k, ok k → k < w.heap.size) (hs : Starts w) (hn : n ≤ 1000000) :
    SeqOf Tryd.prog 42 #[.pointer (some ⟨bp, 0, none⟩), .pointer (some ⟨bb, 0, none⟩)] (Chu ok) (chunksOf p bs) (ChInp bb bp ok) w := fun O W hg hO hOl =>
  chunks_at p hp bb bp ok A n c bs O W (hbb.later hg) (hbp.later hg) hl hnc (hr.later hg) (fun k h => Nat.lt_of_lt_of_le (hB k h) hg.size) (hs.later hg) hn hO hOl

theorem chunks_any (p : Prm) (A : Option Addr) (n c : Nat) (w : World) :
    Calls Tryd.prog 29 #[.slice A n c, pv p] w fun e w' => ∃ bb bp, e = .returned (.func (.func 42) #[] #[.pointer (some ⟨bp, 0, none⟩), .pointer (some ⟨bb, 0, none⟩)]) ∧ w.heap.size ≤ bb ∧ w.heap.size ≤ bp ∧ Has w' bb [.slice A n c] ∧
      Has w' bp [.int .i64 p.mn, .int .i64 p.av, .int .i64 p.mx] ∧ Grows w w' := by
  have h1 := Has.new w 35 [.slice A n c]
  have g1 := grows_alloc w (.cells [.slice A n c].toArray 35)
  have h2 := Has.new (w.alloc (.cells [.slice A n c].toArray 35)) 23 [.int .i64 (p.mn : Int), .int .i64 (p.av : Int), .int .i64 (p.mx : Int)]
  have g2 := grows_alloc (w.alloc (.cells [.slice A n c].toArray 35)) (.cells [.int .i64 (p.mn : Int), .int .i64 (p.av : Int), .int .i64 (p.mx : Int)].toArray 23)
  have h3 := h1.later g2
  have g3 := Grows.trans g1 g2
  rw [World.size_alloc] at h2
  unfold pv pz
  go_enter Tryd.func29, Tryd.ntmps29
  go_wp2
  go_ret
  exact ⟨_, _, rfl, Nat.le_refl _, by omega, h3, h2, g3⟩
end Go.Proofs.YtkgkkobdpgnicaaDoor
