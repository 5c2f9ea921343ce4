/-
  Trees in memory (of no program): a node's twelve cells, what hangs on them, in which blocks, and that it stays while other blocks turn.
-/
import Derived.Test.YtanofmejokgijaaTur
import Derived.Test.YtanofmejokgijaaTreO
import Derived.Test.YtanofmejokgijaaPaA
namespace Go.Proofs.Ytanofmejokgijaa
open Go.RowKit
set_option linter.unusedVariables false

/-- Three slices' places: data, attrs, kids. -/
structure Hang where
  ad : Option Addr
  nd : Nat
  cd : Nat
  aa : Option Addr
  na : Nat
  ca : Nat
  ak : Option Addr
  nk : Nat
  ck : Nat
def nodeCells (o : Own) (h : Hang) : List Value :=
  [.int .i64 o.kind, tv o.name, .int .i64 o.mode, .int .i64 o.uid, .int .i64 o.gid, .int .i64 o.mtime, .slice h.ad h.nd h.cd, tv o.target, .int .i64 o.major, .int .i64 o.minor, .slice h.aa h.na h.ca, .slice h.ak h.nk h.ck]
theorem nodeCells_len (o : Own) (h : Hang) : (nodeCells o h).length = 12 := rfl
theorem nodeCells_one (o : Own) (h : Hang) : ∀ u ∈ nodeCells o h, u.oneCell' = true := by simp [nodeCells, Value.oneCell']
/-- A node as a value. -/
abbrev nv (o : Own) (h : Hang) : Value := .agg (nodeCells o h).toArray
def attrCells (a : List UInt8 × List UInt8) : List Value := [tv a.1, tv a.2]

/-- Cells that lie there, in a block that is ok. -/
def LiesOn (w : World) (ok : Nat → Prop) (A : Option Addr) (vs : List Value) : Prop :=
  ∀ j u, vs[j]? = some u → ∃ ad, A = some ad ∧ ok ad.block ∧ w.cell? (ad.add j) = some u
section
variable {w w' : World} {ok ok' S : Nat → Prop} {A : Option Addr} {vs : List Value} {B : Nat}
theorem LiesOn.empty : LiesOn w ok A [] := fun j u h => by simp at h
theorem LiesOn.lies (h : LiesOn w ok A vs) : Lies w w.heap.size A vs := fun j u hu => by
  obtain ⟨ad, e, _, hc⟩ := h j u hu
  exact ⟨ad, e, by have := World.block_lt_of_cell? w _ hc; rwa [add_block] at this, hc⟩
theorem Lies.on (h : Lies w B A vs) (hk : ∀ k, k < B → ok k) : LiesOn w ok A vs := fun j u hu => by
  obtain ⟨ad, e, hb, hc⟩ := h j u hu
  exact ⟨ad, e, hk _ hb, hc⟩
theorem LiesOn.low (h : LiesOn w ok A vs) : LiesOn w (· < w.heap.size) A vs := h.lies.on fun _ h => h
theorem LiesOn.mono (h : LiesOn w ok A vs) (hk : ∀ k, ok k → ok' k) : LiesOn w ok' A vs := fun j u hu => by
  obtain ⟨ad, e, hb, hc⟩ := h j u hu
  exact ⟨ad, e, hk _ hb, hc⟩
theorem LiesOn.turn (h : LiesOn w ok A vs) (ht : Turns S w w') (hk : ∀ k, ok k → ¬ S k) : LiesOn w' ok A vs := fun j u hu => by
  obtain ⟨ad, e, hb, hc⟩ := h j u hu
  exact ⟨ad, e, hb, ht.cell hc (by rw [add_block]; exact hk _ hb)⟩
end
def NoS : Nat → Prop := fun _ => False
theorem turns_grows {w w' : World} (h : Grows w w') : Turns NoS w w' := Turns.of_grows h

/-- A node's data and attrs lie there. -/
structure OwnOn (w : World) (ok : Nat → Prop) (o : Own) (h : Hang) : Prop where
  dlen : o.data.length = h.nd
  dcap : h.nd ≤ h.cd ∧ h.cd ≤ maxLen
  data : LiesOn w ok h.ad (o.data.map bv)
  alen : o.attrs.length = h.na
  acap : h.na ≤ h.ca ∧ h.ca ≤ maxLen
  attrs : LiesOn w ok h.aa (o.attrs.map attrCells).flatten
def lenF : Fo → Nat
  | .nil => 0
  | .cons o k r => lenF r + 1
/-- A record's cells. -/
def RecAt (w : World) (ok : Nat → Prop) (A : Option Addr) (i : Nat) (vs : List Value) : Prop :=
  ∃ ad, A = some ad ∧ ok ad.block ∧ ∀ j u, vs[j]? = some u → w.cell? (ad.add (i * 12 + j)) = some u
/-- A forest lies at A, from its record number i on. -/
def KidsOn (w : World) (ok : Nat → Prop) (A : Option Addr) : Nat → Fo → Prop
  | _, .nil => True
  | i, .cons o k r => (∃ h : Hang, RecAt w ok A i (nodeCells o h) ∧ OwnOn w ok o h ∧ lenF k = h.nk ∧ h.nk ≤ h.ck ∧ h.ck ≤ maxLen ∧ KidsOn w ok h.ak 0 k) ∧ KidsOn w ok A (i + 1) r
/-- All that hangs on a node's cells. -/
structure NodeOn (w : World) (ok : Nat → Prop) (o : Own) (k : Fo) (h : Hang) : Prop where
  own : OwnOn w ok o h
  klen : lenF k = h.nk
  kcap : h.nk ≤ h.ck ∧ h.ck ≤ maxLen
  kids : KidsOn w ok h.ak 0 k
/-- The same, of records whose own blocks are others. -/
def RowOn (w : World) (okT ok : Nat → Prop) (A : Option Addr) : Nat → Fo → Prop
  | _, .nil => True
  | i, .cons o k r => (∃ h : Hang, RecAt w okT A i (nodeCells o h) ∧ NodeOn w ok o k h) ∧ RowOn w okT ok A (i + 1) r
section
variable {w w' : World} {ok ok' okT okT' S : Nat → Prop} {A : Option Addr}
theorem OwnOn.turn {o : Own} {h : Hang} (k : OwnOn w ok o h) (ht : Turns S w w') (hk : ∀ k, ok k → ¬ S k) : OwnOn w' ok o h := ⟨k.dlen, k.dcap, k.data.turn ht hk, k.alen, k.acap, k.attrs.turn ht hk⟩
theorem OwnOn.mono {o : Own} {h : Hang} (k : OwnOn w ok o h) (hk : ∀ k, ok k → ok' k) : OwnOn w ok' o h := ⟨k.dlen, k.dcap, k.data.mono hk, k.alen, k.acap, k.attrs.mono hk⟩
theorem OwnOn.low {o : Own} {h : Hang} (k : OwnOn w ok o h) : OwnOn w (· < w.heap.size) o h := ⟨k.dlen, k.dcap, k.data.low, k.alen, k.acap, k.attrs.low⟩
theorem RecAt.turn {i : Nat} {vs : List Value} (h : RecAt w ok A i vs) (ht : Turns S w w') (hk : ∀ k, ok k → ¬ S k) : RecAt w' ok A i vs := by
  obtain ⟨ad, e, hb, hc⟩ := h
  exact ⟨ad, e, hb, fun j u hu => ht.cell (hc j u hu) (by rw [add_block]; exact hk _ hb)⟩
theorem RecAt.mono {i : Nat} {vs : List Value} (h : RecAt w ok A i vs) (hk : ∀ k, ok k → ok' k) : RecAt w ok' A i vs := by
  obtain ⟨ad, e, hb, hc⟩ := h
  exact ⟨ad, e, hk _ hb, hc⟩
theorem RecAt.low {i : Nat} {o : Own} {h : Hang} (hr : RecAt w ok A i (nodeCells o h)) : RecAt w (· < w.heap.size) A i (nodeCells o h) := by
  obtain ⟨ad, e, hb, hc⟩ := hr
  exact ⟨ad, e, by have := World.block_lt_of_cell? w _ (hc 0 _ rfl); rwa [add_block] at this, hc⟩
theorem KidsOn.turn {K : Fo} (ht : Turns S w w') (hk : ∀ k, ok k → ¬ S k) : ∀ {A : Option Addr} {i : Nat}, KidsOn w ok A i K → KidsOn w' ok A i K := by
  induction K with
  | nil => intro A i _; trivial
  | cons o k r ik ir =>
    intro A i h
    obtain ⟨⟨h, hr, ho, h1, h2, h3, hk'⟩, hrr⟩ := h
    exact ⟨⟨h, hr.turn ht hk, ho.turn ht hk, h1, h2, h3, ik hk'⟩, ir hrr⟩
theorem KidsOn.mono {K : Fo} (hk : ∀ k, ok k → ok' k) : ∀ {A : Option Addr} {i : Nat}, KidsOn w ok A i K → KidsOn w ok' A i K := by
  induction K with
  | nil => intro A i _; trivial
  | cons o k r ik ir =>
    intro A i h
    obtain ⟨⟨h, hr, ho, h1, h2, h3, hk'⟩, hrr⟩ := h
    exact ⟨⟨h, hr.mono hk, ho.mono hk, h1, h2, h3, ik hk'⟩, ir hrr⟩
theorem KidsOn.low {K : Fo} : ∀ {A : Option Addr} {i : Nat}, KidsOn w ok A i K → KidsOn w (· < w.heap.size) A i K := by
  induction K with
  | nil => intro A i _; trivial
  | cons o k r ik ir =>
    intro A i h
    obtain ⟨⟨h, hr, ho, h1, h2, h3, hk'⟩, hrr⟩ := h
    exact ⟨⟨h, hr.low, ho.low, h1, h2, h3, ik hk'⟩, ir hrr⟩
theorem NodeOn.turn {o : Own} {k : Fo} {h : Hang} (n : NodeOn w ok o k h) (ht : Turns S w w') (hk : ∀ k, ok k → ¬ S k) : NodeOn w' ok o k h := ⟨n.own.turn ht hk, n.klen, n.kcap, n.kids.turn ht hk⟩
theorem NodeOn.later {o : Own} {k : Fo} {h : Hang} (n : NodeOn w ok o k h) (hg : Grows w w') : NodeOn w' ok o k h := n.turn (turns_grows hg) fun _ _ h => h
theorem NodeOn.mono {o : Own} {k : Fo} {h : Hang} (n : NodeOn w ok o k h) (hk : ∀ k, ok k → ok' k) : NodeOn w ok' o k h := ⟨n.own.mono hk, n.klen, n.kcap, n.kids.mono hk⟩
theorem NodeOn.low {o : Own} {k : Fo} {h : Hang} (n : NodeOn w ok o k h) : NodeOn w (· < w.heap.size) o k h := ⟨n.own.low, n.klen, n.kcap, n.kids.low⟩
theorem KidsOn.later {K : Fo} {i : Nat} (h : KidsOn w ok A i K) (hg : Grows w w') : KidsOn w' ok A i K := h.turn (turns_grows hg) fun _ _ h => h
theorem KidsOn.cons {o : Own} {k r : Fo} {i : Nat} (h : KidsOn w ok A i (.cons o k r)) : (∃ h : Hang, RecAt w ok A i (nodeCells o h) ∧ NodeOn w ok o k h) ∧ KidsOn w ok A (i + 1) r := by
  obtain ⟨⟨h, hr, ho, h1, h2, h3, hk'⟩, hrr⟩ := h
  exact ⟨⟨h, hr, ho, h1, ⟨h2, h3⟩, hk'⟩, hrr⟩
theorem KidsOn.mk {o : Own} {k r : Fo} {i : Nat} {h : Hang} (hr : RecAt w ok A i (nodeCells o h)) (n : NodeOn w ok o k h) (h2 : KidsOn w ok A (i + 1) r) : KidsOn w ok A i (.cons o k r) :=
  ⟨⟨h, hr, n.own, n.klen, n.kcap.1, n.kcap.2, n.kids⟩, h2⟩
theorem KidsOn.row {K : Fo} : ∀ {i : Nat}, KidsOn w ok A i K → RowOn w ok ok A i K := by
  induction K with
  | nil => intro i _; trivial
  | cons o k r ik ir => intro i h; exact ⟨h.cons.1, ir h.cons.2⟩
theorem RowOn.kids {K : Fo} : ∀ {i : Nat}, RowOn w ok ok A i K → KidsOn w ok A i K := by
  induction K with
  | nil => intro i _; trivial
  | cons o k r ik ir =>
    intro i h
    obtain ⟨⟨h, h1, h2⟩, h3⟩ := h
    exact KidsOn.mk h1 h2 (ir h3)
theorem RowOn.turn {K : Fo} (ht : Turns S w w') (hk : ∀ k, ok k → ¬ S k) (hT : ∀ k, okT k → ¬ S k) : ∀ {i : Nat}, RowOn w okT ok A i K → RowOn w' okT ok A i K := by
  induction K with
  | nil => intro i _; trivial
  | cons o k r ik ir =>
    intro i h
    obtain ⟨⟨h, h1, h2⟩, h3⟩ := h
    exact ⟨⟨h, h1.turn ht hT, h2.turn ht hk⟩, ir h3⟩
/-- Behind the first one. -/
theorem RecAt.shift {i : Nat} {vs : List Value} (h : RecAt w ok A (i + 1) vs) : RecAt w ok (A.map (·.add (1 * 12))) i vs := by
  obtain ⟨ad, rfl, hb, hc⟩ := h
  refine ⟨ad.add (1 * 12), rfl, by rw [add_block]; exact hb, fun j u hu => ?_⟩
  rw [add_add_addr, show 1 * 12 + (i * 12 + j) = (i + 1) * 12 + j by omega]
  exact hc j u hu
theorem RowOn.shift {K : Fo} : ∀ {i : Nat}, RowOn w okT ok A (i + 1) K → RowOn w okT ok (A.map (·.add (1 * 12))) i K := by
  induction K with
  | nil => intro i _; trivial
  | cons o k r ik ir =>
    intro i h
    obtain ⟨⟨h, h1, h2⟩, h3⟩ := h
    exact ⟨⟨h, h1.shift, h2⟩, ir h3⟩
theorem RowOn.tail {K : Fo} {c : Nat} (h : RowOn w okT ok A 1 K) (hc : lenF K < c) : RowOn w okT ok (cutA A c 1 12) 0 K := by
  unfold cutA
  split
  · cases K with
    | nil => trivial
    | cons o k r => simp only [lenF] at hc; omega
  · exact RowOn.shift (i := 0) h
theorem RecAt.cells {i : Nat} {vs : List Value} (h : RecAt w ok A i vs) : ∃ ad, A = some ad ∧ ok ad.block ∧ ∀ j u, vs[j]? = some u → w.cell? (ad.add (i * 12 + j)) = some u := h
end
def kidsL : Fo → List (Own × Fo)
  | .nil => []
  | .cons o k r => (o, k) :: kidsL r
def ofL : List (Own × Fo) → Fo
  | [] => .nil
  | x :: l => .cons x.1 x.2 (ofL l)
theorem ofL_kids (K : Fo) : ofL (kidsL K) = K := by
  induction K with
  | nil => rfl
  | cons o k r _ ir => simp [kidsL, ofL, ir]
theorem kids_ofL (l : List (Own × Fo)) : kidsL (ofL l) = l := by
  induction l with
  | nil => rfl
  | cons x l ih => simp [kidsL, ofL, ih]
theorem kidsL_len (K : Fo) : (kidsL K).length = lenF K := by
  induction K with
  | nil => rfl
  | cons o k r _ ir => simp [kidsL, lenF, ir]
theorem lenF_ofL (l : List (Own × Fo)) : lenF (ofL l) = l.length := by rw [← kidsL_len, kids_ofL]
/-- One of the kids. -/
theorem KidsOn.at_ {w : World} {ok : Nat → Prop} {A : Option Addr} {K : Fo} : ∀ {i j : Nat} {x : Own × Fo}, KidsOn w ok A i K → (kidsL K)[j]? = some x → ∃ (h : Hang), RecAt w ok A (i + j) (nodeCells x.1 h) ∧ NodeOn w ok x.1 x.2 h := by
  induction K with
  | nil => intro i j x _ hj; simp [kidsL] at hj
  | cons o k r _ ir =>
    intro i j x hK hj
    obtain ⟨⟨h, h1, h2⟩, hr⟩ := hK.cons
    cases j with
    | zero =>
      simp [kidsL] at hj
      subst hj
      exact ⟨h, h1, h2⟩
    | succ j =>
      have := ir (i := i + 1) (j := j) hr (by simpa [kidsL] using hj)
      rw [show i + 1 + j = i + (j + 1) by omega] at this
      exact this
/-- A forest out of records that lie there. -/
theorem KidsOn.of {w : World} {ok : Nat → Prop} {A : Option Addr} : ∀ (l : List (Own × Fo)) (hs : List Hang) (i : Nat), hs.length = l.length → (∀ (j : Nat) (x : Own × Fo) (h : Hang), l[j]? = some x → hs[j]? = some h → NodeOn w ok x.1 x.2 h ∧ RecAt w ok A (i + j) (nodeCells x.1 h)) → KidsOn w ok A i (ofL l)
  | [], _, _, _, _ => trivial
  | x :: l, [], _, hl, _ => by simp at hl
  | x :: l, h :: hs, i, hl, hh => by
    obtain ⟨hn, hc⟩ := hh 0 x h rfl rfl
    refine KidsOn.mk hc hn (KidsOn.of l hs (i + 1) (by simpa using hl) fun j y g h1 h2 => ?_)
    have := hh (j + 1) y g (by simpa using h1) (by simpa using h2)
    rw [show i + (j + 1) = i + 1 + j by omega] at this
    exact this
/-- The same, out of an owned row of records. -/
theorem KidsOn.of_recs {w : World} {ok : Nat → Prop} {A : Option Addr} {l : List (Own × Fo)} {hs : List Hang} (hl : hs.length = l.length) (hr : Recs w A 12 ((l.zip hs).map fun p => nodeCells p.1.1 p.2)) (hok : ∀ ad, A = some ad → ok ad.block) (hn : ∀ (j : Nat) (x : Own × Fo) (h : Hang), l[j]? = some x → hs[j]? = some h → NodeOn w ok x.1 x.2 h) : KidsOn w ok A 0 (ofL l) := by
  refine KidsOn.of l hs 0 hl fun j x h h1 h2 => ⟨hn j x h h1 h2, ?_⟩
  have hz : ((l.zip hs).map fun p => nodeCells p.1.1 p.2)[j]? = some (nodeCells x.1 h) := by
    rw [List.getElem?_map, (List.getElem?_zip_eq_some (z := (x, h))).2 ⟨h1, h2⟩]; rfl
  obtain ⟨ad, e, hb, hc⟩ := hr.at_ (by omega) hz
  exact ⟨ad, e, hok ad e, fun t u hu => by rw [Nat.zero_add]; exact hc t u hu⟩
end Go.Proofs.Ytanofmejokgijaa
