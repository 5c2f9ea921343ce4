/-
  Contracts, joined (Base Sched Arr Ord Cel Cut Rec RollM RFew RollA Mak Tur CutA).
-/
import Derived.WalkKit
import Derived.Maps.AppendAt
import Derived.Laws.BytesArg
import Derived.Deep.Draws
import Derived.Lib.ConvBytes
import Derived.Deep.RegionHeld3
import Derived.Deep.MidRow
import Derived.Laws.ResultCell
import Derived.ChangeKeysEq
import Derived.ProofKit
import Derived.OpenShut
import Derived.StillTail
import Derived.Deep.Quiet
import Derived.Test.YtnokloedbckijaaDoorRows
import Derived.Outline
import Derived.Lib.Hide
import Derived.Laws.BitsAllLaws
import Derived.BigQuiet
import Derived.Laws.CopyOwn
import Derived.Deep.OwnRows

/-
  WORDS FOR MEMORY that the contracts of this family share (of no program): cells that lie at an address, a byte as a value, append and string(..) over such.
-/
namespace Go.Proofs.YtnokloedbckijaaDoor
open Go.RowKit
set_option linter.unusedVariables false

theorem add_block (a : Addr) (j : Nat) : (a.add j).block = a.block := by
  unfold Addr.add
  split <;> rfl
theorem add_zero_eq (a : Addr) : a.add 0 = a := by simp [Addr.add]
theorem add_plain (b o j : Nat) : (⟨b, o, none⟩ : Addr).add j = ⟨b, o + j, none⟩ := by
  unfold Addr.add
  split <;> simp_all

/-- The cells 'vs' lie, one behind the other, at the address (if any) A, in a block below B. -/
def Lies (w : World) (B : Nat) (A : Option Addr) (vs : List Value) : Prop :=
  ∀ j u, vs[j]? = some u → ∃ ad, A = some ad ∧ ad.block < B ∧ w.cell? (ad.add j) = some u

section
variable {w w' : World} {B B' : Nat} {A : Option Addr} {vs : List Value}
theorem Lies.empty : Lies w B A [] := fun j u h => by simp at h
theorem Lies.at_ (h : Lies w B A vs) {j : Nat} {u : Value} (hu : vs[j]? = some u) : ∃ ad, A = some ad ∧ ad.block < B ∧ w.cell? (ad.add j) = some u := h j u hu
theorem Lies.keep (h : Lies w B A vs) (hk : ∀ p : Addr, p.block < B → w'.cell? p = w.cell? p) : Lies w' B A vs := fun j u hu => by
  obtain ⟨ad, e, hb, hc⟩ := h j u hu
  exact ⟨ad, e, hb, (hk _ (by rw [add_block]; exact hb)).trans hc⟩
theorem Lies.below (h : Lies w B A vs) (hb : Below B w w') : Lies w' B A vs := h.keep fun _ hp => hb.cell hp
theorem Lies.mono (h : Lies w B A vs) (hB : B ≤ B') : Lies w B' A vs := fun j u hu => by
  obtain ⟨ad, e, hb, hc⟩ := h j u hu
  exact ⟨ad, e, by omega, hc⟩
theorem Lies.take (h : Lies w B A vs) (k : Nat) : Lies w B A (vs.take k) := fun j u hu => by
  refine h j u ?_
  rw [List.getElem?_take] at hu
  split at hu
  · exact hu
  · cases hu
theorem Lies.of_own {base : Nat} {e : TypeId} {n c : Nat} (h : w.ownsRow base e 1 (.slice A n c) n vs) : Lies w w.heap.size A vs := by
  intro j u hu
  obtain ⟨h1, h2⟩ := h
  have hj : j < vs.length := by
    rcases Nat.lt_or_ge j vs.length with hlt | hge
    · exact hlt
    · rw [List.getElem?_eq_none hge] at hu; cases hu
  rcases h2 with ⟨_, h0⟩ | ⟨g, cap, cur, hv, _, hh, hn, _, hsz, htk⟩
  · subst h0; simp at h1; subst h1; simp at hj
  · injection hv with hA
    subst hA
    have hg : g < w.heap.size := by
      rcases Nat.lt_or_ge g w.heap.size with hlt | hge
      · exact hlt
      · rw [Array.getElem?_eq_none hge] at hh; cases hh
    refine ⟨⟨g, 0, none⟩, rfl, hg, ?_⟩
    rw [add_plain, cell_of_row w g _ cur e (0, 0) hh]
    have : (cur.toList.take (n * 1))[j]? = some u := by rw [htk]; exact hu
    rw [List.getElem?_take] at this
    split at this
    · simpa using this
    · cases this
theorem Lies.none_empty (h : Lies w B none vs) : vs = [] := by
  cases vs with
  | nil => rfl
  | cons x r =>
    obtain ⟨ad, e, _⟩ := h 0 x rfl
    cases e
theorem Lies.cells {ad : Addr} (h : Lies w B (some ad) vs) : ∀ j u, vs[j]? = some u → w.cell? (ad.add j) = some u := fun j u hu => by
  obtain ⟨ad', e, _, hc⟩ := h j u hu
  injection e with e
  subst e
  exact hc
end

/-- A byte as a value. -/
abbrev bv (b : UInt8) : Value := .int .u8 (b.toNat : Int)
theorem bv_one (l : List UInt8) : ∀ u ∈ l.map bv, u.oneCell' = true := fun u hu => by
  obtain ⟨b, _, rfl⟩ := List.mem_map.1 hu
  rfl

section
variable {P : Program} (w : World)

/-- append(owned, source...): the source may be nil, empty, or lie anywhere. -/
theorem run_append_src (base : Nat) (t ty e : TypeId) (i : TypeInfo) (z : Value) (bytes : Nat) (ht : P.underlying t = some (.slice e)) (hi : P.info? e = some i) (hz : i.zero = some z)
    (hsize : i.size = 1) (hby : i.bytes = bytes) (hzs : z.cells.size = 1)
    (v : Value) (n : Nat) (xs : List Value) (hown : w.ownsRow base e 1 v n xs)
    (B : Nat) (A : Option Addr) (m c : Nat) (news : List Value) (hl : news.length = m) (hr : Lies w B A news) (h1 : ∀ u ∈ news, u.oneCell' = true)
    (h63 : n + m ≤ maxLen) (hbytes : (n + m) * bytes ≤ 140737488355328) (hbase : base ≤ w.heap.size) :
    ∃ v' w', (Builtin.append_ #[t, t] ty #[v, .slice A m c]).run P w = .ok v' w' ∧ w'.ownsRow base e 1 v' (n + m) (xs ++ news) ∧ w.grownBy w' v.ownBlock ∧
      (v'.ownBlock = v.ownBlock ∨ v'.ownBlock = some w.heap.size) := by
  cases A with
  | none =>
    have hn := hr.none_empty
    subst hn
    simp at hl
    subst hl
    refine ⟨v, w, ?_, by simpa using hown, World.grownBy.refl w _, .inl rfl⟩
    rcases hown.2 with ⟨rfl, rfl⟩ | ⟨g, cap, cur, rfl, _, _, hnc, _⟩
    · simp [Builtin.append_, run_underlying ht, sizeOf, typeInfo, hi, Builtin.lenOf, Builtin.firstCells]
    · simp [Builtin.append_, run_underlying ht, sizeOf, typeInfo, hi, Builtin.lenOf, Builtin.firstCells, hnc, storeCells]
  | some ad =>
    obtain ⟨v', w', hrun, h2, h3, _, h5⟩ := run_append_own_at (P := P) w base t ty e i z 1 bytes ht hi hz hsize hby hzs (by omega) v n xs hown ad m c news (by omega) hr.cells h1 h63 hbytes hbase
    exact ⟨v', w', hrun, h2, h3, h5⟩

theorem wpList_append_src {ops : Array Oper} {rest : List Oper} {o : Oper} {a : Act} {Q : Exit → Act → World → Prop} (hgd : o.guard = none) (s x : Operand) (t : TypeId)
    (ho : o.op = .call { callee := .builtin .append, args := #[s, x], argTypes := #[t, t] })
    (base : Nat) (e : TypeId) (i : TypeInfo) (z : Value) (bytes : Nat) (ht : P.underlying t = some (.slice e)) (hi : P.info? e = some i) (hz : i.zero = some z)
    (hsize : i.size = 1) (hby : i.bytes = bytes) (hzs : z.cells.size = 1)
    (v : Value) (n : Nat) (xs : List Value) (hs : a.eval s = v) (hown : w.ownsRow base e 1 v n xs)
    (B : Nat) (A : Option Addr) (m c : Nat) (news : List Value) (hx : a.eval x = .slice A m c) (hl : news.length = m) (hr : Lies w B A news) (h1 : ∀ u ∈ news, u.oneCell' = true)
    (h63 : n + m ≤ maxLen) (hbytes : (n + m) * bytes ≤ 140737488355328) (hbase : base ≤ w.heap.size)
    (h : ∀ v' w', w'.ownsRow base e 1 v' (n + m) (xs ++ news) → w.grownBy w' v.ownBlock → (v'.ownBlock = v.ownBlock ∨ v'.ownBlock = some w.heap.size) → wpList P ops Q rest (a.put o.dst v') w') : wpList P ops Q (o :: rest) a w := by
  refine wpList_plain hgd fun K hK => ?_
  obtain ⟨v', w', hrun, h2, h3, h4⟩ := run_append_src (P := P) w base t o.type e i z bytes ht hi hz hsize hby hzs v n xs hown B A m c news hl hr h1 h63 hbytes hbase
  unfold Oper.wp execOp
  simp only [ho, resolve, invoke, builtin, Sem.run_bind, Sem.run_pure, Result.andThen_ok, List.map_toArray, List.map_cons, List.map_nil, hs, hx, hrun]
  exact hK _ _ (h v' w' h2 h3 h4)

theorem step_append_src {ops : Array Oper} {o : Oper} {a : Act} {K : Act → World → Prop} {Q : Exit → Act → World → Prop} {E : Prop} (hgd : o.guard = none) (s x : Operand) (t : TypeId)
    (ho : o.op = .call { callee := .builtin .append, args := #[s, x], argTypes := #[t, t] })
    (base : Nat) (e : TypeId) (i : TypeInfo) (z : Value) (bytes : Nat) (ht : P.underlying t = some (.slice e)) (hi : P.info? e = some i) (hz : i.zero = some z)
    (hsize : i.size = 1) (hby : i.bytes = bytes) (hzs : z.cells.size = 1)
    (v : Value) (n : Nat) (xs : List Value) (hs : a.eval s = v) (hown : w.ownsRow base e 1 v n xs)
    (B : Nat) (A : Option Addr) (m c : Nat) (news : List Value) (hx : a.eval x = .slice A m c) (hl : news.length = m) (hr : Lies w B A news) (h1 : ∀ u ∈ news, u.oneCell' = true)
    (h63 : n + m ≤ maxLen) (hbytes : (n + m) * bytes ≤ 140737488355328) (hbase : base ≤ w.heap.size)
    (h : ∀ v' w', w'.ownsRow base e 1 v' (n + m) (xs ++ news) → w.grownBy w' v.ownBlock → (v'.ownBlock = v.ownBlock ∨ v'.ownBlock = some w.heap.size) → K (a.put o.dst v') w') :
    if Region.wanted o (yielded ops a.tmps) = true then Oper.wp P o a w K Q else E := by
  have hw : Region.wanted o (yielded ops a.tmps) = true := by simp [Region.wanted, hgd]
  rw [if_pos hw]
  obtain ⟨v', w', hrun, h2, h3, h4⟩ := run_append_src (P := P) w base t o.type e i z bytes ht hi hz hsize hby hzs v n xs hown B A m c news hl hr h1 h63 hbytes hbase
  unfold Oper.wp execOp
  simp only [ho, resolve, invoke, builtin, Sem.run_bind, Sem.run_pure, Result.andThen_ok, List.map_toArray, List.map_cons, List.map_nil, hs, hx, hrun]
  exact h v' w' h2 h3 h4

/-- The cells of a new block lie there. -/
theorem Lies.new (w : World) (t : TypeId) (cs : List Value) : Lies (w.alloc (.cells cs.toArray t)) (w.heap.size + 1) (some ⟨w.heap.size, 0, none⟩) cs := fun j u hu =>
  ⟨⟨w.heap.size, 0, none⟩, rfl, Nat.lt_succ_self _, by rw [add_plain, cell_of_row _ _ _ _ t (0, 0) (heap_alloc_new w _)]; simpa using hu⟩

theorem Lies.drew {w : World} {B : Nat} {A : Option Addr} {vs : List Value} (h : Lies w B A vs) : Lies w.drew B A vs := h
theorem own_ge {w : World} {base : Nat} {e : TypeId} {size : Nat} {v : Value} {n : Nat} {xs : List Value} (h : w.ownsRow base e size v n xs) : ∀ g, v.ownBlock = some g → base ≤ g := fun g hg => by
  rcases h.2 with ⟨rfl, _⟩ | ⟨g', cap, cur, rfl, hb, _⟩
  · simp [Value.ownBlock] at hg
  · simp [Value.ownBlock] at hg; omega

theorem own_form {w : World} {base : Nat} {e : TypeId} {size : Nat} {v : Value} {n : Nat} {xs : List Value} (h : w.ownsRow base e size v n xs) : ∃ A c, v = .slice A n c ∧ n ≤ c := by
  rcases h.2 with ⟨rfl, rfl⟩ | ⟨g', cap, cur, rfl, _, _, hc, _⟩
  · exact ⟨none, 0, rfl, Nat.le_refl _⟩
  · exact ⟨_, _, rfl, hc⟩

/-- string(b): the bytes that lie there. -/
theorem run_string_of (src e : TypeId) (hs : P.underlying src = some (.slice e)) (he : P.underlying e = some (.int .u8)) (dst : TypeId) (hd : P.underlying dst = some .string)
    (B : Nat) (A : Option Addr) (m c : Nat) (l : List UInt8) (hl : l.length = m) (hr : Lies w B A (l.map bv)) :
    (convert src dst (.slice A m c)).run P w = .ok (.string ⟨l.toArray⟩) w := by
  cases A with
  | none =>
    have hn := hr.none_empty
    simp at hn
    subst hn
    rw [run_convert_bytes_nil w src e hs he m c dst hd]
    rfl
  | some ad =>
    have hload : (loadCells ad m).run P w = .ok ((l.map fun b => (b.toNat : Int)).map (Value.int .u8)).toArray w := by
      have := run_loadCells_list (P := P) w ad (l.map bv) hr.cells
      rw [List.length_map, hl] at this
      rw [this, List.map_map]
      rfl
    rw [run_convert_bytes_string w src dst e _ m c hs he hd, run_bytesToString w _ m c _ hload, foldl_push_bytes]
    simp [ByteArray.empty, ByteArray.emptyWithCapacity, List.map_map, Function.comp_def]
    rfl
end

theorem below_draws {B n : Nat} {a w : World} (h : Below B a w) : Below B a (w.drewN n) := ⟨h.os, h.tape, h.output, h.size, h.block⟩

theorem Lies.later {w w' : World} {A : Option Addr} {vs : List Value} (h : Lies w w.heap.size A vs) (hb : Below w.heap.size w w') : Lies w' w'.heap.size A vs := (h.below hb).mono hb.size
theorem grow_trans {a b c : World} (h : Below a.heap.size a b) (k : Below b.heap.size b c) : Below a.heap.size a c := h.trans (k.mono h.size)

theorem Lies.alloc_ {w : World} {B : Nat} {A : Option Addr} {vs : List Value} {o : Obj} (h : Lies w B A vs) (hB : B ≤ w.heap.size) : Lies (w.alloc o) B A vs := h.keep fun p hp => World.cell?_alloc_lt w o p (by omega)

/-- A store into one of the cells. -/
theorem Lies.set_ {w : World} {B b k : Nat} {vs : List Value} {u : Value} (h : Lies w B (some ⟨b, 0, none⟩) vs) (hk : k < vs.length) : Lies (w.setCell ⟨b, k, none⟩ u) B (some ⟨b, 0, none⟩) (vs.set k u) := fun j x hx => by
  have hj : j < vs.length := by
    rcases Nat.lt_or_ge j vs.length with hlt | hge
    · exact hlt
    · rw [List.getElem?_eq_none (by simpa using hge)] at hx; cases hx
  obtain ⟨ad, e, hb, hc⟩ := h j vs[j] (List.getElem?_eq_getElem hj)
  injection e with e
  subst e
  refine ⟨_, rfl, hb, ?_⟩
  rw [add_plain, Nat.zero_add] at hc ⊢
  by_cases hjk : k = j
  · subst hjk
    rw [List.getElem?_set_self hk] at hx
    injection hx with hx
    subst hx
    exact World.cell?_setCell_same w _ _ hc
  · rw [List.getElem?_set_ne hjk, List.getElem?_eq_getElem hj] at hx
    injection hx with hx
    subst hx
    rw [World.cell?_setCell_other w _ _ _ (by intro e; injection e with _ e; exact hjk e)]
    exact hc

/-- []byte(s): a new row. -/
theorem run_bytes_of {P : Program} (src dst e : TypeId) (hs : P.underlying src = some .string) (hd : P.underlying dst = some (.slice e)) (he : P.underlying e = some (.int .u8)) (l : List UInt8) (hl : l.length ≤ maxLen) (w : World) :
    ∃ w' c, (convert src dst (.string ⟨l.toArray⟩)).run P w = .ok (.slice (some ⟨w.heap.size, 0, none⟩) l.length c) w' ∧ l.length ≤ c ∧ c ≤ maxLen ∧ Below w.heap.size w w' ∧ w'.heap.size = w.heap.size + 1 ∧
      (∀ j u, (l.map bv)[j]? = some u → w'.cell? ⟨w.heap.size, j, none⟩ = some u) ∧ ∀ j, j < l.length → w'.frozen? ⟨w.heap.size, j, none⟩ = false := by
  have hz : (⟨l.toArray⟩ : ByteArray).size = l.length := by show l.toArray.size = _; simp
  refine ⟨Lib.bytesWorld w e ⟨l.toArray⟩, grownCap w l.length 0 e, ?_, grownCap_ge _ _ _ _, grownCap_le_maxLen _ _ _ _ hl, ?_, Lib.bytesWorld_size _ _ _, ?_, ?_⟩
  · have := Lib.run_convert_string_bytes (P := P) w src dst e ⟨l.toArray⟩ hs hd he
    rwa [hz] at this
  · refine ⟨?_, ?_, ?_, ?_, fun k hk => Lib.bytesWorld_at_old w e _ k hk⟩
    · simp [Lib.bytesWorld, World.freeze, World.alloc, World.drew, -World.alloc_eq, -World.drew_eq]
    · simp [Lib.bytesWorld, World.freeze, World.alloc, World.drew, -World.alloc_eq, -World.drew_eq]
    · simp [Lib.bytesWorld, World.freeze, World.alloc, World.drew, -World.alloc_eq, -World.drew_eq]
    · rw [Lib.bytesWorld_size]; omega
  · intro j u hu
    have hj : j < l.length := by
      rcases Nat.lt_or_ge j l.length with h | h
      · exact h
      · rw [List.getElem?_eq_none (by simpa using h)] at hu; cases hu
    rw [Lib.bytesWorld_cell w e _ j (by rw [hz]; exact hj)]
    rw [List.getElem?_map, List.getElem?_eq_getElem hj] at hu
    simp at hu
    rw [← hu]
    simp [List.getD, List.getElem?_eq_getElem hj]
  · intro j hj
    have hc : l.length ≤ (Lib.bytesCells w e ⟨l.toArray⟩).size := by simp [Lib.bytesCells]
    simp only [World.frozen?, Lib.bytesWorld_at_new]
    simp
    omega

/-- s + t -/
theorem run_cat {P : Program} (l r : List UInt8) (h : l.length + r.length ≤ 4611686018427387904) (w : World) : (Op.stringOp .add ⟨l.toArray⟩ ⟨r.toArray⟩).run P w = .ok (.string ⟨(l ++ r).toArray⟩) w := by
  have e : (⟨l.toArray⟩ : ByteArray) ++ ⟨r.toArray⟩ = ⟨(l ++ r).toArray⟩ := by ext1; simp
  rw [run_string_add_sum w _ _ (by show l.toArray.size + r.toArray.size ≤ _; simp; omega), e]

/-- What is told of a []byte that came in, as bytes that lie there. -/
theorem row_bytes {w : World} {a : Option Addr} {len cap : Nat} {zs : List Int}
    (h : (a = none ∧ len = 0 ∧ cap = 0 ∧ zs = []) ∨ ∃ x, a = some x ∧ len ≤ cap ∧ cap ≤ maxLen ∧ zs.length = cap ∧ (∀ i, i < zs.length → w.cell? (x.add i) = some (.int .u8 (zs.getD i 0))) ∧ ∀ n ∈ zs, (Lit.int .u8 n).wf = true) :
    ∃ bs : List UInt8, bs.length = len ∧ Lies w w.heap.size a (bs.map bv) ∧ len ≤ cap ∧ cap ≤ maxLen := by
  rcases h with ⟨rfl, rfl, rfl, rfl⟩ | ⟨x, rfl, hl, hm, hz, hc, hw⟩
  · exact ⟨[], rfl, Lies.empty, Nat.le_refl _, Nat.zero_le _⟩
  · refine ⟨(zs.take len).map fun z => UInt8.ofNat z.toNat, by simp; omega, fun j u hu => ?_, hl, hm⟩
    rw [List.map_map, List.getElem?_map, List.getElem?_take] at hu
    split at hu
    · rename_i hj
      have hjz : j < zs.length := by omega
      rw [List.getElem?_eq_getElem hjz] at hu
      simp at hu
      have h1 := hc j hjz
      have h2 := hw _ (List.getElem_mem hjz)
      have h3 : 0 ≤ zs[j] ∧ zs[j] ≤ 255 := by simp [Lit.wf, IntKind.min, IntKind.max, IntKind.signed, IntKind.bits] at h2; omega
      refine ⟨x, rfl, ?_, ?_⟩
      · have := World.block_lt_of_cell? w _ h1
        rwa [add_block] at this
      · rw [h1, ← hu]
        simp [List.getElem?_eq_getElem hjz]
        omega
    · simp at hu

end Go.Proofs.YtnokloedbckijaaDoor

/-
  A region that draws its order, walked once, in one order of ours: what only reads, and reads the same in every later world, is taken as soon as it may come up; what makes memory is carried out where nothing else may come up. (Of no program.)
-/
namespace Go.Proofs.YtnokloedbckijaaDoor
open Go.RowKit
set_option linter.unusedVariables false

/-- Nothing of what is there in a has turned in b. -/
abbrev Grows (a b : World) : Prop := Below a.heap.size a b
theorem Grows.refl (a : World) : Grows a a := Below.refl _ _
theorem hcell_later {a b : World} {p : Addr} {u : Value} (h : a.cell? p = some u) (hb : Grows a b) : b.cell? p = some u := (hb.cell (World.block_lt_of_cell? a p h)).trans h
theorem Grows.trans {a b c : World} (h : Grows a b) (k : Grows b c) : Grows a c := grow_trans h k

section
variable {P : Program} {ops : Array Oper} {Q : Exit → Act → World → Prop} {md : Region.Mode}

/-- Whatever order is picked from here on; behind every operation the world has but grown. -/
def wpAnyG (P : Program) (md : Region.Mode) (ops : Array Oper) (Q : Exit → Act → World → Prop) : Nat → Array Bool → Act → World → Prop
  | 0, listed, a, w => Region.ready md ops listed = [] ∧ Q .normal a w
  | fuel + 1, listed, a, w =>
    (Region.ready md ops listed = [] → Q .normal a w) ∧
    ∀ i ∈ Region.ready md ops listed, wpOp P ops Q i (fun a' w' => Grows w w' ∧ wpAnyG P md ops Q fuel (listed.setIfInBounds i true) a' w') a w

theorem wpAny_of_grown : ∀ (fuel : Nat) (listed : Array Bool) (a : Act) (w : World), wpAnyG P md ops Q fuel listed a w → wpAny P md ops Q fuel listed a w
  | 0, _, _, _, h => h
  | fuel + 1, _, _, _, h => ⟨h.1, fun i hi => wpOp_mono (fun a' w' h' => wpAny_of_grown fuel _ a' w' h'.2) (h.2 i hi)⟩

theorem yields_weaken {S S' : World → Prop} {o : Oper} {v : Value} {a : Act} (h : YieldsIf P ops S o v a) (hS : ∀ w, S' w → S w) : YieldsIf P ops S' o v a :=
  h.imp (fun ⟨hw, hv⟩ => ⟨hw, fun w h' => hv w (hS w h')⟩) id

/-- What may come up now, and yields one value in this world and in all that come of it, may be taken first. -/
theorem wpAnyG_first {i : Nat} {oi : Oper} {v : Value} (hi : ops[i]? = some oi) (hsel : ∀ (j : Nat) (o : Oper) cs b, ops[j]? = some o → o.op ≠ .select cs b)
    (hQ : ∀ c a w, Q (.panic c) (a.put oi.dst v) w → Q (.panic c) a w) :
    ∀ (fuel : Nat) (listed : Array Bool) (a : Act) (w : World),
      (∀ j oj, ops[j]? = some oj → j ≠ i → listed.getD j true = false → (∀ e ∈ oj.after, Region.binds md e = true → e.on ≠ i) → oi.apart ops oj = true) →
      i ∈ Region.ready md ops listed → YieldsIf P ops (Grows w) oi v a →
      wpAnyG P md ops Q fuel (listed.setIfInBounds i true) (a.put oi.dst v) w → wpAnyG P md ops Q (fuel + 1) listed a w := by
  intro fuel
  induction fuel with
  | zero =>
    intro listed a w _ hr hy H
    refine ⟨fun h => (by rw [h] at hr; cases hr), fun j hj => ?_⟩
    by_cases hji : j = i
    · subst hji
      exact hy.wpOp hi (Grows.refl w) ⟨Grows.refl w, H⟩
    · have := ready_mono hj hji
      rw [H.1] at this
      cases this
  | succ fuel ih =>
    intro listed a w hfree hr hy H
    refine ⟨fun h => (by rw [h] at hr; cases hr), fun j hj => ?_⟩
    by_cases hji : j = i
    · subst hji
      exact hy.wpOp hi (Grows.refl w) ⟨Grows.refl w, H⟩
    · have h1 := H.2 j (ready_mono hj hji)
      obtain ⟨hjun, oj, hoj, hall⟩ := mem_ready.1 hj
      have hnot : ∀ e ∈ oj.after, Region.binds md e = true → e.on ≠ i := fun e he hb heq => by
        have h1 := hall e he hb
        have h0 := (mem_ready.1 hr).1
        rw [heq] at h1
        rcases Nat.lt_or_ge i listed.size with h' | h'
        · simp [h'] at h0 h1
          rw [h0] at h1
          cases h1
        · simp [Array.getElem?_eq_none h'] at h1
      have h2 := wpOp_putIf hoj (hfree j oj hoj hji hjun hnot) (fun cs b => hsel i oi cs b hi) (fun cs b => hsel j oj cs b hoj) hQ hy h1
      have hfree' : ∀ k ok, ops[k]? = some ok → k ≠ i → (listed.setIfInBounds j true).getD k true = false →
          (∀ e ∈ ok.after, Region.binds md e = true → e.on ≠ i) → oi.apart ops ok = true := fun k ok hk hki hun hno => by
        refine hfree k ok hk hki ?_ hno
        by_cases hjk : j = k
        · subst hjk
          exact hjun
        · rw [getD_set_ne true hjk] at hun
          exact hun
      refine wpOp_mono (fun a' w' h3 => ⟨h3.2.1, ih (listed.setIfInBounds j true) a' w' hfree' (ready_mono hr (Ne.symm hji)) (yields_weaken h3.1 fun u hu => Grows.trans h3.2.1 hu) ?_⟩) h2
      rw [Array.setIfInBounds_comm _ _ hji]
      exact h3.2.2

/-- Our order is one that may be: each number may come up; (i, true): nobody who may come ahead of it touches what it touches; (i, false): nobody else may come up. -/
def schedB (md : Region.Mode) (ops : Array Oper) : List (Nat × Bool) → Array Bool → Bool
  | [], listed => (Region.ready md ops listed).isEmpty
  | (i, true) :: s, listed => (Region.ready md ops listed).contains i && Region.free md ops listed i && schedB md ops s (listed.setIfInBounds i true)
  | (i, false) :: s, listed => Region.ready md ops listed == [i] && schedB md ops s (listed.setIfInBounds i true)

/-- The walk in our order. w0: the world in which the region began. -/
def wpSched (P : Program) (ops : Array Oper) (Q : Exit → Act → World → Prop) (w0 : World) : List (Nat × Bool) → Act → World → Prop
  | [], a, w => Q .normal a w
  | (i, true) :: s, a, w => ∃ o v, ops[i]? = some o ∧ YieldsIf P ops (fun u => Grows w0 u ∧ Grows w u) o v a ∧ wpSched P ops Q w0 s (a.put o.dst v) w
  | (i, false) :: s, a, w => wpOp P ops Q i (fun a' w' => Grows w w' ∧ wpSched P ops Q w0 s a' w') a w

theorem wpAnyG_of_sched (hs : Region.noSelect ops = true) (hQ : ∀ c a d v w, Q (.panic c) (Act.put a d v) w → Q (.panic c) a w) {w0 : World} :
    ∀ (s : List (Nat × Bool)) (listed : Array Bool) (a : Act) (w : World), Grows w0 w → schedB md ops s listed = true → wpSched P ops Q w0 s a w → wpAnyG P md ops Q s.length listed a w
  | [], listed, a, w, _, hB, h => ⟨by simpa [schedB] using hB, h⟩
  | (i, true) :: s, listed, a, w, hw, hB, h => by
    simp only [schedB, Bool.and_eq_true] at hB
    obtain ⟨⟨hr, hf⟩, hB'⟩ := hB
    obtain ⟨o, v, ho, hy, h'⟩ := h
    exact wpAnyG_first ho (Region.noSelect_spec hs) (fun c a w => hQ c a o.dst v w) s.length listed a w (Region.free_spec ho hf) (by simpa using hr)
      (yields_weaken hy fun u hu => ⟨Grows.trans hw hu, hu⟩) (wpAnyG_of_sched hs hQ s _ _ w hw hB' h')
  | (i, false) :: s, listed, a, w, hw, hB, h => by
    simp only [schedB, Bool.and_eq_true] at hB
    obtain ⟨hr, hB'⟩ := hB
    have hr' : Region.ready md ops listed = [i] := by simpa using hr
    refine ⟨fun h0 => (by rw [hr'] at h0; cases h0), fun j hj => ?_⟩
    rw [hr'] at hj
    have hji : j = i := by simpa using hj
    subst hji
    exact wpOp_mono (fun a' w' h' => ⟨h'.1, wpAnyG_of_sched hs hQ s _ a' w' (Grows.trans hw h'.1) hB' h'.2⟩) h

/-- THE RULE. -/
theorem wp_region_sched {id : Nat} {a : Act} {w : World} {l : List Oper} (s : List (Nat × Bool)) (hm : P.follows .mixedOrders = true)
    (hB : (Region.noSelect l.toArray && (s.length == l.toArray.size) && schedB .any l.toArray s (Array.replicate l.toArray.size false)) = true)
    (h : wpSched P l.toArray (NoPanic Q) w.drew s a w.drew) : (Code.region id l.toArray true).wp P Q a w := by
  simp only [Bool.and_eq_true] at hB
  obtain ⟨⟨h1, h2⟩, h3⟩ := hB
  refine wp_region_noPanic (wp_region_any hm (wpAny_of_grown _ _ _ _ ?_))
  have := wpAnyG_of_sched (P := P) (md := .any) (Q := NoPanic Q) h1 (fun c a d v w h => h) s (Array.replicate l.toArray.size false) a w.drew (Grows.refl _) h3 h
  rwa [beq_iff_eq.1 h2] at this

theorem sched_take {l : List Oper} {w0 w : World} {i : Nat} {s : List (Nat × Bool)} {a : Act} (o : Oper) (v : Value) (ho : l[i]? = some o)
    (hw : Region.wanted o (yielded l.toArray a.tmps) = true) (hy : ∀ u, Grows w0 u → Grows w u → (execOp a.eval o).run P u = .ok (.value v) u)
    (h : wpSched P l.toArray Q w0 s (a.put o.dst v) w) : wpSched P l.toArray Q w0 ((i, true) :: s) a w :=
  ⟨o, v, by simpa using ho, .inl ⟨hw, fun u hu => hy u hu.1 hu.2⟩, h⟩
theorem sched_skip {l : List Oper} {w0 w : World} {i : Nat} {s : List (Nat × Bool)} {a : Act} (o : Oper) (ho : l[i]? = some o)
    (hw : Region.wanted o (yielded l.toArray a.tmps) = false) (h : wpSched P l.toArray Q w0 s (a.put o.dst undef) w) : wpSched P l.toArray Q w0 ((i, true) :: s) a w :=
  ⟨o, undef, by simpa using ho, .inr ⟨hw, rfl⟩, h⟩
theorem sched_move {l : List Oper} {w0 w : World} {i : Nat} {s : List (Nat × Bool)} {a : Act} (o : Oper) (ho : l[i]? = some o)
    (hw : Region.wanted o (yielded l.toArray a.tmps) = true)
    (h : ∀ K : Act → World → Prop, Shut (∀ a' w', Grows w w' → wpSched P l.toArray Q w0 s a' w' → K a' w') → Oper.wp P o a w K Q) : wpSched P l.toArray Q w0 ((i, false) :: s) a w := by
  show wpOp _ _ _ _ _ _ _
  refine wpOp_step (by simpa using ho) fun K hK => ?_
  rw [if_pos hw]
  exact h K fun a' w' hg hs => hK a' w' ⟨hg, hs⟩
theorem sched_pass {l : List Oper} {w0 w : World} {i : Nat} {s : List (Nat × Bool)} {a : Act} (o : Oper) (ho : l[i]? = some o)
    (hw : Region.wanted o (yielded l.toArray a.tmps) = false) (h : wpSched P l.toArray Q w0 s (a.put o.dst undef) w) : wpSched P l.toArray Q w0 ((i, false) :: s) a w := by
  show wpOp _ _ _ _ _ _ _
  refine wpOp_step (by simpa using ho) fun K hK => ?_
  rw [if_neg (by rw [hw]; exact Bool.false_ne_true)]
  exact hK _ _ ⟨Grows.refl _, h⟩
theorem sched_done {l : List Oper} {w0 w : World} {a : Act} (h : Q .normal a w) : wpSched P l.toArray Q w0 [] a w := h
end
attribute [irreducible] wpSched
end Go.Proofs.YtnokloedbckijaaDoor

/-
  Words for arrays of bytes (of no program): compared by ==; opened as an argument; loads of whole variables.
-/
namespace Go.Proofs.YtnokloedbckijaaDoor
open Go.RowKit
set_option linter.unusedVariables false

/-- An array of bytes as a value. -/
abbrev dv (l : List UInt8) : Value := .agg (l.map bv).toArray

section
variable {P : Program} (w : World)

theorem run_part_byte {e : TypeId} (he : P.underlying e = some (.int .u8)) (l : List UInt8) (i : Nat) (hi : i < l.length) : (part e (l.map bv).toArray i).run P w = .ok (bv l[i]) w := by
  simp [part, isAgg, run_underlying he, hi]

theorem run_items_bytes (d : Nat) {e : TypeId} (he : P.underlying e = some (.int .u8)) (la lb : List UInt8) : ∀ (is : List Nat), (∀ i ∈ is, i < la.length ∧ i < lb.length) →
    (Op.eqItems (d + 1) e 1 (la.map bv).toArray (lb.map bv).toArray is).run P w = .ok (is.all fun i => la[i]? == lb[i]?) w
  | [], _ => by simp [Op.eqItems]
  | i :: is, h => by
    obtain ⟨h1, h2⟩ := h i (by simp)
    have ih := run_items_bytes d he la lb is (fun j hj => h j (by simp [hj]))
    simp only [Op.eqItems, Sem.run_bind, Nat.mul_one, run_part_byte w he la i h1, run_part_byte w he lb i h2, Result.andThen_ok, run_equalIn_int w d e .u8 .u8 _ _ he]
    by_cases hq : la[i] = lb[i]
    · simp [hq, ih, List.getElem?_eq_getElem h1, List.getElem?_eq_getElem h2]
    · have hn : ¬ ((la[i].toNat : Int) = (lb[i].toNat : Int)) := fun e => hq (UInt8.toNat_inj.1 (by omega))
      simp [hn, hq, List.getElem?_eq_getElem h1, List.getElem?_eq_getElem h2]

theorem all_eq (la lb : List UInt8) (n : Nat) (ha : la.length = n) (hb : lb.length = n) : ((List.range n).all fun i => la[i]? == lb[i]?) = (la == lb) := by
  rw [Bool.eq_iff_iff]
  simp only [List.all_eq_true, List.mem_range, beq_iff_eq]
  constructor
  · intro h
    apply List.ext_getElem?
    intro i
    rcases Nat.lt_or_ge i n with hi | hi
    · exact h i hi
    · rw [List.getElem?_eq_none (by omega), List.getElem?_eq_none (by omega)]
  · intro h i _
    rw [h]

/-- a == b, two arrays of bytes. -/
theorem run_eql_bytes {t e : TypeId} {n : Nat} (ht : P.underlying t = some (.array n e)) (he : P.underlying e = some (.int .u8)) (hce : P.cellsOf e = 1) (la lb : List UInt8) (ha : la.length = n) (hb : lb.length = n) :
    (binOp .eql t (dv la) (dv lb)).run P w = .ok (.bool (la == lb)) w := by
  obtain ⟨i, hi⟩ := info_of_underlying he
  have h := run_equalIn_array (P := P) w 9999 (t := t) (la.map bv).toArray (lb.map bv).toArray ht hi
  rw [hce, run_items_bytes w 9998 he la lb (List.range n) (fun j hj => by have := List.mem_range.1 hj; omega), all_eq la lb n ha hb] at h
  simp only [binOp]
  simp [Op.equal, Op.maxDepth, h]
theorem run_neq_bytes {t e : TypeId} {n : Nat} (ht : P.underlying t = some (.array n e)) (he : P.underlying e = some (.int .u8)) (hce : P.cellsOf e = 1) (la lb : List UInt8) (ha : la.length = n) (hb : lb.length = n) :
    (binOp .neq t (dv la) (dv lb)).run P w = .ok (.bool (!(la == lb))) w := by
  obtain ⟨i, hi⟩ := info_of_underlying he
  have h := run_equalIn_array (P := P) w 9999 (t := t) (la.map bv).toArray (lb.map bv).toArray ht hi
  rw [hce, run_items_bytes w 9998 he la lb (List.range n) (fun j hj => by have := List.mem_range.1 hj; omega), all_eq la lb n ha hb] at h
  simp only [binOp]
  simp [Op.equal, Op.maxDepth, h]

/-- An array that lies there is read whole. -/
theorem load_arr {u : World} {B b n : Nat} {t e : TypeId} {l : List UInt8} (ht : P.underlying t = some (.array n e)) (hi : (P.info? t).map (·.size) = some n) (hl : l.length = n) (h : Lies u B (some ⟨b, 0, none⟩) (l.map bv)) :
    (Instr.loadAt t (.pointer (some ⟨b, 0, none⟩))).run P u = .ok (dv l) u :=
  run_loadAt_mid u b 0 t (l.map bv) _ (fun j v hv => by
    obtain ⟨ad, e, _, hc⟩ := h j v hv
    injection e with e
    subst e
    rwa [add_plain] at hc) ht rfl (by rw [List.length_map, hl]; exact hi)

theorem loadVar_arr {u : World} {B b n : Nat} {t e : TypeId} {l : List UInt8} (ht : P.underlying t = some (.array n e)) (hi : (P.info? t).map (·.size) = some n) (hl : l.length = n) (h : Lies u B (some ⟨b, 0, none⟩) (l.map bv)) :
    (loadVar t ⟨b, 0, none⟩).run P u = .ok (dv l) u :=
  run_loadVar_mid u b 0 t (l.map bv) _ (fun j v hv => by
    obtain ⟨ad, e, _, hc⟩ := h j v hv
    injection e with e
    subst e
    rwa [add_plain] at hc) ht rfl (by rw [List.length_map, hl]; exact hi)

/-- Results: an array in memory, and a number. -/
theorem res_arr_tmp {fn : Func} {p u : Tmp} {t e : TypeId} {n B b : Nat} {l : List UInt8} {w : World} (h : fn.results = #[.cell p t, .tmp u]) (tmps : Array Value) (hp : tmps.getD p undef = .pointer (some ⟨b, 0, none⟩))
    (ht : P.underlying t = some (.array n e)) (hi : (P.info? t).map (·.size) = some n) (hl : l.length = n) (hL : Lies w B (some ⟨b, 0, none⟩) (l.map bv)) :
    (results fn tmps).run P w = .ok (.tuple #[dv l, tmps.getD u undef]) w := by
  rw [results_cell_tmp h, hp]
  simp only [asAddr, Sem.run_pure, Result.andThen_ok, loadVar_arr ht hi hl hL]
theorem res_arr {fn : Func} {p : Tmp} {t e : TypeId} {n B b : Nat} {l : List UInt8} {w : World} (h : fn.results = #[.cell p t]) (tmps : Array Value) (hp : tmps.getD p undef = .pointer (some ⟨b, 0, none⟩))
    (ht : P.underlying t = some (.array n e)) (hi : (P.info? t).map (·.size) = some n) (hl : l.length = n) (hL : Lies w B (some ⟨b, 0, none⟩) (l.map bv)) :
    (results fn tmps).run P w = .ok (dv l) w := by
  have hp' : tmps[p]?.getD undef = .pointer (some ⟨b, 0, none⟩) := by simpa using hp
  simp [results, h, hp', asAddr, loadVar_arr ht hi hl hL]

theorem exec_load {o : Oper} {a : Act} {u : World} {ty : TypeId} {x : Operand} {p : Option Addr} {v : Value} (ho : o.op = .load ty x) (hx : a.eval x = .pointer p)
    (h : (Instr.loadAt ty (.pointer p)).run P u = .ok v u) : (execOp a.eval o).run P u = .ok (.value v) u := by
  unfold execOp
  simp only [ho, hx, Sem.run_bind, h, Result.andThen_ok, Sem.run_pure]

/-- The load of a whole variable, in a plain region. -/
theorem wpList_loads {ops : Array Oper} {rest : List Oper} {o : Oper} {a : Act} {w : World} {Q : Exit → Act → World → Prop} (hgd : o.guard = none) (ty : TypeId) (x : Operand) (ho : o.op = .load ty x)
    (p : Option Addr) (hx : a.eval x = .pointer p) (v : Value) (h : (Instr.loadAt ty (.pointer p)).run P w = .ok v w) (hk : wpList P ops Q rest (a.put o.dst v) w) : wpList P ops Q (o :: rest) a w := by
  refine wpList_plain hgd fun K hK => ?_
  unfold Oper.wp
  rw [exec_load ho hx h]
  exact hK _ _ hk

theorem wpList_loadg {ops : Array Oper} {rest : List Oper} {o : Oper} {a : Act} {w : World} {Q : Exit → Act → World → Prop} (hw : Region.wanted o (yielded ops a.tmps) = true) (ty : TypeId) (x : Operand) (ho : o.op = .load ty x)
    (p : Option Addr) (hx : a.eval x = .pointer p) (v : Value) (h : (Instr.loadAt ty (.pointer p)).run P w = .ok v w) (hk : wpList P ops Q rest (a.put o.dst v) w) : wpList P ops Q (o :: rest) a w := by
  refine BigFrame.wpList_want hw fun K hK => ?_
  unfold Oper.wp
  rw [exec_load ho hx h]
  exact hK _ _ hk

/-- .. and in the walk of a region in our order. -/
theorem sched_load {Q : Exit → Act → World → Prop} {l : List Oper} {w0 w : World} {i : Nat} {s : List (Nat × Bool)} {a : Act} (o : Oper) (v : Value) (ho : l[i]? = some o)
    (hw : Region.wanted o (yielded l.toArray a.tmps) = true) (ty : TypeId) (x : Operand) (hop : o.op = .load ty x) (p : Option Addr) (hx : a.eval x = .pointer p)
    (hy : ∀ u, Grows w0 u → (Instr.loadAt ty (.pointer p)).run P u = .ok v u)
    (h : wpSched P l.toArray Q w0 s (a.put o.dst v) w) : wpSched P l.toArray Q w0 ((i, true) :: s) a w :=
  sched_take o v ho hw (fun u h0 _ => exec_load hop hx (hy u h0)) h
end

theorem below_cells {B : Nat} {a : World} (b : Nat) (hb : B ≤ b) : ∀ (vs : List Value) (o : Nat) (w : World), Below B a w → Below B a (w.setCells b o vs)
  | [], _, _, h => h
  | v :: r, o, w, h => below_cells b hb r (o + 1) _ (h.setCell (p := ⟨b, o, none⟩) hb v)

/-- The variable in block b is an array of the bytes l, and may be written. -/
structure Box (w : World) (b : Nat) (l : List UInt8) : Prop where
  lt : b < w.heap.size
  cells : ∀ j u, (l.map bv)[j]? = some u → w.cell? ⟨b, j, none⟩ = some u
  free : ∀ j, w.frozen? ⟨b, j, none⟩ = false

section
variable {w w' : World} {b : Nat} {l : List UInt8}
theorem Box.new (w : World) (t : TypeId) (l : List UInt8) : Box (w.alloc (.cells (l.map bv).toArray t)) w.heap.size l :=
  ⟨by simp, fun j u hu => by rw [cell_of_row _ _ _ _ t (0, 0) (heap_alloc_new w _)]; simpa using hu, fun j => frozen_of_row _ _ j _ t (heap_alloc_new w _)⟩
theorem Box.lies (h : Box w b l) : Lies w w.heap.size (some ⟨b, 0, none⟩) (l.map bv) := fun j u hu => ⟨_, rfl, h.lt, by rw [add_plain, Nat.zero_add]; exact h.cells j u hu⟩
theorem Box.below {B : Nat} (h : Box w b l) (hb : Below B w w') (hB : b < B) : Box w' b l :=
  ⟨Nat.lt_of_lt_of_le h.lt hb.size, fun j u hu => (hb.cell (p := ⟨b, j, none⟩) hB).trans (h.cells j u hu), fun j => (hb.frozen (p := ⟨b, j, none⟩) hB).trans (h.free j)⟩
theorem Box.later (h : Box w b l) (hb : Grows w w') : Box w' b l := h.below hb h.lt
theorem Box.drew (h : Box w b l) : Box w.drew b l := ⟨h.lt, h.cells, h.free⟩
theorem Box.there (h : Box w b l) : w.there b 0 l.length := fun j hj => by
  refine ⟨?_, by rw [Nat.zero_add]; exact h.free j⟩
  rw [Nat.zero_add, h.cells j (bv l[j]) (by rw [List.getElem?_map, List.getElem?_eq_getElem hj]; rfl)]
  rfl
/-- One of its bytes is stored. -/
theorem Box.set_ (h : Box w b l) {k : Nat} (hk : k < l.length) (x : UInt8) : Box (w.setCell ⟨b, k, none⟩ (bv x)) b (l.set k x) := by
  have hs := h.lies.set_ (k := k) (u := bv x) (by simpa using hk)
  rw [← List.map_set] at hs
  refine ⟨by simpa [World.setCell] using h.lt, fun j u hu => ?_, fun j => by simpa using h.free j⟩
  obtain ⟨ad, e, _, hc⟩ := hs j u hu
  injection e with e
  subst e
  rwa [add_plain, Nat.zero_add] at hc
theorem Box.put_ (h : Box w b l) {l' : List UInt8} (hl : l'.length = l.length) : Box (w.setCells b 0 (l'.map bv)) b l' := by
  have ht : w.there b 0 (l'.map bv).length := by rw [List.length_map, hl]; exact h.there
  refine ⟨?_, fun j u hu => ?_, fun j => by rw [World.frozen?_setCells]; exact h.free j⟩
  · have := below_cells (B := 0) (a := w) b (Nat.zero_le _) (l'.map bv) 0 w (Below.refl _ _)
    exact Nat.lt_of_lt_of_le h.lt this.size
  · have := World.rangeAt_setCells_same w b 0 (l'.map bv) ht j u hu
    rwa [Nat.zero_add] at this
theorem Box.cell (h : Box w b l) {k : Nat} {x : UInt8} (hx : l[k]? = some x) : w.cell? ⟨b, k, none⟩ = some (bv x) := h.cells k _ (by rw [List.getElem?_map, hx]; rfl)
theorem Box.load {P : Program} {n : Nat} {t e : TypeId} (h : Box w b l) (ht : P.underlying t = some (.array n e)) (hi : (P.info? t).map (·.size) = some n) (hl : l.length = n) :
    (Instr.loadAt t (.pointer (some ⟨b, 0, none⟩))).run P w = .ok (dv l) w := load_arr ht hi hl h.lies

/-- A row of the call's own that is not empty, as a variable. -/
theorem own_box {base : Nat} {e : TypeId} {v : Value} {n : Nat} {l : List UInt8} (h : w.ownsRow base e 1 v n (l.map bv)) (hn : 0 < n) : ∃ g c, v = .slice (some ⟨g, 0, none⟩) n c ∧ n ≤ c ∧ base ≤ g ∧ Box w g l := by
  have h0 := h
  rcases h.2 with ⟨_, h'⟩ | ⟨g, cap, cur, rfl, hb, hg, hnc, _⟩
  · omega
  · refine ⟨g, cap, rfl, hnc, hb, ?_, fun j u hu => ?_, fun j => frozen_of_row w g j cur e hg⟩
    · rcases Nat.lt_or_ge g w.heap.size with hlt | hge
      · exact hlt
      · rw [Array.getElem?_eq_none hge] at hg; cases hg
    · obtain ⟨ad, e, _, hc⟩ := Lies.of_own h0 j u hu
      injection e with e
      subst e
      rwa [add_plain, Nat.zero_add] at hc

/-- The store of a whole array. -/
theorem wpList_stores {P : Program} {ops : Array Oper} {rest : List Oper} {o : Oper} {a : Act} {Q : Exit → Act → World → Prop} (hgd : o.guard = none) (ty : TypeId) (x y : Operand) (ho : o.op = .store ty x y)
    (b : Nat) (l l' : List UInt8) (n : Nat) (hx : a.eval x = .pointer (some ⟨b, 0, none⟩)) (hy : a.eval y = dv l') (hb : Box w b l) (hl : l.length = n) (hl' : l'.length = n) (hi : (P.info? ty).map (·.size) = some n)
    (h : ∀ w', Box w' b l' → (∀ B a0, B ≤ b → Below B a0 w → Below B a0 w') → wpList P ops Q rest (a.put o.dst undef) w') : wpList P ops Q (o :: rest) a w := by
  have hz : (l'.map bv).toArray.size = n := by simp [hl']
  refine wpList_store_mid hgd ty x y ho b 0 (l'.map bv).toArray hx hy (by rw [hz, ← hl]; exact hb.there) (by rw [hz]; exact hi) (all_oneCell_toArray (bv_one l')) ?_
  exact h _ (hb.put_ (by rw [hl, hl'])) (fun B a0 hB hbl => below_cells b hB _ 0 w hbl)
end

/-- An array of bytes that came in. -/
theorem open_bytes {H : Type} {enc : TypeId × Value → H} {P : Program} {w : World} {base b0 : Nat} {spare : Nat → Bool} {held : Bool} {r : Reach} {t e : TypeId} {n : Nat} {v : Value} {d : DataW H} {p : List MemPlace}
    (ht : P.underlying t = some (.array n e)) (he : P.underlying e = some (.int .u8)) (hce : P.cellsOf e = 1) (hct : P.cellsOf t = n)
    (hv : Value.okWide P w r b0 t v) (h : DataW.Trod enc P w base spare held t v d p) : ∃ l : List UInt8, l.length = n ∧ v = dv l := by
  simp only [Value.okWide, ht] at hv
  obtain ⟨cs, rfl, hsz, _⟩ := hv
  obtain ⟨fuel, hf⟩ := h
  obtain ⟨xs, m, _, _, _, hxl, hi⟩ := DataW.trod_array ht hf
  have cell : ∀ i (h : i < cs.size), ∃ b : UInt8, cs[i] = bv b := by
    intro i h
    have hin : i < n := by omega
    have hx := hi i hin
    rw [List.getElem?_eq_getElem (by omega)] at hx
    rw [hce, Nat.mul_one] at hx
    have htk : ((Value.agg cs).cells.toList.drop i).take 1 = [cs[i]] := by
      show (cs.toList.drop i).take 1 = _
      rw [List.drop_eq_getElem_cons (by simpa using h)]
      simp
    rw [htk] at hx
    obtain ⟨z, hz, _, hwf⟩ := DataW.trod_int he hx
    simp at hz
    have hb := bounds_u8 hwf
    refine ⟨UInt8.ofNat z.toNat, ?_⟩
    rw [hz]
    have : (UInt8.ofNat z.toNat).toNat = z.toNat := by simp; omega
    simp only [bv, this]
    congr 1
    omega
  refine ⟨(List.range n).map fun i => if h : i < cs.size then (cell i h).choose else 0, by simp, ?_⟩
  show Value.agg cs = Value.agg _
  congr 1
  apply Array.ext
  · simp; omega
  · intro i h1 h2
    simp [h1]
    exact (cell i h1).choose_spec
end Go.Proofs.YtnokloedbckijaaDoor

/-
  A region that draws its order, walked once, in one order of ours, from every world that has grown from the one at hand: readers and calls that yield one value (and let the world but grow) are taken as soon as they may come up; a maker of memory where nothing else may come up; a tail (a store, an append) that waits for all the others last. (Of no program.)
-/
namespace Go.Proofs.YtnokloedbckijaaDoor
open Go.RowKit
set_option linter.unusedVariables false

section
variable {P : Program} {ops : Array Oper} {Q : Exit → Act → World → Prop} {md : Region.Mode}

/-- What an operation leaves is a state that parts from 'a' in its own slot (and in what is deferred) alone. -/
theorem wpOp_kept {j : Nat} {oj : Oper} (hj : ops[j]? = some oj) {Y : Act → Prop} {K : Act → World → Prop} {a : Act} {w : World}
    (hy : ∀ ds u, Y (Act.put { a with defers := ds } oj.dst u)) (h : wpOp P ops Q j K a w) : wpOp P ops Q j (fun a' w' => Y a' ∧ K a' w') a w := by
  have hy0 : ∀ u, Y (Act.put a oj.dst u) := fun u => hy a.defers u
  unfold wpOp at *
  simp only [hj] at *
  split
  · rename_i hw
    rw [if_pos hw] at h
    rcases h with h | h
    · refine .inl ?_
      unfold Oper.wp at *
      generalize (execOp a.eval oj).run P w = r at *
      match r, h with
      | .ok (.value v) w', h => exact ⟨hy0 v, h⟩
      | .ok .skip w', h => exact ⟨hy0 _, h⟩
      | .ok (.defer d) w', h => exact ⟨hy _ _, h⟩
      | .ok (.row row args) w', h => exact Rows.mono h fun v _ hk => ⟨hy0 v, hk⟩
      | .halt (.panic v) w', h => exact h
      | .ok (.enter f args) w', h =>
        refine Calls.mono h fun e w'' he => ?_
        match e, he with
        | .returned v, he => exact ⟨hy0 v, he⟩
        | .panicked c, he => exact he
        | .outgrown, he => exact he
    · exact .inr h
  · rename_i hw
    rw [if_neg hw] at h
    exact ⟨hy0 _, h⟩

/-- In every world that has grown from w the operation yields v, and the world but grows. -/
def YieldsG (P : Program) (ops : Array Oper) (w : World) (o : Oper) (v : Value) (a : Act) : Prop :=
  (Region.wanted o (yielded ops a.tmps) = true ∧ ∀ u, Grows w u → Oper.quietAt P o a (Grows u) u v) ∨ (Region.wanted o (yielded ops a.tmps) = false ∧ v = undef)

theorem YieldsG.same {w : World} {o : Oper} {v : Value} {a a' : Act} (hy : YieldsG P ops w o v a) (he : execOp a'.eval o = execOp a.eval o)
    (hw : Region.wanted o (yielded ops a'.tmps) = Region.wanted o (yielded ops a.tmps)) : YieldsG P ops w o v a' := by
  unfold YieldsG Oper.quietAt at *
  rw [he, hw]
  exact hy
theorem YieldsG.later {w w' : World} {o : Oper} {v : Value} {a : Act} (hy : YieldsG P ops w o v a) (h : Grows w w') : YieldsG P ops w' o v a :=
  hy.imp (fun ⟨h1, h2⟩ => ⟨h1, fun u hu => h2 u (Grows.trans h hu)⟩) id

theorem YieldsG.wpOp {w : World} {i : Nat} {o : Oper} {v : Value} {a : Act} (hi : ops[i]? = some o) (hy : YieldsG P ops w o v a) {K : Act → World → Prop} {u : World} (hu : Grows w u)
    (h : ∀ u', Grows u u' → K (a.put o.dst v) u') : wpOp P ops Q i K a u := by
  unfold Go.wpOp
  simp only [hi]
  rcases hy with ⟨hw, hv⟩ | ⟨hw, rfl⟩
  · rw [if_pos hw]
    refine .inl ?_
    have h1 := hv u hu
    unfold Oper.quietAt at h1
    unfold Oper.wp
    generalize (execOp a.eval o).run P u = r at *
    match r, h1 with
    | .ok (.value x) w', h1 => obtain ⟨rfl, rfl⟩ := h1; exact h _ (Grows.refl _)
    | .ok .skip w', h1 => obtain ⟨rfl, rfl⟩ := h1; exact h _ (Grows.refl _)
    | .ok (.enter f args) w', h1 =>
      obtain ⟨rfl, hc⟩ := h1
      exact Calls.mono hc fun e w'' ⟨he, hg⟩ => by subst he; exact h _ hg
  · rw [if_neg (by rw [hw]; exact Bool.false_ne_true)]
    exact h _ (Grows.refl _)

/-- Another operation, apart from it. -/
theorem wpOp_beside {j : Nat} {oi oj : Oper} {v : Value} {w : World} (hj : ops[j]? = some oj) (hap : oi.apart ops oj = true)
    (hsi : ∀ cs b, oi.op ≠ .select cs b) (hsj : ∀ cs b, oj.op ≠ .select cs b)
    (hQ : ∀ c a w, Q (.panic c) (a.put oi.dst v) w → Q (.panic c) a w) {K : Act → World → Prop} {a : Act} {u : World}
    (hy : YieldsG P ops w oi v a) (h : wpOp P ops Q j K (a.put oi.dst v) u) :
    wpOp P ops Q j (fun a' u' => YieldsG P ops w oi v a' ∧ K (a'.put oi.dst v) u') a u := by
  have h1 := wpOp_putIf (S := fun _ => False) hj hap hsi hsj hQ (hy.imp (fun ⟨h1, _⟩ => ⟨h1, fun _ h => h.elim⟩) id) h
  obtain ⟨_, _, h3⟩ := Oper.apart_spec hap
  refine wpOp_mono (fun a' u' h2 => ⟨h2.1, h2.2.2⟩) (wpOp_kept (Y := fun a' => YieldsG P ops w oi v a') hj (fun ds x => ?_) h1)
  exact YieldsG.same (a := { a with defers := ds }) (hy.same rfl rfl) (execOp_put oi hsi _ oj.dst x h3) (wanted_put oi _ oj.dst x h3)

/-- Whatever order is picked; behind every operation ahead of number n the world has but grown; L: what is asked there. -/
def wpAnyU (P : Program) (md : Region.Mode) (ops : Array Oper) (Q : Exit → Act → World → Prop) (n : Nat) (L : Array Bool → Act → World → Prop) : Nat → Array Bool → Act → World → Prop
  | 0, listed, a, w => L listed a w
  | f + 1, listed, a, w => Region.ready md ops listed ≠ [] ∧ ∀ i ∈ Region.ready md ops listed, i < n ∧
      ∀ u, Grows w u → wpOp P ops Q i (fun a' u' => Grows u u' ∧ wpAnyU P md ops Q n L f (listed.setIfInBounds i true) a' u') a u

theorem wpAnyU_later {n : Nat} {L : Array Bool → Act → World → Prop} (hL : ∀ listed a w w', Grows w w' → L listed a w → L listed a w') :
    ∀ (f : Nat) (listed : Array Bool) (a : Act) (w w' : World), Grows w w' → wpAnyU P md ops Q n L f listed a w → wpAnyU P md ops Q n L f listed a w'
  | 0, _, _, _, _, hg, h => hL _ _ _ _ hg h
  | _ + 1, _, _, _, _, hg, h => ⟨h.1, fun i hi => ⟨(h.2 i hi).1, fun u hu => (h.2 i hi).2 u (Grows.trans hg hu)⟩⟩

theorem wpAny_of_U {n g : Nat} {L : Array Bool → Act → World → Prop} (hL : ∀ listed a w, L listed a w → wpAny P md ops Q g listed a w) :
    ∀ (f : Nat) (listed : Array Bool) (a : Act) (w : World), wpAnyU P md ops Q n L f listed a w → wpAny P md ops Q (f + g) listed a w
  | 0, listed, a, w, h => by rw [Nat.zero_add]; exact hL _ _ _ h
  | f + 1, listed, a, w, h => by
    rw [show f + 1 + g = (f + g) + 1 by omega]
    exact ⟨fun h0 => absurd h0 h.1, fun i hi => wpOp_mono (fun a' w' h' => wpAny_of_U hL f _ a' w' h'.2) ((h.2 i hi).2 w (Grows.refl w))⟩

theorem wpAnyU_first {n i : Nat} {oi : Oper} {v : Value} {L : Array Bool → Act → World → Prop} (hi : ops[i]? = some oi) (hsel : ∀ (j : Nat) (o : Oper) cs b, ops[j]? = some o → o.op ≠ .select cs b)
    (hQ : ∀ c a w, Q (.panic c) (a.put oi.dst v) w → Q (.panic c) a w) (hin : i < n) (hwait : ∀ listed, HeadInv md ops n listed → listed.getD i true = false → ∀ j ∈ Region.ready md ops listed, j < n)
    (hL : ∀ listed a w w', Grows w w' → L listed a w → L listed a w') (hdone : ∀ listed a w, L listed a w → ∀ j ∈ Region.ready md ops listed, n ≤ j) :
    ∀ (f : Nat) (listed : Array Bool) (a : Act) (w : World), HeadInv md ops n listed →
      (∀ j oj, ops[j]? = some oj → j ≠ i → listed.getD j true = false → (∀ e ∈ oj.after, Region.binds md e = true → e.on ≠ i) → oi.apart ops oj = true) →
      i ∈ Region.ready md ops listed → YieldsG P ops w oi v a →
      wpAnyU P md ops Q n L f (listed.setIfInBounds i true) (a.put oi.dst v) w → wpAnyU P md ops Q n L (f + 1) listed a w := by
  intro f
  induction f with
  | zero =>
    intro listed a w inv _ hr hy H
    have hun := (mem_ready.1 hr).1
    refine ⟨fun h => (by rw [h] at hr; cases hr), fun j hj => ⟨hwait listed inv hun j hj, fun u hu => ?_⟩⟩
    by_cases hji : j = i
    · subst hji
      exact hy.wpOp hi hu fun u' hu' => ⟨hu', hL _ _ _ _ (Grows.trans hu hu') H⟩
    · have h1 := hdone _ _ _ H j (ready_mono hj hji)
      have h2 := hwait listed inv hun j hj
      omega
  | succ f ih =>
    intro listed a w inv hfree hr hy H
    have hun := (mem_ready.1 hr).1
    refine ⟨fun h => (by rw [h] at hr; cases hr), fun j hj => ⟨hwait listed inv hun j hj, fun u hu => ?_⟩⟩
    by_cases hji : j = i
    · subst hji
      exact hy.wpOp hi hu fun u' hu' => ⟨hu', wpAnyU_later hL _ _ _ _ _ (Grows.trans hu hu') H⟩
    · have h1 := (H.2 j (ready_mono hj hji)).2 u hu
      obtain ⟨hjun, oj, hoj, hall⟩ := mem_ready.1 hj
      have hnot : ∀ e ∈ oj.after, Region.binds md e = true → e.on ≠ i := fun e he hb heq => by
        have h1 := hall e he hb
        rw [heq, getD_both hun] at h1
        cases h1
      have h2 := wpOp_beside hoj (hfree j oj hoj hji hjun hnot) (fun cs b => hsel i oi cs b hi) (fun cs b => hsel j oj cs b hoj) hQ hy h1
      have hfree' : ∀ k ok, ops[k]? = some ok → k ≠ i → (listed.setIfInBounds j true).getD k true = false →
          (∀ e ∈ ok.after, Region.binds md e = true → e.on ≠ i) → oi.apart ops ok = true := fun k ok hk hki hun' hno => by
        refine hfree k ok hk hki ?_ hno
        by_cases hjk : j = k
        · subst hjk; exact hjun
        · rwa [getD_set_ne true hjk] at hun'
      refine wpOp_mono (fun a' u' h3 => ⟨h3.2.1, ih (listed.setIfInBounds j true) a' u' (inv.set hj (hwait listed inv hun j hj)) hfree' (ready_mono hr (Ne.symm hji)) (h3.1.later (Grows.trans hu h3.2.1)) ?_⟩) h2
      rw [Array.setIfInBounds_comm _ _ hji]
      exact h3.2.2

/-- Our order of the first n: (i, true): taken as soon as it may come up; (i, false): nobody else may come up. Then what is left comes in the order of the text. -/
def ordB (md : Region.Mode) (ops : Array Oper) (n g : Nat) : List (Nat × Bool) → Array Bool → Bool
  | [], listed => Region.seqB md ops g n listed
  | (i, true) :: s, listed => decide (i < n) && (Region.ready md ops listed).contains i && Region.free md ops listed i && ordB md ops n g s (listed.setIfInBounds i true)
  | (i, false) :: s, listed => decide (i < n) && (Region.ready md ops listed == [i]) && ordB md ops n g s (listed.setIfInBounds i true)

/-- The walk in our order, from every world that has grown from w; E: what is asked behind it. -/
def wpOrd (P : Program) (ops : Array Oper) (Q : Exit → Act → World → Prop) (E : Act → World → Prop) : List (Nat × Bool) → Act → World → Prop
  | [], a, w => ∀ u, Grows w u → E a u
  | (i, true) :: s, a, w => ∃ o v, ops[i]? = some o ∧ YieldsG P ops w o v a ∧ wpOrd P ops Q E s (a.put o.dst v) w
  | (i, false) :: s, a, w => ∀ u, Grows w u → wpOp P ops Q i (fun a' u' => Grows u u' ∧ wpOrd P ops Q E s a' u') a u

theorem wpAnyU_of_ord {n g : Nat} {E : Act → World → Prop} (hs : Region.noSelect ops = true) (hQ : ∀ c a d v w, Q (.panic c) (Act.put a d v) w → Q (.panic c) a w)
    (hwait : ∀ i, i < n → ∀ listed, HeadInv md ops n listed → listed.getD i true = false → ∀ j ∈ Region.ready md ops listed, j < n) :
    ∀ (s : List (Nat × Bool)) (listed : Array Bool) (a : Act) (w : World), HeadInv md ops n listed → ordB md ops n g s listed = true → wpOrd P ops Q E s a w →
      wpAnyU P md ops Q n (fun listed' a' w' => Region.seqB md ops g n listed' = true ∧ ∀ u, Grows w' u → E a' u) s.length listed a w
  | [], listed, a, w, inv, hB, h => ⟨hB, h⟩
  | (i, true) :: s, listed, a, w, inv, hB, h => by
    simp only [ordB, Bool.and_eq_true, decide_eq_true_eq] at hB
    obtain ⟨⟨⟨hin, hr⟩, hf⟩, hB'⟩ := hB
    obtain ⟨o, v, ho, hy, h'⟩ := h
    have hr' : i ∈ Region.ready md ops listed := by simpa using hr
    exact wpAnyU_first ho (Region.noSelect_spec hs) (fun c a w => hQ c a o.dst v w) hin (hwait i hin) (fun _ _ _ _ hg hl => ⟨hl.1, fun u hu => hl.2 u (Grows.trans hg hu)⟩) (fun _ _ _ hl => seqB_ready hl.1)
      s.length listed a w inv (Region.free_spec ho hf) hr' hy (wpAnyU_of_ord hs hQ hwait s _ _ w (inv.set hr' hin) hB' h')
  | (i, false) :: s, listed, a, w, inv, hB, h => by
    simp only [ordB, Bool.and_eq_true, decide_eq_true_eq] at hB
    obtain ⟨⟨hin, hr⟩, hB'⟩ := hB
    have hr' : Region.ready md ops listed = [i] := by simpa using hr
    have hm : i ∈ Region.ready md ops listed := by rw [hr']; simp
    refine ⟨fun h0 => (by rw [hr'] at h0; cases h0), fun j hj => ?_⟩
    rw [hr'] at hj
    have hji : j = i := by simpa using hj
    subst hji
    exact ⟨hin, fun u hu => wpOp_mono (fun a' w' h' => ⟨h'.1, wpAnyU_of_ord hs hQ hwait s _ a' w' (inv.set hm hin) hB' h'.2⟩) (h u hu)⟩

/-- The Bool of a whole region: n of its operations by our order, what is left (it waits for all of them) by the text's. -/
def ordWholeB (ops : Array Oper) (n : Nat) (s : List (Nat × Bool)) : Bool :=
  Region.noSelect ops && decide (n ≤ ops.size) && (decide (n = ops.size) || (Region.sinkB .any ops n && Region.chainB .any ops n)) && (s.length == n) && ordB .any ops n (ops.size - n) s (Array.replicate ops.size false)

/-- THE RULE. -/
theorem wp_region_ord {id : Nat} {a : Act} {w : World} {l : List Oper} (n : Nat) (s : List (Nat × Bool)) (hm : P.follows .mixedOrders = true) (hB : ordWholeB l.toArray n s = true)
    (h : wpOrd P l.toArray (NoPanic Q) (fun a' u => wpList P l.toArray (NoPanic Q) (l.drop n) a' u) s a w.drew) : (Code.region id l.toArray true).wp P Q a w := by
  simp only [ordWholeB, Bool.and_eq_true, decide_eq_true_eq, Bool.or_eq_true, beq_iff_eq] at hB
  obtain ⟨⟨⟨⟨hsel, hn⟩, hc⟩, hl⟩, hord⟩ := hB
  have hdl : (l.drop n).length = l.toArray.size - n := by simp
  have inv0 : HeadInv .any l.toArray n (Array.replicate l.toArray.size false) :=
    ⟨by simp, fun j oj _ hl => (by rw [getD_replicate_false] at hl; cases hl), fun t _ ht => getD_in (by simpa using ht) (getD_replicate_false _ _)⟩
  have hwait : ∀ i, i < n → ∀ listed, HeadInv .any l.toArray n listed → listed.getD i true = false → ∀ j ∈ Region.ready .any l.toArray listed, j < n := fun i hi listed inv hun j hj => by
    rcases hc with hc | ⟨hs, hch⟩
    · obtain ⟨_, oj, hoj, _⟩ := mem_ready.1 hj
      have := (Array.getElem?_eq_some_iff.1 hoj).1
      omega
    · rcases Nat.lt_or_ge j n with h | h
      · exact h
      · have hjs : j < l.toArray.size := by
          obtain ⟨_, oj, hoj, _⟩ := mem_ready.1 hj
          exact (Array.getElem?_eq_some_iff.1 hoj).1
        exact absurd hj (tail_waits hs hch (by omega) inv _ i rfl hi hun j h)
  refine wp_region_noPanic (wp_region_any hm ?_)
  have H := wpAnyU_of_ord (md := .any) (g := l.toArray.size - n) (Q := NoPanic Q) hsel (fun c a d v w h => h) hwait s _ a w.drew inv0 hord h
  have := wpAny_of_U (Q := NoPanic Q) (g := l.toArray.size - n) (fun listed a' w' hL => by
    have := wpAny_of_seq (md := .any) (Q' := NoPanic Q) (l.drop n) n listed a' w' (fun j => by simp [List.getElem?_drop]) (by rw [hdl]; exact hL.1) (hL.2 w' (Grows.refl _))
    rwa [hdl] at this) _ _ _ _ H
  rw [hl, show n + (l.toArray.size - n) = l.toArray.size by omega] at this
  exact this

theorem ord_take {l : List Oper} {E : Act → World → Prop} {w0 w : World} {i : Nat} {s : List (Nat × Bool)} {a : Act} (h0 : Grows w0 w) (o : Oper) (v : Value) (ho : l[i]? = some o)
    (hw : Region.wanted o (yielded l.toArray a.tmps) = true) (hy : ∀ u, Grows w0 u → Grows w u → (execOp a.eval o).run P u = .ok (.value v) u)
    (h : wpOrd P l.toArray Q E s (a.put o.dst v) w) : wpOrd P l.toArray Q E ((i, true) :: s) a w :=
  ⟨o, v, by simpa using ho, .inl ⟨hw, fun u hu => by unfold Oper.quietAt; rw [hy u (Grows.trans h0 hu) hu]; exact ⟨rfl, rfl⟩⟩, h⟩
/-- A call that yields one value, and lets the world but grow. -/
theorem ord_call {l : List Oper} {E : Act → World → Prop} {w0 w : World} {i : Nat} {s : List (Nat × Bool)} {a : Act} (h0 : Grows w0 w) (o : Oper) (v : Value) (ho : l[i]? = some o)
    (hw : Region.wanted o (yielded l.toArray a.tmps) = true) (hy : ∀ u, Grows w0 u → Grows w u → Oper.quietUpon P (Grows u) u v ((execOp a.eval o).run P u))
    (h : wpOrd P l.toArray Q E s (a.put o.dst v) w) : wpOrd P l.toArray Q E ((i, true) :: s) a w :=
  ⟨o, v, by simpa using ho, .inl ⟨hw, fun u hu => hy u (Grows.trans h0 hu) hu⟩, h⟩
theorem quiet_enter {f : FuncId} {args : Array Value} {u : World} {v : Value} (h : Calls P f args u fun e u' => e = .returned v ∧ Grows u u') : Oper.quietUpon P (Grows u) u v (.ok (.enter f args) u) := ⟨rfl, h⟩
theorem ord_load {l : List Oper} {E : Act → World → Prop} {w0 w : World} {i : Nat} {s : List (Nat × Bool)} {a : Act} (h0 : Grows w0 w) (o : Oper) (v : Value) (ho : l[i]? = some o)
    (hw : Region.wanted o (yielded l.toArray a.tmps) = true) (ty : TypeId) (x : Operand) (hop : o.op = .load ty x) (p : Option Addr) (hx : a.eval x = .pointer p)
    (hy : ∀ u, Grows w0 u → (Instr.loadAt ty (.pointer p)).run P u = .ok v u)
    (h : wpOrd P l.toArray Q E s (a.put o.dst v) w) : wpOrd P l.toArray Q E ((i, true) :: s) a w :=
  ord_take h0 o v ho hw (fun u hu _ => exec_load hop hx (hy u hu)) h
theorem ord_skip {l : List Oper} {E : Act → World → Prop} {w : World} {i : Nat} {s : List (Nat × Bool)} {a : Act} (o : Oper) (ho : l[i]? = some o)
    (hw : Region.wanted o (yielded l.toArray a.tmps) = false) (h : wpOrd P l.toArray Q E s (a.put o.dst undef) w) : wpOrd P l.toArray Q E ((i, true) :: s) a w :=
  ⟨o, undef, by simpa using ho, .inr ⟨hw, rfl⟩, h⟩
theorem ord_move {l : List Oper} {E : Act → World → Prop} {w : World} {i : Nat} {s : List (Nat × Bool)} {a : Act} (o : Oper) (ho : l[i]? = some o)
    (hw : Region.wanted o (yielded l.toArray a.tmps) = true)
    (h : ∀ u, Grows w u → ∀ K : Act → World → Prop, Shut (∀ a' u', Grows u u' → wpOrd P l.toArray Q E s a' u' → K a' u') → Oper.wp P o a u K Q) : wpOrd P l.toArray Q E ((i, false) :: s) a w := by
  intro u hu
  refine wpOp_step (by simpa using ho) fun K hK => ?_
  rw [if_pos hw]
  exact h u hu K fun a' w' hg hs => hK a' w' ⟨hg, hs⟩
theorem ord_pass {l : List Oper} {E : Act → World → Prop} {w : World} {i : Nat} {s : List (Nat × Bool)} {a : Act} (o : Oper) (ho : l[i]? = some o)
    (hw : Region.wanted o (yielded l.toArray a.tmps) = false) (h : ∀ u, Grows w u → wpOrd P l.toArray Q E s (a.put o.dst undef) u) : wpOrd P l.toArray Q E ((i, false) :: s) a w := by
  intro u hu
  refine wpOp_step (by simpa using ho) fun K hK => ?_
  rw [if_neg (by rw [hw]; exact Bool.false_ne_true)]
  exact hK _ _ ⟨Grows.refl _, h u hu⟩
theorem ord_done {l : List Oper} {E : Act → World → Prop} {w : World} {a : Act} (h : ∀ u, Grows w u → E a u) : wpOrd P l.toArray Q E [] a w := h
end
attribute [irreducible] wpOrd
end Go.Proofs.YtnokloedbckijaaDoor

/-
  Words for variables of any cells (of no program): a block whose cells are known and may be written; parts of it loaded and stored whole; results that lie in memory.
-/
namespace Go.Proofs.YtnokloedbckijaaDoor
open Go.RowKit
set_option linter.unusedVariables false

/-- A word of 32 bits as a value. -/
abbrev uv (n : Nat) : Value := .int .u32 (n : Int)
theorem uv_one (l : List Nat) : ∀ u ∈ l.map uv, u.oneCell' = true := fun u hu => by
  obtain ⟨b, _, rfl⟩ := List.mem_map.1 hu
  rfl

/-- The variable in block b begins with the cells vs, and may be written. -/
structure Has (w : World) (b : Nat) (vs : List Value) : Prop where
  lt : b < w.heap.size
  cells : w.rangeAt b 0 vs
  free : ∀ j, w.frozen? ⟨b, j, none⟩ = false

section
variable {w w' : World} {b o : Nat} {vs cs : List Value}
theorem range_later (h : w.rangeAt b o cs) (hg : Grows w w') : w'.rangeAt b o cs := fun j v hv => hcell_later (h j v hv) hg
theorem range_below {B : Nat} (h : w.rangeAt b o cs) (hg : Below B w w') (hB : b < B) : w'.rangeAt b o cs := fun j v hv => (hg.cell (p := ⟨b, o + j, none⟩) hB).trans (h j v hv)
theorem range_cell (h : w.rangeAt b o cs) {k : Nat} {u : Value} (hu : cs[k]? = some u) : w.cell? ⟨b, o + k, none⟩ = some u := h k u hu
theorem Has.new (w : World) (t : TypeId) (vs : List Value) : Has (w.alloc (.cells vs.toArray t)) w.heap.size vs :=
  ⟨by simp, fun j u hu => by rw [cell_of_row _ _ _ _ t (0, 0) (heap_alloc_new w _)]; simpa using hu, fun j => frozen_of_row _ _ j _ t (heap_alloc_new w _)⟩
theorem Has.below {B : Nat} (h : Has w b vs) (hb : Below B w w') (hB : b < B) : Has w' b vs :=
  ⟨Nat.lt_of_lt_of_le h.lt hb.size, range_below h.cells hb hB, fun j => (hb.frozen (p := ⟨b, j, none⟩) hB).trans (h.free j)⟩
theorem Has.later (h : Has w b vs) (hb : Grows w w') : Has w' b vs := h.below hb h.lt
theorem Has.drew (h : Has w b vs) : Has w.drew b vs := ⟨h.lt, h.cells, h.free⟩
theorem Has.cell (h : Has w b vs) {k : Nat} {u : Value} (hu : vs[k]? = some u) : w.cell? ⟨b, k, none⟩ = some u := by have := h.cells k u hu; rwa [Nat.zero_add] at this
theorem Has.part (h : Has w b vs) (o : Nat) (hp : ∀ j u, cs[j]? = some u → vs[o + j]? = some u) : w.rangeAt b o cs := fun j u hu => h.cell (hp j u hu)
theorem there_of (h : w.rangeAt b o cs) (hf : ∀ j, w.frozen? ⟨b, j, none⟩ = false) : w.there b o cs.length := fun j hj => ⟨h.isSome j hj, hf _⟩
theorem Has.there (h : Has w b vs) : w.there b 0 vs.length := there_of h.cells h.free

theorem size_setCells (b : Nat) : ∀ (vs : List Value) (o : Nat) (w : World), (w.setCells b o vs).heap.size = w.heap.size
  | [], _, _ => rfl
  | v :: r, o, w => by rw [World.setCells, size_setCells b r]; simp [World.setCell]
theorem Has.lies (h : Has w b vs) : Lies w w.heap.size (some ⟨b, 0, none⟩) vs := fun j u hu => ⟨_, rfl, h.lt, by rw [add_plain, Nat.zero_add]; exact h.cell hu⟩
theorem range_lies (h : w.rangeAt b 0 vs) : Lies w w.heap.size (some ⟨b, 0, none⟩) vs := fun j u hu => ⟨_, rfl, World.block_lt_of_cell? w ⟨b, 0 + j, none⟩ (h j u hu), by rw [add_plain]; exact h j u hu⟩
/-- One cell is stored. -/
theorem Has.set_ (h : Has w b vs) {k : Nat} (hk : k < vs.length) (x : Value) : Has (w.setCell ⟨b, k, none⟩ x) b (vs.set k x) := by
  have hL : Lies w w.heap.size (some ⟨b, 0, none⟩) vs := fun j u hu => ⟨_, rfl, h.lt, by rw [add_plain, Nat.zero_add]; exact h.cell hu⟩
  have hs := hL.set_ (k := k) (u := x) hk
  refine ⟨by simpa [World.setCell] using h.lt, fun j u hu => ?_, fun j => by simpa using h.free j⟩
  obtain ⟨ad, e, _, hc⟩ := hs j u hu
  injection e with e
  subst e
  rwa [add_plain] at hc
/-- It is stored whole. -/
theorem Has.put_ (h : Has w b vs) {vs' : List Value} (hl : vs'.length = vs.length) : Has (w.setCells b 0 vs') b vs' :=
  ⟨by rw [size_setCells]; exact h.lt, World.rangeAt_setCells_same w b 0 vs' (by rw [hl]; exact h.there), fun j => by rw [World.frozen?_setCells]; exact h.free j⟩
theorem range_load {P : Program} {t : TypeId} {d : TypeDesc} (h : w.rangeAt b o cs) (ht : P.underlying t = some d) (hd : d.isRow = true) (hi : (P.info? t).map (·.size) = some cs.length) :
    (Instr.loadAt t (.pointer (some ⟨b, o, none⟩))).run P w = .ok (.agg cs.toArray) w := run_loadAt_mid w b o t cs d h ht hd hi
theorem Has.load {P : Program} {t : TypeId} {d : TypeDesc} (h : Has w b vs) (ht : P.underlying t = some d) (hd : d.isRow = true) (hi : (P.info? t).map (·.size) = some vs.length) :
    (Instr.loadAt t (.pointer (some ⟨b, 0, none⟩))).run P w = .ok (.agg vs.toArray) w := range_load h.cells ht hd hi

/-- A store of a whole row in place of another. -/
theorem wpList_storev {P : Program} {ops : Array Oper} {rest : List Oper} {op : Oper} {a : Act} {Q : Exit → Act → World → Prop} (hgd : op.guard = none) (ty : TypeId) (x y : Operand) (ho : op.op = .store ty x y)
    (b : Nat) (vs vs' : List Value) (n : Nat) (hx : a.eval x = .pointer (some ⟨b, 0, none⟩)) (hy : a.eval y = .agg vs'.toArray) (hb : Has w b vs) (hl : vs.length = n) (hl' : vs'.length = n) (hi : (P.info? ty).map (·.size) = some n)
    (h1 : ∀ v ∈ vs', v.oneCell' = true) (h : ∀ w', Has w' b vs' → (∀ B a0, B ≤ b → Below B a0 w → Below B a0 w') → wpList P ops Q rest (a.put op.dst undef) w') : wpList P ops Q (op :: rest) a w := by
  have hz : vs'.toArray.size = n := by simp [hl']
  refine wpList_store_mid hgd ty x y ho b 0 vs'.toArray hx hy (by rw [hz, ← hl]; exact hb.there) (by rw [hz]; exact hi) (all_oneCell_toArray h1) ?_
  exact h _ (hb.put_ (by rw [hl, hl'])) (fun B a0 hB hbl => below_cells b hB _ 0 w hbl)

theorem res_has {P : Program} {fn : Func} {p : Tmp} {t : TypeId} {d : TypeDesc} (h : fn.results = #[.cell p t]) (tmps : Array Value) (hp : tmps.getD p undef = .pointer (some ⟨b, 0, none⟩))
    (ht : P.underlying t = some d) (hd : d.isRow = true) (hi : (P.info? t).map (·.size) = some vs.length) (hb : Has w b vs) : (results fn tmps).run P w = .ok (.agg vs.toArray) w := by
  have hp' : tmps[p]?.getD undef = .pointer (some ⟨b, 0, none⟩) := by simpa using hp
  simp [results, h, hp', asAddr, run_loadVar_mid w b 0 t vs d hb.cells ht hd hi]

theorem own_later {base : Nat} {e : TypeId} {size : Nat} {v : Value} {n : Nat} {xs : List Value} (h : w.ownsRow base e size v n xs) (hg : Grows w w') : w'.ownsRow base e size v n xs := by
  refine ⟨h.1, h.2.imp id ?_⟩
  rintro ⟨g, cap, cur, hv, hb, hh, rest⟩
  refine ⟨g, cap, cur, hv, hb, ?_, rest⟩
  have hlt : g < w.heap.size := by
    rcases Nat.lt_or_ge g w.heap.size with hlt | hge
    · exact hlt
    · rw [Array.getElem?_eq_none hge] at hh; cases hh
  rw [hg.block g hlt]
  exact hh
theorem own_drawn {base : Nat} {e : TypeId} {size m : Nat} {v : Value} {n : Nat} {xs : List Value} (h : w.ownsRow base e size v n xs) : (w.drewN m).ownsRow base e size v n xs := h
theorem Has.drawn {m : Nat} (h : Has w b vs) : Has (w.drewN m) b vs := ⟨h.lt, h.cells, h.free⟩
theorem below_put {B : Nat} {a0 : World} (hB : B ≤ b) (h : Below B a0 w) (vs : List Value) (o : Nat) : Below B a0 (w.setCells b o vs) := below_cells b hB vs o w h
theorem grows_alloc (w : World) (ob : Obj) : Grows w (w.alloc ob) := (Grows.refl w).alloc (Nat.le_refl _) _
theorem mid_set {α : Type} (l z : List α) (k : Nat) (x : α) (hx : l[k]? = some x) (hz : k < z.length) : (l.take k ++ z.drop k).set k x = l.take (k + 1) ++ z.drop (k + 1) := by
  have hk : k < l.length := (List.getElem?_eq_some_iff.1 hx).1
  have e : x = l[k] := by rw [List.getElem?_eq_getElem hk] at hx; injection hx with hx; exact hx.symm
  rw [List.set_append_right _ _ (by simp; omega), List.length_take, Nat.min_eq_left (by omega), Nat.sub_self, List.drop_eq_getElem_cons hz, List.set_cons_zero,
    List.take_succ_eq_append_getElem hk, e, List.append_assoc]
  rfl
end
end Go.Proofs.YtnokloedbckijaaDoor

/-
  Cuts of a slice whose elements have one cell (of no program): b[:m], b[m:], b[l:h], and what lies there.
-/
namespace Go.Proofs.YtnokloedbckijaaDoor
open Go.RowKit
set_option linter.unusedVariables false
set_option linter.unusedSectionVars false

theorem add_zero_addr (a : Addr) : a.add 0 = a := by simp [Addr.add]
theorem add_add_addr (a : Addr) (i j : Nat) : (a.add i).add j = a.add (i + j) := by
  by_cases hi : i = 0 <;> by_cases hj : j = 0 <;> simp [Addr.add, hi, hj, Nat.add_assoc]
theorem map_add_zero (A : Option Addr) : A.map (·.add 0) = A := by cases A <;> simp [add_zero_addr]

theorem Lies.from_ {w : World} {B : Nat} {A : Option Addr} {vs : List Value} (h : Lies w B A vs) (m : Nat) : Lies w B (A.map (·.add m)) (vs.drop m) := fun j u hu => by
  rw [List.getElem?_drop] at hu
  obtain ⟨ad, rfl, hb, hc⟩ := h (m + j) u hu
  exact ⟨ad.add m, rfl, by rw [add_block]; exact hb, by rw [add_add_addr]; exact hc⟩

section
variable {P : Program} {t e : TypeId} (ht : P.underlying t = some (.slice e)) (hs : (P.info? e).map (·.size) = some 1) (A : Option Addr) (n c m : Nat) (k : IntKind)
include ht hs
theorem elem_of : P.elem t = e := by unfold Program.elem; simp [ht]
theorem size_of_elem (u : World) : (sizeOf (P.elem t)).run P u = .ok 1 u := by
  obtain ⟨i, hi, h1⟩ := Option.map_eq_some_iff.1 hs
  rw [elem_of ht hs]
  simp [sizeOf, typeInfo, hi, h1]
theorem run_cut_to (h : m ≤ c) (u : World) : (Instr.sliceAt t (.slice A n c) none (some (.int k (m : Int))) none).run P u = .ok (.slice A m c) u := by
  have ht' : P.underlying t = some (.slice (P.elem t)) := by rw [elem_of ht hs]; exact ht
  rw [run_sliceAt_slice u t _ _ _ _ ht', run_slice_h u t A n c ht' k m (by omega) (by omega), size_of_elem ht hs]
  simp [Result.andThen, sliced, map_add_zero]
theorem run_cut_from (h : m ≤ n) (hc : m < c) (u : World) : (Instr.sliceAt t (.slice A n c) (some (.int k (m : Int))) none none).run P u = .ok (.slice (A.map (·.add m)) (n - m) (c - m)) u := by
  have ht' : P.underlying t = some (.slice (P.elem t)) := by rw [elem_of ht hs]; exact ht
  rw [run_sliceAt_slice u t _ _ _ _ ht', run_slice_l u t A n c ht' k m (by omega) (by omega), size_of_elem ht hs]
  simp [Result.andThen, sliced, show ¬ c = m by omega]
end

/-- A cut, as one operation of a region that draws its order. -/
theorem exec_slice {P : Program} {o : Oper} {a : Act} {u : World} {t : TypeId} {x : Operand} {lo hi mx : Option Operand} {v : Value} (ho : o.op = .slice t x lo hi mx)
    (h : (Instr.sliceAt t (a.eval x) (lo.map a.eval) (hi.map a.eval) (mx.map a.eval)).run P u = .ok v u) : (execOp a.eval o).run P u = .ok (.value v) u := by
  unfold execOp
  simp only [ho, Sem.run_bind, h, Result.andThen_ok, Sem.run_pure]
theorem ord_cut {P : Program} {Q : Exit → Act → World → Prop} {l : List Oper} {E : Act → World → Prop} {w0 w : World} {i : Nat} {s : List (Nat × Bool)} {a : Act} (h0 : Grows w0 w) (o : Oper) (v : Value) (ho : l[i]? = some o)
    (hw : Region.wanted o (yielded l.toArray a.tmps) = true) (t : TypeId) (x : Operand) (lo hi mx : Option Operand) (hop : o.op = .slice t x lo hi mx)
    (hy : ∀ u, (Instr.sliceAt t (a.eval x) (lo.map a.eval) (hi.map a.eval) (mx.map a.eval)).run P u = .ok v u)
    (h : wpOrd P l.toArray Q E s (a.put o.dst v) w) : wpOrd P l.toArray Q E ((i, true) :: s) a w :=
  ord_take h0 o v ho hw (fun u hu _ => exec_slice hop (hy u)) h
theorem wpList_cut {P : Program} {w : World} {ops : Array Oper} {rest : List Oper} {o : Oper} {a : Act} {Q : Exit → Act → World → Prop} (hgd : o.guard = none) (t : TypeId) (x : Operand) (lo hi mx : Option Operand) (hop : o.op = .slice t x lo hi mx)
    (v : Value) (hy : (Instr.sliceAt t (a.eval x) (lo.map a.eval) (hi.map a.eval) (mx.map a.eval)).run P w = .ok v w) (h : wpList P ops Q rest (a.put o.dst v) w) : wpList P ops Q (o :: rest) a w := by
  refine wpList_plain hgd fun K hK => ?_
  unfold Oper.wp
  rw [exec_slice hop hy]
  exact hK _ _ h
end Go.Proofs.YtnokloedbckijaaDoor

/-
  Rows of records (elements of several cells), of no program: where each one lies, its load, append to an owned one.
-/
namespace Go.Proofs.YtnokloedbckijaaDoor
open Go.RowKit
set_option linter.unusedVariables false

theorem flat_len {k : Nat} : ∀ {rs : List (List Value)}, (∀ r ∈ rs, r.length = k) → rs.flatten.length = rs.length * k
  | [], _ => by simp
  | r :: rs, h => by
    have h1 := h r (by simp)
    have ih := flat_len (rs := rs) fun x hx => h x (by simp [hx])
    simp [ih, h1, Nat.add_mul]; omega
theorem flat_at {k : Nat} : ∀ {rs : List (List Value)} {i j : Nat} {r : List Value} {u : Value}, (∀ r ∈ rs, r.length = k) → rs[i]? = some r → r[j]? = some u → rs.flatten[i * k + j]? = some u
  | [], i, j, r, u, _, hi, _ => by simp at hi
  | x :: rs, 0, j, r, u, h, hi, hj => by
    simp at hi
    subst hi
    have h1 := h x (by simp)
    have : j < x.length := (List.getElem?_eq_some_iff.1 hj).1
    rw [List.flatten_cons, Nat.zero_mul, Nat.zero_add, List.getElem?_append_left this]; exact hj
  | x :: rs, i + 1, j, r, u, h, hi, hj => by
    have h1 := h x (by simp)
    have ih := flat_at (rs := rs) (i := i) (j := j) (fun y hy => h y (by simp [hy])) (by simpa using hi) hj
    rw [List.flatten_cons, List.getElem?_append_right (by rw [h1, Nat.add_mul]; omega)]
    rw [show (i + 1) * k + j - x.length = i * k + j by rw [h1, Nat.add_mul]; omega]
    exact ih

/-- Records of k cells lie one behind the other. -/
structure Recs (w : World) (A : Option Addr) (k : Nat) (rs : List (List Value)) : Prop where
  each : ∀ r ∈ rs, r.length = k
  lies : Lies w w.heap.size A rs.flatten
section
variable {w w' : World} {A : Option Addr} {k : Nat} {rs : List (List Value)}
theorem Recs.later (h : Recs w A k rs) (hg : Grows w w') : Recs w' A k rs := ⟨h.each, h.lies.later hg⟩
theorem Recs.nil : Recs w A k [] := ⟨by simp, Lies.empty⟩
/-- The cells of one of them. -/
theorem Recs.at_ (h : Recs w A k rs) (hk : 0 < k) {i : Nat} {r : List Value} (hi : rs[i]? = some r) : ∃ ad, A = some ad ∧ ad.block < w.heap.size ∧ ∀ j u, r[j]? = some u → w.cell? (ad.add (i * k + j)) = some u := by
  have hl := h.each r (List.mem_of_getElem? hi)
  obtain ⟨u0, hu0⟩ : ∃ u, r[0]? = some u := ⟨_, List.getElem?_eq_getElem (by omega)⟩
  obtain ⟨ad, rfl, hb, _⟩ := h.lies _ _ (flat_at h.each hi hu0)
  exact ⟨ad, rfl, hb, fun j u hu => by obtain ⟨ad', e, _, hc⟩ := h.lies _ _ (flat_at h.each hi hu); injection e with e; rw [e]; exact hc⟩
theorem Recs.of_own {base : Nat} {e : TypeId} {n c : Nat} (hr : ∀ r ∈ rs, r.length = k) (hk : 0 < k) (h : w.ownsRow base e k (.slice A n c) n rs.flatten) : Recs w A k rs ∧ rs.length = n := by
  have hn : rs.length = n := by
    have := h.1
    rw [flat_len hr] at this
    exact Nat.eq_of_mul_eq_mul_right hk this
  refine ⟨⟨hr, fun j u hu => ?_⟩, hn⟩
  obtain ⟨h1, h2⟩ := h
  rcases h2 with ⟨_, h0⟩ | ⟨g, cap, cur, hv, _, hh, hnc, _, hsz, htk⟩
  · subst h0
    rw [List.length_eq_zero_iff] at hn
    subst hn
    simp at hu
  · injection hv with hA
    subst hA
    have hg : g < w.heap.size := (Array.getElem?_eq_some_iff.1 hh).1
    refine ⟨⟨g, 0, none⟩, rfl, hg, ?_⟩
    rw [add_plain, cell_of_row w g _ cur e (0, 0) hh]
    have : (cur.toList.take (n * k))[j]? = some u := by rw [htk]; exact hu
    rw [List.getElem?_take] at this
    split at this
    · simpa using this
    · cases this
end

section
variable {P : Program}
/-- A record is loaded, wherever it lies. -/
theorem load_any (w : World) (a : Addr) (ty : TypeId) (cs : List Value) (d : TypeDesc) (hc : ∀ j v, cs[j]? = some v → w.cell? (a.add j) = some v) (hu : P.underlying ty = some d) (hd : d.isRow = true) (hi : (P.info? ty).map (·.size) = some cs.length) :
    (Instr.loadAt ty (.pointer (some a))).run P w = .ok (.agg cs.toArray) w := by
  have hl : (loadCells a cs.length).run P w = .ok cs.toArray w := run_loadCells_list (P := P) w a cs hc
  cases hq : P.info? ty with
  | none => simp [hq] at hi
  | some i =>
    have hs : i.size = cs.length := by simpa [hq] using hi
    have hagg : (isAgg ty).run P w = .ok true w := by
      unfold isAgg
      rw [Sem.run_bind, run_underlying hu w]
      cases d <;> simp_all
    simp [Instr.loadAt, Instr.sureAddr, loadVar, Sem.run_bind, hagg, sizeOf, typeInfo, hq, hs, hl]
/-- append(owned records, source...): the source may be nil, empty, or lie anywhere. -/
theorem run_append_recs (w : World) (base : Nat) (t ty e : TypeId) (i : TypeInfo) (z : Value) (k bytes : Nat) (hk : 0 < k) (ht : P.underlying t = some (.slice e)) (hi : P.info? e = some i) (hz : i.zero = some z)
    (hsize : i.size = k) (hby : i.bytes = bytes) (hzs : z.cells.size = k)
    (v : Value) (n : Nat) (xs : List Value) (hown : w.ownsRow base e k v n xs)
    (B : Nat) (A : Option Addr) (m c : Nat) (news : List Value) (hl : news.length = m * k) (hr : Lies w B A news) (h1 : ∀ u ∈ news, u.oneCell' = true)
    (h63 : n + m ≤ maxLen) (hbytes : (n + m) * bytes ≤ 140737488355328) (hbase : base ≤ w.heap.size) :
    ∃ v' w', (Builtin.append_ #[t, t] ty #[v, .slice A m c]).run P w = .ok v' w' ∧ w'.ownsRow base e k v' (n + m) (xs ++ news) ∧ w.grownBy w' v.ownBlock ∧
      (v'.ownBlock = v.ownBlock ∨ v'.ownBlock = some w.heap.size) := by
  cases A with
  | none =>
    have hn := hr.none_empty
    subst hn
    have hm : m = 0 := by
      rcases Nat.eq_zero_or_pos m with h | h
      · exact h
      · have := Nat.mul_pos h hk; simp at hl; omega
    subst hm
    refine ⟨v, w, ?_, by simpa using hown, World.grownBy.refl w _, .inl rfl⟩
    rcases hown.2 with ⟨rfl, rfl⟩ | ⟨g, cap, cur, rfl, _, _, hnc, _⟩
    · simp [Builtin.append_, run_underlying ht, sizeOf, typeInfo, hi, Builtin.lenOf, Builtin.firstCells]
    · simp [Builtin.append_, run_underlying ht, sizeOf, typeInfo, hi, Builtin.lenOf, Builtin.firstCells, hnc, storeCells]
  | some ad =>
    obtain ⟨v', w', hrun, h2, h3, _, h5⟩ := run_append_own_at (P := P) w base t ty e i z k bytes ht hi hz hsize hby hzs hk v n xs hown ad m c news hl hr.cells h1 h63 hbytes hbase
    exact ⟨v', w', hrun, h2, h3, h5⟩
theorem wpList_append_recs {w : World} {ops : Array Oper} {rest : List Oper} {o : Oper} {a : Act} {Q : Exit → Act → World → Prop} (hgd : o.guard = none) (s x : Operand) (t : TypeId)
    (ho : o.op = .call { callee := .builtin .append, args := #[s, x], argTypes := #[t, t] })
    (base : Nat) (e : TypeId) (i : TypeInfo) (z : Value) (k bytes : Nat) (hk : 0 < k) (ht : P.underlying t = some (.slice e)) (hi : P.info? e = some i) (hz : i.zero = some z)
    (hsize : i.size = k) (hby : i.bytes = bytes) (hzs : z.cells.size = k)
    (v : Value) (n : Nat) (xs : List Value) (hs : a.eval s = v) (hown : w.ownsRow base e k v n xs)
    (B : Nat) (A : Option Addr) (m c : Nat) (news : List Value) (hx : a.eval x = .slice A m c) (hl : news.length = m * k) (hr : Lies w B A news) (h1 : ∀ u ∈ news, u.oneCell' = true)
    (h63 : n + m ≤ maxLen) (hbytes : (n + m) * bytes ≤ 140737488355328) (hbase : base ≤ w.heap.size)
    (h : ∀ v' w', w'.ownsRow base e k v' (n + m) (xs ++ news) → w.grownBy w' v.ownBlock → (v'.ownBlock = v.ownBlock ∨ v'.ownBlock = some w.heap.size) → wpList P ops Q rest (a.put o.dst v') w') : wpList P ops Q (o :: rest) a w := by
  refine wpList_plain hgd fun K hK => ?_
  obtain ⟨v', w', hrun, h2, h3, h4⟩ := run_append_recs (P := P) w base t o.type e i z k bytes hk ht hi hz hsize hby hzs v n xs hown B A m c news hl hr h1 h63 hbytes hbase
  unfold Oper.wp execOp
  simp only [ho, resolve, invoke, builtin, Sem.run_bind, Sem.run_pure, Result.andThen_ok, List.map_toArray, List.map_cons, List.map_nil, hs, hx, hrun]
  exact hK _ _ (h v' w' h2 h3 h4)
end
end Go.Proofs.YtnokloedbckijaaDoor

/-
  Words that are turned round, and the hash of bytes that goes along, as functions of numbers and lists (of no program).
-/
namespace Go.Proofs.YtnokloedbckijaaDoor
set_option linter.unusedVariables false

/-- Turned round to the left by one bit. -/
def rl (x : Nat) : Nat := (x * 2 + x / 2147483648) % 4294967296
def rln : Nat → Nat → Nat
  | 0, x => x
  | n + 1, x => rln n (rl x)
theorem rl_lt (x : Nat) : rl x < 4294967296 := Nat.mod_lt _ (by decide)
theorem rln_lt : ∀ n {x : Nat}, x < 4294967296 → rln n x < 4294967296
  | 0, _, h => h
  | n + 1, x, _ => rln_lt n (rl_lt x)
theorem rln_succ : ∀ n x, rln (n + 1) x = rl (rln n x)
  | 0, _ => rfl
  | n + 1, x => by rw [rln, rln_succ n, rln]
theorem rln_add : ∀ j k x, rln (j + k) x = rln k (rln j x)
  | 0, k, x => by rw [Nat.zero_add]; rfl
  | j + 1, k, x => by rw [show j + 1 + k = (j + k) + 1 by omega, rln, rln_add j k, rln]
/-- As bits: what goes up, and what comes in below. -/
theorem rl_xor_form {x : Nat} (h : x < 4294967296) : rl x = (x <<< 1) % 2 ^ 32 ^^^ (x >>> 31) := by
  have h1 : x >>> 31 < 2 ^ 1 := by rw [Nat.shiftRight_eq_div_pow]; omega
  have h2 : (x <<< 1) % 2 ^ 32 = (x % 2147483648) <<< 1 := by rw [Nat.shiftLeft_eq, Nat.shiftLeft_eq]; omega
  have h3 : (x % 2147483648) <<< 1 + x >>> 31 = (x % 2147483648) <<< 1 ||| x >>> 31 := Nat.shiftLeft_add_eq_or_of_lt h1 _
  have h4 : rl x = (x % 2147483648) <<< 1 + x >>> 31 := by
    unfold rl
    rw [Nat.shiftLeft_eq, Nat.shiftRight_eq_div_pow]
    omega
  rw [h4, h2, h3]
  refine Nat.eq_of_testBit_eq fun i => ?_
  rw [Nat.testBit_or, Nat.testBit_xor]
  cases i with
  | zero =>
    have : ((x % 2147483648) <<< 1).testBit 0 = false := by rw [Nat.testBit_shiftLeft]; simp
    rw [this]; simp
  | succ i =>
    have : (x >>> 31).testBit (i + 1) = false := Nat.testBit_lt_two_pow (Nat.lt_of_lt_of_le h1 (Nat.pow_le_pow_right (by omega) (by omega)))
    rw [this]; simp
theorem rl_xor {x y : Nat} (hx : x < 4294967296) (hy : y < 4294967296) : rl (x ^^^ y) = rl x ^^^ rl y := by
  rw [rl_xor_form (Nat.xor_lt_two_pow (n := 32) hx hy), rl_xor_form hx, rl_xor_form hy, Nat.shiftLeft_xor_distrib, Nat.xor_mod_two_pow, Nat.shiftRight_xor_distrib]
  generalize x <<< 1 % 2 ^ 32 = a
  generalize y <<< 1 % 2 ^ 32 = b
  generalize x >>> 31 = c
  generalize y >>> 31 = d
  ac_rfl
theorem rln_xor : ∀ n {x y : Nat}, x < 4294967296 → y < 4294967296 → rln n (x ^^^ y) = rln n x ^^^ rln n y
  | 0, _, _, _, _ => rfl
  | n + 1, x, y, hx, hy => by rw [rln, rl_xor hx hy, rln_xor n (rl_lt x) (rl_lt y), rln, rln]
theorem rln_zero : ∀ n, rln n 0 = 0
  | 0 => rfl
  | n + 1 => by rw [rln, show rl 0 = 0 from rfl, rln_zero n]
theorem rl_arith (s r q : Nat) (hq : q < 2) (h : s + r < 2147483648) : rl (s + 2147483648 * q + r) = (s + r) * 2 + q := by
  have h1 : (s + 2147483648 * q + r) / 2147483648 = q := by
    rw [show s + 2147483648 * q + r = (s + r) + 2147483648 * q by omega, Nat.add_mul_div_left _ _ (by decide), Nat.div_eq_of_lt h, Nat.zero_add]
  unfold rl
  rw [h1]
  rcases (show q = 0 ∨ q = 1 by omega) with rfl | rfl
  · rw [Nat.mod_eq_of_lt (by omega)]; omega
  · rw [show (s + 2147483648 * 1 + r) * 2 + 1 = ((s + r) * 2 + 1) + 4294967296 by omega, Nat.add_mod_right, Nat.mod_eq_of_lt (by omega)]
/-- Many turns at once. -/
theorem rln_form {x : Nat} (hx : x < 4294967296) : ∀ n, n ≤ 32 → rln n x = x % 2 ^ (32 - n) * 2 ^ n + x / 2 ^ (32 - n)
  | 0, _ => by simp only [rln, Nat.sub_zero, Nat.pow_zero, Nat.mul_one]; omega
  | n + 1, hn => by
    rw [rln_succ, rln_form hx n (by omega)]
    obtain ⟨j, hj⟩ : ∃ j, 32 - n = j + 1 := ⟨31 - n, by omega⟩
    rw [hj, show 32 - (n + 1) = j by omega, Nat.pow_succ 2 n, Nat.pow_succ 2 j]
    have hp : 2 ^ j * 2 ^ n = 2147483648 := by rw [← Nat.pow_add, show j + n = 31 by omega]
    have h1 : x / 2 ^ j = x / (2 ^ j * 2) * 2 + x / 2 ^ j % 2 := by rw [← Nat.div_div_eq_div_mul]; omega
    have h2 : x % (2 ^ j * 2) = x % 2 ^ j + 2 ^ j * (x / 2 ^ j % 2) := Nat.mod_mul
    have h3 : x / 2 ^ j % 2 < 2 := Nat.mod_lt _ (by decide)
    have h4 : x / (2 ^ j * 2) < 2 ^ n := Nat.div_lt_of_lt_mul (by rw [Nat.mul_right_comm, hp]; omega)
    have h5 : x % 2 ^ j < 2 ^ j := Nat.mod_lt _ (Nat.two_pow_pos j)
    have h6 : x % 2 ^ j * 2 ^ n + 2 ^ n ≤ 2147483648 := by
      rw [← hp, ← Nat.succ_mul]
      exact Nat.mul_le_mul_right _ h5
    rw [h2, Nat.add_mul, Nat.mul_right_comm (2 ^ j), hp]
    generalize hq : x / 2 ^ j % 2 = q at *
    generalize x / (2 ^ j * 2) = r at *
    rw [h1, ← Nat.mul_assoc]
    generalize x % 2 ^ j * 2 ^ n = s at *
    rw [rl_arith s r q h3 (by omega)]
    omega

/-- The next word. -/
def wnext (x : Nat) : Nat :=
  let a := x ^^^ (x * 8192) % 4294967296
  let b := a ^^^ a / 131072
  b ^^^ (b * 32) % 4294967296
def wnth : Nat → Nat
  | 0 => wnext 2654435769
  | k + 1 => wnext (wnth k)
/-- A byte's word. -/
def wordOf (c : UInt8) : Nat := wnth c.toNat
theorem wnext_lt {x : Nat} (h : x < 4294967296) : wnext x < 4294967296 := by
  have h1 : x ^^^ (x * 8192) % 4294967296 < 4294967296 := Nat.xor_lt_two_pow (n := 32) h (Nat.mod_lt _ (by decide))
  unfold wnext
  generalize x ^^^ (x * 8192) % 4294967296 = a at *
  have h2 : a ^^^ a / 131072 < 4294967296 := Nat.xor_lt_two_pow (n := 32) h1 (by omega)
  simp only []
  exact Nat.xor_lt_two_pow (n := 32) h2 (Nat.mod_lt _ (by decide))
theorem wnth_lt : ∀ k, wnth k < 4294967296
  | 0 => wnext_lt (by decide)
  | k + 1 => wnext_lt (wnth_lt k)
theorem wordOf_lt (c : UInt8) : wordOf c < 4294967296 := wnth_lt _

/-- Bytes by their words, without a window: each turned by how many stand behind it. -/
def over (l : List UInt8) : Nat := l.foldl (fun h c => rl h ^^^ wordOf c) 0
theorem over_snoc (l : List UInt8) (c : UInt8) : over (l ++ [c]) = rl (over l) ^^^ wordOf c := by simp [over]
theorem over_lt (l : List UInt8) : over l < 4294967296 := by
  rcases List.eq_nil_or_concat l with rfl | ⟨l', c, rfl⟩
  · decide
  · rw [List.concat_eq_append, over_snoc]; exact Nat.xor_lt_two_pow (n := 32) (rl_lt _) (wordOf_lt c)
theorem over_append (l : List UInt8) : ∀ (n : Nat) (r : List UInt8), r.length = n → over (l ++ r) = rln n (over l) ^^^ over r
  | 0, r, h => by rw [List.eq_nil_of_length_eq_zero h, List.append_nil]; simp [over, rln]
  | n + 1, r, h => by
    rcases List.eq_nil_or_concat r with rfl | ⟨r', c, rfl⟩
    · simp at h
    · rw [List.concat_eq_append] at h ⊢
      have h' : r'.length = n := by simpa using h
      rw [← List.append_assoc, over_snoc, over_append l n r' h', over_snoc, rl_xor (rln_lt n (over_lt l)) (over_lt r'), rln_succ, Nat.xor_assoc]
/-- The last sixteen. -/
def last16 (l : List UInt8) : List UInt8 := l.drop (l.length - 16)
/-- The hash of bytes. -/
def hashOf (l : List UInt8) : Nat := over (last16 l)
theorem hashOf_lt (l : List UInt8) : hashOf l < 4294967296 := over_lt _
theorem hashOf_small {l : List UInt8} (h : l.length ≤ 16) : hashOf l = over l := by
  unfold hashOf last16
  rw [show l.length - 16 = 0 by omega, List.drop_zero]
/-- One more byte, while there are fewer than sixteen. -/
theorem hash_few (l : List UInt8) (c : UInt8) (h : l.length < 16) : hashOf (l ++ [c]) = rl (hashOf l) ^^^ wordOf c := by
  rw [hashOf_small (by simp; omega), hashOf_small (by omega), over_snoc]
/-- One more byte, and the first one goes. -/
theorem hash_goes (l : List UInt8) (c d : UInt8) (h : 16 ≤ l.length) (hd : l[l.length - 16]? = some d) : hashOf (l ++ [c]) = rl (hashOf l) ^^^ rln 16 (wordOf d) ^^^ wordOf c := by
  have hlt : l.length - 16 < l.length := by omega
  have e1 : last16 l = d :: l.drop (l.length - 16 + 1) := by
    unfold last16
    rw [List.drop_eq_getElem_cons hlt]
    rw [List.getElem?_eq_getElem hlt] at hd
    injection hd with hd
    rw [hd]
  have e2 : last16 (l ++ [c]) = l.drop (l.length - 16 + 1) ++ [c] := by
    unfold last16
    rw [List.length_append, show l.length + [c].length - 16 = l.length - 16 + 1 by simp; omega, List.drop_append_of_le_length (by omega)]
  have e3 : (l.drop (l.length - 16 + 1)).length = 15 := by rw [List.length_drop]; omega
  unfold hashOf
  rw [e1, e2, over_snoc]
  have e4 : over (d :: l.drop (l.length - 16 + 1)) = rln 15 (over [d]) ^^^ over (l.drop (l.length - 16 + 1)) := over_append [d] 15 _ e3
  have e5 : over [d] = wordOf d := by simp [over, show rl 0 = 0 from rfl]
  have hw := rln_lt 15 (wordOf_lt d)
  rw [e4, e5, rl_xor hw (over_lt _), ← rln_succ]
  generalize rl (over (l.drop (l.length - 16 + 1))) = a
  generalize rln (15 + 1) (wordOf d) = b
  rw [show b ^^^ a ^^^ b = a by rw [Nat.xor_comm b a, Nat.xor_assoc, Nat.xor_self, Nat.xor_zero]]
/-- The hash hangs on the last sixteen alone. -/
theorem hash_last (a t : List UInt8) (h : 16 ≤ t.length) : hashOf (a ++ t) = hashOf t := by
  unfold hashOf last16
  rw [List.length_append, List.drop_append, List.drop_eq_nil_of_le (by omega), List.nil_append, show a.length + t.length - 16 - a.length = t.length - 16 by omega]
/-- As the document says it: each of the last by how many stand behind it. -/
def overTo (l : List UInt8) : Nat → Nat
  | 0 => 0
  | k + 1 => overTo l k ^^^ rln (l.length - 1 - k) (wordOf (l.getD k 0))
theorem overTo_take (l : List UInt8) : ∀ k, k ≤ l.length → overTo l k = rln (l.length - k) (over (l.take k))
  | 0, _ => by simp [overTo, over, rln_zero]
  | k + 1, hk => by
    have hlt : k < l.length := by omega
    rw [overTo, overTo_take l k (by omega), List.take_succ_eq_append_getElem hlt, over_snoc, rln_xor _ (rl_lt _) (wordOf_lt _), ← rln, show (l.length - (k + 1)).succ = l.length - k by omega,
      show l.length - 1 - k = l.length - (k + 1) by omega]
    simp [List.getD, List.getElem?_eq_getElem hlt]
theorem overTo_all (l : List UInt8) : overTo l l.length = over l := by
  rw [overTo_take l _ (Nat.le_refl _), Nat.sub_self, List.take_length]; rfl
end Go.Proofs.YtnokloedbckijaaDoor

/-
  Contract of the reference's Few: the first bytes, in a row of its own.
-/
namespace Go.Proofs.YtnokloedbckijaaDoor
open Go.RowKit
set_option linter.unusedVariables false

theorem byte_info : (Tryd.prog.info? 5).map (fun i => (i.zero, i.size, i.bytes)) = some (some (.int .u8 0), 1, 1) := by kernel_rfl

set_option maxHeartbeats 400000 in
theorem few_any (A : Option Addr) (n c m : Nat) (vs : List Value) (w : World) (hl : vs.length = n) (hr : Lies w w.heap.size A vs) (h1 : ∀ u ∈ vs, u.oneCell' = true) (hn : n ≤ c) (hm : m ≤ 1000000) (hc : c ≤ maxLen) :
    Calls Tryd.prog 11 #[.slice A n c, .int .i64 (m : Int)] w fun e w' => ∃ v, e = .returned v ∧ w'.ownsRow w.heap.size 5 1 v (min n m) (vs.take m) ∧ Below w.heap.size w w' := by
  unfold maxLen at hc
  obtain ⟨i0, hi0, hz0, hz1, hz2⟩ := info_parts byte_info
  by_cases hmn : m < n
  · have hlt : (vs.take m).length = m := by rw [List.length_take]; omega
    have HL : Hid (vs.length = n) := hl
    clear hl
    have HT : Hid ((vs.take m).length = m) := hlt
    clear hlt
    go_enter Tryd.func11, Tryd.ntmps11
    go_wp2_with (at_builtin; refine wpList_append_src _ rfl (.tmp 6) (.tmp 12) _ rfl w.heap.size 5 i0 _ 1 Tryd.underlying22 hi0 hz0 hz1 hz2 rfl (.slice none 0 0) 0 [] rfl (World.ownsRow_nil _ _ _ _) w.heap.size A m c (vs.take m) rfl HT.out (hr.take m) (fun u hu => h1 u (List.mem_of_mem_take hu)) (by unfold maxLen; omega) (by omega) (Nat.le_refl _) ?_; intro v' w' hown hg hat)
    go_ret
    refine ⟨v', rfl, ?_, (Below.refl _ _).grown hg (Nat.le_refl _) (by simp [Value.ownBlock])⟩
    rw [Nat.min_eq_right (by omega)]
    simpa using hown
  · have hlt : (vs.take m) = vs := List.take_of_length_le (by omega)
    rw [hlt]
    have HL : Hid (vs.length = n) := hl
    clear hl hlt
    go_enter Tryd.func11, Tryd.ntmps11
    go_wp2_with (at_builtin; refine wpList_append_src _ rfl (.tmp 6) (.tmp 12) _ rfl w.heap.size 5 i0 _ 1 Tryd.underlying22 hi0 hz0 hz1 hz2 rfl (.slice none 0 0) 0 [] rfl (World.ownsRow_nil _ _ _ _) w.heap.size A n c vs rfl HL.out hr h1 (by unfold maxLen; omega) (by omega) (Nat.le_refl _) ?_; intro v' w' hown hg hat)
    go_ret
    refine ⟨v', rfl, ?_, (Below.refl _ _).grown hg (Nat.le_refl _) (by simp [Value.ownBlock])⟩
    rw [Nat.min_eq_left (by omega)]
    simpa using hown

/-- Few over bytes. -/
theorem few_bytes (A : Option Addr) (n c m : Nat) (bs : List UInt8) (w : World) (hl : bs.length = n) (hr : Lies w w.heap.size A (bs.map bv)) (hn : n ≤ c) (hm : m ≤ 1000000) (hc : c ≤ maxLen) :
    Calls Tryd.prog 11 #[.slice A n c, .int .i64 (m : Int)] w fun e w' => ∃ A' c', e = .returned (.slice A' (min n m) c') ∧ min n m ≤ c' ∧
      w'.ownsRow w.heap.size 5 1 (.slice A' (min n m) c') (min n m) ((bs.take m).map bv) ∧ Lies w' w'.heap.size A' ((bs.take m).map bv) ∧ Below w.heap.size w w' := by
  refine (few_any A n c m (bs.map bv) w (by simpa using hl) hr (bv_one bs) hn hm hc).mono ?_
  rintro e w' ⟨v, rfl, hown, hb⟩
  obtain ⟨A', c', rfl, hk⟩ := own_form hown
  rw [← List.map_take] at hown
  exact ⟨A', c', rfl, hk, hown, Lies.of_own hown, hb⟩

end Go.Proofs.YtnokloedbckijaaDoor

/-
  Contracts of the reference's functions of layer 4: Word, Words, left, Over, Hash.
-/
namespace Go.Proofs.YtnokloedbckijaaDoor
open Go.RowKit
set_option linter.unusedVariables false

theorem ret_u32 {a b : Int} (h : a = b) : Ending.returned (.int .u32 a) = .returned (.int .u32 b) := by rw [h]
/-- The word ahead of the byte k's. -/
def wpre : Nat → Nat
  | 0 => 2654435769
  | k + 1 => wnext (wpre k)
theorem wnth_pre : ∀ k, wnth k = wpre (k + 1)
  | 0 => rfl
  | k + 1 => by rw [wnth, wnth_pre k]; rfl
theorem wpre_lt : ∀ k, wpre k < 4294967296
  | 0 => by decide
  | k + 1 => wnext_lt (wpre_lt k)

theorem wnext_bits {x : Nat} (hx : x < 4294967296) : bits .xor .u32 (bits .xor .u32 (bits .xor .u32 (x : Int) ((x : Int) * 8192 % 4294967296)) ((bits .xor .u32 (x : Int) ((x : Int) * 8192 % 4294967296)).tdiv 131072 % 4294967296))
      (bits .xor .u32 (bits .xor .u32 (x : Int) ((x : Int) * 8192 % 4294967296)) ((bits .xor .u32 (x : Int) ((x : Int) * 8192 % 4294967296)).tdiv 131072 % 4294967296) * 32 % 4294967296) = ((wnext x : Nat) : Int) := by
  have h1 : (x : Int) * 8192 % 4294967296 = ((x * 8192 % 4294967296 : Nat) : Int) := by omega
  have h2 : x * 8192 % 4294967296 < 4294967296 := Nat.mod_lt _ (by decide)
  have h3 := Nat.xor_lt_two_pow (n := 32) hx h2
  unfold wnext
  rw [h1, u32_xor_nat x _ hx h2]
  simp only []
  generalize x ^^^ x * 8192 % 4294967296 = a at *
  have h4 : ((a : Int).tdiv 131072) % 4294967296 = ((a / 131072 : Nat) : Int) := by rw [Int.tdiv_eq_ediv_of_nonneg (by omega)]; omega
  have h5 : a / 131072 < 4294967296 := by omega
  have h6 := Nat.xor_lt_two_pow (n := 32) h3 h5
  rw [h4, u32_xor_nat a _ h3 h5]
  generalize a ^^^ a / 131072 = b at *
  have h7 : (b : Int) * 32 % 4294967296 = ((b * 32 % 4294967296 : Nat) : Int) := by omega
  rw [h7, u32_xor_nat b _ h6 (Nat.mod_lt _ (by decide))]

/-- The next word, step by step. -/
theorem wnext_parts {x : Nat} (hx : x < 4294967296) : ∃ a b : Nat, bits .xor .u32 (x : Int) ((x : Int) * 8192 % 4294967296) = (a : Int) ∧ bits .xor .u32 (a : Int) ((a : Int) / 131072) = (b : Int) ∧
    bits .xor .u32 (b : Int) ((b : Int) * 32 % 4294967296) = ((wnext x : Nat) : Int) ∧ a < 4294967296 ∧ b < 4294967296 := by
  have h1 : (x : Int) * 8192 % 4294967296 = ((x * 8192 % 4294967296 : Nat) : Int) := by omega
  have h2 : x * 8192 % 4294967296 < 4294967296 := Nat.mod_lt _ (by decide)
  have h3 := Nat.xor_lt_two_pow (n := 32) hx h2
  refine ⟨x ^^^ x * 8192 % 4294967296, (x ^^^ x * 8192 % 4294967296) ^^^ (x ^^^ x * 8192 % 4294967296) / 131072, by rw [h1, u32_xor_nat x _ hx h2], ?_⟩
  unfold wnext
  simp only []
  generalize x ^^^ x * 8192 % 4294967296 = a at *
  have h4 : (a : Int) / 131072 = ((a / 131072 : Nat) : Int) := by omega
  have h5 : a / 131072 < 4294967296 := by omega
  have h6 := Nat.xor_lt_two_pow (n := 32) h3 h5
  refine ⟨by rw [h4, u32_xor_nat a _ h3 h5], ?_⟩
  generalize a ^^^ a / 131072 = b at *
  have h7 : (b : Int) * 32 % 4294967296 = ((b * 32 % 4294967296 : Nat) : Int) := by omega
  exact ⟨by rw [h7, u32_xor_nat b _ h6 (Nat.mod_lt _ (by decide))], h3, h6⟩

theorem word_info : (Tryd.prog.info? 93).map (fun i => (i.zero, i.size, i.bytes)) = some (some (.int .u32 0), 1, 4) := by kernel_rfl
/-- All words. -/
def wordList (n : Nat) : List Nat := (List.range n).map wnth
theorem wordList_succ (k : Nat) : wordList (k + 1) = wordList k ++ [wnth k] := by simp [wordList, List.range_succ]

set_option maxRecDepth 20000 in
set_option maxHeartbeats 1000000 in
theorem rwords_any (w : World) :
    Calls Tryd.prog 45 #[] w fun e w' => ∃ A c, e = .returned (.slice A 256 c) ∧ Lies w' w'.heap.size A ((wordList 256).map uv) ∧ Grows w w' := by
  obtain ⟨i0, hi0, hz0, hz1, hz2⟩ := info_parts word_info
  generalize hW0 : wordList 256 = W0
  have HW0 : Hid (∀ k, k = 256 → wordList k = W0) := fun k hk => by rw [hk]; exact hW0
  clear hW0
  go_enter Tryd.func45, Tryd.ntmps45
  go_wp2
  go_loopw [1, 2, 3] (fun v x i wr => ∃ k : Nat, k ≤ 256 ∧ i = .int .i64 k ∧ x = uv (wpre k) ∧ wr.ownsRow w.heap.size 93 1 v k ((wordList k).map uv) ∧ Grows w wr) (fun _ _ i _ => 256 - (intOf i).toNat)
  case atStart => exact ⟨0, Nat.zero_le _, rfl, rfl, World.ownsRow_nil _ _ _ _, Grows.refl _⟩
  case round =>
    obtain ⟨k, hk, rfl, rfl, hown, hgr⟩ := hrel
    by_cases hlt : k < 256
    · have hx := wpre_lt k
      have HN : Hid (wpre (k + 1) = wnext (wpre k)) := rfl
      have HL : Hid (wordList (k + 1) = wordList k ++ [wpre (k + 1)]) := by show _ = _; rw [wordList_succ, wnth_pre]
      generalize wordList k = l at *
      generalize hy : wpre (k + 1) = y at *
      have HY := Lib.hid hy
      clear hy
      generalize wpre k = x at *
      obtain ⟨a, b, e1, e2, e3, ha, hb⟩ := wnext_parts hx
      rw [← HN.out] at e3
      have hnew := Lies.new wr 93 [uv y]
      go_wp2_with (at_builtin; refine wpList_append_src _ rfl (.tmp 20) (.tmp 22) _ rfl w.heap.size 93 i0 _ 4 Tryd.underlying83 hi0 hz0 hz1 hz2 rfl _ k _ rfl (hown.alloc _) _ _ 1 1 [uv y] rfl rfl hnew (by simp [Value.oneCell']) (by unfold maxLen; omega) (by omega) (by rw [World.size_alloc]; have := hgr.size; omega) ?_; intro v' w' hown' hg' hat')
      have hb2 : Below w.heap.size wr w' := ((Below.refl _ wr).alloc hgr.size _).grown hg' (by rw [World.size_alloc]; have := hgr.size; omega) (own_ge hown)
      rw [show [uv y] = [y].map uv from rfl, ← List.map_append, ← HL.out] at hown'
      go_roundw
      case rel => exact ⟨k + 1, by omega, by go_num, by rw [HY.out], hown', Below.trans hgr hb2⟩
      case measure => simp [intOf]; omega
    · have hk6 : k = 256 := by omega
      rw [HW0.out k hk6] at hown
      generalize wpre k = x at *
      subst hk6
      obtain ⟨A', c', rfl, hc⟩ := own_form hown
      go_wp2
      go_ret
      exact ⟨A', c', rfl, Lies.of_own hown, hgr⟩

set_option maxHeartbeats 400000 in
theorem rleft_any (x n : Nat) (w : World) (hx : x < 4294967296) (hn : n ≤ 1000000) :
    Calls Tryd.prog 86 #[uv x, .int .i64 (n : Int)] w fun e w' => e = .returned (uv (rln n x)) ∧ w = w' := by
  go_enter Tryd.func86, Tryd.ntmps86
  go_wp2
  go_loop [0, 5] (fun y i => ∃ k : Nat, k ≤ n ∧ i = .int .i64 k ∧ y = uv (rln k x)) (fun _ i => n - (intOf i).toNat)
  case atStart => exact ⟨0, Nat.zero_le _, rfl, rfl⟩
  case round =>
    obtain ⟨k, hk, rfl, rfl⟩ := hrel
    by_cases hlt : k < n
    · have hy := rln_lt k hx
      have HS := Lib.hid (rln_succ k x)
      generalize rln k x = y at *
      go_wp2
      go_round
      case rel => exact ⟨k + 1, by omega, by go_num, by rw [HS.out]; exact congrArg (Value.int .u32) (by unfold rl; omega)⟩
      case measure => simp [intOf]; omega
    · obtain rfl : k = n := by omega
      go_wp2
      go_ret
      exact ⟨rfl, rfl⟩

theorem wordList_at (c : UInt8) : ((wordList 256).map uv)[c.toNat]? = some (uv (wordOf c)) := by
  have := c.toNat_lt
  rw [List.getElem?_map, show (wordList 256)[c.toNat]? = some (wordOf c) by unfold wordList wordOf; rw [List.getElem?_map, List.getElem?_range (by omega)]; rfl]
  rfl
theorem last16_len (l : List UInt8) : (last16 l).length = min 16 l.length := by unfold last16; rw [List.length_drop]; omega
theorem last16_at (l : List UInt8) (k : Nat) : (last16 l)[k]? = l[l.length - 16 + k]? := by unfold last16; rw [List.getElem?_drop]

theorem overTo_lt (l : List UInt8) : ∀ k, overTo l k < 4294967296
  | 0 => by rw [overTo]; decide
  | k + 1 => by rw [overTo]; exact Nat.xor_lt_two_pow (n := 32) (overTo_lt l k) (rln_lt _ (wordOf_lt _))

set_option maxRecDepth 20000 in
set_option maxHeartbeats 2000000 in
theorem rover_any (A : Option Addr) (c : Nat) (B : Option Addr) (n c' : Nat) (bs : List UInt8) (w : World) (hA : Lies w w.heap.size A ((wordList 256).map uv)) (hl : bs.length = n) (hr : Lies w w.heap.size B (bs.map bv)) (hn : n ≤ 1000000000000) :
    Calls Tryd.prog 70 #[.slice A 256 c, .slice B n c'] w fun e w' => e = .returned (uv (hashOf bs)) ∧ w = w' := by
  have HA := Lib.hid hA
  clear hA
  have HL := Lib.hid hl
  have HF : Hid (hashOf bs = overTo (last16 bs) (min 16 n)) := by show _ = _; unfold hashOf; rw [← overTo_all, last16_len, hl]
  have HN : Hid ((last16 bs).length = min 16 n) := by show _ = _; rw [last16_len, hl]
  have HT : Hid (∀ k, (last16 bs)[k]? = bs[n - 16 + k]?) := fun k => by rw [last16_at, hl]
  have HO : Hid (∀ k, overTo (last16 bs) k < 4294967296) := overTo_lt _
  clear hl
  have HQ : Hid (min 16 n = n - (n - 16) ∧ n - 16 ≤ n ∧ min 16 n ≤ 16) := ⟨by omega, by omega, by omega⟩
  generalize min 16 n = q at *
  generalize hashOf bs = want at *
  go_enter Tryd.func70, Tryd.ntmps70
  by_cases h16 : n < 16
  · have HM : Hid (n - 16 = 0) := by show _ = _; omega
    generalize n - 16 = m at *
    have hlt0 : (n : Int) - 16 < 0 := by omega
    go_wp2
    go_loop [5, 7] (fun y i => ∃ k j : Nat, k ≤ q ∧ Hid (j = m + k) ∧ i = .int .i64 (j : Int) ∧ y = uv (overTo (last16 bs) k)) (fun _ i => n - (intOf i).toNat)
    case atStart => exact ⟨0, m, Nat.zero_le _, rfl, by rw [HM.out]; rfl, rfl⟩
    case round =>
      obtain ⟨k, j, hk, HJ, rfl, rfl⟩ := hrel
      by_cases hlt : k < q
      · obtain ⟨b, hbk⟩ : ∃ b, bs[j]? = some b := ⟨_, List.getElem?_eq_getElem (by have := HJ.out; have := HQ.out; rw [HL.out]; omega)⟩
        obtain ⟨ad, rfl, _, cx⟩ := hr.at_ (j := j) (u := bv b) (by rw [List.getElem?_map, hbk]; rfl)
        obtain ⟨ad2, rfl, _, cw⟩ := HA.out.at_ (wordList_at b)
        have hb8 := b.toNat_lt
        have HS : Hid (overTo (last16 bs) (k + 1) = overTo (last16 bs) k ^^^ rln (q - 1 - k) (wordOf b)) := by
          show _ = _
          rw [overTo, HN.out, List.getD, HT.out, ← HJ.out, hbk]
          rfl
        have hy := HO.out k
        have hw := wordOf_lt b
        clear hbk
        generalize overTo (last16 bs) k = y at *
        have hx := rln_lt (q - 1 - k) hw
        have LE : ∀ u : World, Calls Tryd.prog 86 #[uv (wordOf b), .int .i64 ((q - 1 - k : Nat) : Int)] u fun e w' => e = .returned (uv (rln (q - 1 - k) (wordOf b))) ∧ u = w' := fun u => rleft_any _ _ u hw (by have := HQ.out; omega)
        have LE := Lib.hid LE
        generalize rln (q - 1 - k) (wordOf b) = z at *
        generalize wordOf b = x at *
        have hxo : bits .xor .u32 (y : Int) (z : Int) = ((y ^^^ z : Nat) : Int) := u32_xor_nat y z hy hx
        have hsub : (n : Int) - 1 - (j : Int) = ((q - 1 - k : Nat) : Int) := by have := HJ.out; have := HQ.out; omega
        have hjn : j < n := by have := HJ.out; have := HQ.out; omega
        generalize q - 1 - k = d at *
        go_wp2_with fail
        refine (LE.out _).mono ?_
        rintro e w' ⟨rfl, rfl⟩
        go_wp2
        go_round
        case rel => exact ⟨k + 1, j + 1, by omega, by have := HJ.out; exact (by omega : j + 1 = m + (k + 1)), by go_num, by rw [HS.out]⟩
        case measure => simp [intOf]; omega
      · have hkq : k = q := by omega
        have hjn : j = n := by have := HJ.out; have := HQ.out; omega
        subst hkq hjn
        have HF' := Lib.hid HF.out.symm
        generalize overTo (last16 bs) k = y at *
        obtain rfl := HF'.out
        clear HF' HF
        go_wp2
        go_ret
        exact ⟨rfl, rfl⟩
  · have HM : Hid ((n : Int) - 16 = ((n - 16 : Nat) : Int)) := by show _ = _; omega
    generalize n - 16 = m at *
    have hlt0 : ¬ ((n : Int) - 16 < 0) := by omega
    go_wp2
    go_loop [5, 7] (fun y i => ∃ k j : Nat, k ≤ q ∧ Hid (j = m + k) ∧ i = .int .i64 (j : Int) ∧ y = uv (overTo (last16 bs) k)) (fun _ i => n - (intOf i).toNat)
    case atStart => exact ⟨0, m, Nat.zero_le _, rfl, congrArg (Value.int .i64) HM.out, rfl⟩
    case round =>
      obtain ⟨k, j, hk, HJ, rfl, rfl⟩ := hrel
      by_cases hlt : k < q
      · obtain ⟨b, hbk⟩ : ∃ b, bs[j]? = some b := ⟨_, List.getElem?_eq_getElem (by have := HJ.out; have := HQ.out; rw [HL.out]; omega)⟩
        obtain ⟨ad, rfl, _, cx⟩ := hr.at_ (j := j) (u := bv b) (by rw [List.getElem?_map, hbk]; rfl)
        obtain ⟨ad2, rfl, _, cw⟩ := HA.out.at_ (wordList_at b)
        have hb8 := b.toNat_lt
        have HS : Hid (overTo (last16 bs) (k + 1) = overTo (last16 bs) k ^^^ rln (q - 1 - k) (wordOf b)) := by
          show _ = _
          rw [overTo, HN.out, List.getD, HT.out, ← HJ.out, hbk]
          rfl
        have hy := HO.out k
        have hw := wordOf_lt b
        clear hbk
        generalize overTo (last16 bs) k = y at *
        have hx := rln_lt (q - 1 - k) hw
        have LE : ∀ u : World, Calls Tryd.prog 86 #[uv (wordOf b), .int .i64 ((q - 1 - k : Nat) : Int)] u fun e w' => e = .returned (uv (rln (q - 1 - k) (wordOf b))) ∧ u = w' := fun u => rleft_any _ _ u hw (by have := HQ.out; omega)
        have LE := Lib.hid LE
        generalize rln (q - 1 - k) (wordOf b) = z at *
        generalize wordOf b = x at *
        have hxo : bits .xor .u32 (y : Int) (z : Int) = ((y ^^^ z : Nat) : Int) := u32_xor_nat y z hy hx
        have hsub : (n : Int) - 1 - (j : Int) = ((q - 1 - k : Nat) : Int) := by have := HJ.out; have := HQ.out; omega
        have hjn : j < n := by have := HJ.out; have := HQ.out; omega
        generalize q - 1 - k = d at *
        go_wp2_with fail
        refine (LE.out _).mono ?_
        rintro e w' ⟨rfl, rfl⟩
        go_wp2
        go_round
        case rel => exact ⟨k + 1, j + 1, by omega, by have := HJ.out; exact (by omega : j + 1 = m + (k + 1)), by go_num, by rw [HS.out]⟩
        case measure => simp [intOf]; omega
      · have hkq : k = q := by omega
        have hjn : j = n := by have := HJ.out; have := HQ.out; omega
        subst hkq hjn
        have HF' := Lib.hid HF.out.symm
        generalize overTo (last16 bs) k = y at *
        obtain rfl := HF'.out
        clear HF' HF
        go_wp2
        go_ret
        exact ⟨rfl, rfl⟩

end Go.Proofs.YtnokloedbckijaaDoor

/-
  Laws for a walk (of no program): make with room, and copy into a row of the call's own, both in the words of an owned row.
-/
namespace Go.Proofs.YtnokloedbckijaaDoor
open Go.RowKit
set_option linter.unusedVariables false

theorem made_one (z : Value) (n : Nat) : madeCells #[z] n = (List.replicate n z).toArray := by
  apply Array.ext
  · simp [madeCells]
  · intro i h1 h2
    simp [madeCells, Nat.mod_one]

section
variable {P : Program}
theorem run_make_room (base : Nat) (t e : TypeId) (i : TypeInfo) (z : Value) (ht : P.underlying t = some (.slice e)) (hi : P.info? e = some i) (hz : i.zero = some z) (hsize : i.size = 1) (hz1 : z.cells = #[z])
    (kl kc : IntKind) (n c : Nat) (hnc : n ≤ c) (hbytes : i.bytes * c ≤ 281474976710656) (h63 : c ≤ maxLen) (w : World) (hbase : base ≤ w.heap.size) :
    ∃ w', (Instr.makeSlice t (.int kl (n : Int)) (.int kc (c : Int))).run P w = .ok (.slice (some ⟨w.heap.size, 0, none⟩) n c) w' ∧
      w'.ownsRow base e 1 (.slice (some ⟨w.heap.size, 0, none⟩) n c) n (List.replicate n z) ∧ Grows w w' ∧ w'.heap.size = w.heap.size + 1 := by
  have h63' : (c : Int) ≤ 9223372036854775807 := by
    have h := h63
    simp [maxLen] at h
    omega
  have hb' : (i.bytes : Int) * (c : Int) ≤ 281474976710656 := by
    have h : ((i.bytes * c : Nat) : Int) ≤ 281474976710656 := by omega
    rwa [Int.natCast_mul] at h
  have hr := run_make (P := P) w t e i z ht hi hz kl kc n c (by omega) (by omega) hb' h63'
  rw [hsize, hz1, Int.toNat_natCast, Int.toNat_natCast, Nat.mul_one, made_one] at hr
  refine ⟨_, hr, ⟨by simp, .inr ⟨w.heap.size, c, (List.replicate c z).toArray, rfl, hbase, heap_alloc_new w _, hnc, h63, by simp, ?_⟩⟩, grows_alloc _ _, by simp⟩
  simp [List.take_replicate, Nat.min_eq_left hnc]

theorem wpList_make_room (w : World) {ops : Array Oper} {rest : List Oper} {o : Oper} {a : Act} {Q : Exit → Act → World → Prop} (hg : o.guard = none) (l c : Operand) (t : TypeId) (hop : o.op = Op.makeSlice t l c)
    (base : Nat) (e : TypeId) (i : TypeInfo) (z : Value) (ht : P.underlying t = some (.slice e)) (hi : P.info? e = some i) (hz : i.zero = some z) (hsize : i.size = 1) (hz1 : z.cells = #[z])
    (kl kc : IntKind) (x y : Int) (n m : Nat) (hl : a.eval l = .int kl x) (hc : a.eval c = .int kc y) (hx : x = (n : Int)) (hy : y = (m : Int)) (hnm : n ≤ m) (hbytes : i.bytes * m ≤ 281474976710656) (h63 : m ≤ maxLen) (hbase : base ≤ w.heap.size)
    (hK : ∀ w', w'.ownsRow base e 1 (.slice (some ⟨w.heap.size, 0, none⟩) n m) n (List.replicate n z) → Grows w w' → w'.heap.size = w.heap.size + 1 → wpList P ops Q rest (a.put o.dst (.slice (some ⟨w.heap.size, 0, none⟩) n m)) w') :
    wpList P ops Q (o :: rest) a w := by
  subst hx hy
  refine wpList_plain hg fun K hK' => ?_
  obtain ⟨w', hrun, h1, h2, h3⟩ := run_make_room (P := P) base t e i z ht hi hz hsize hz1 kl kc n m hnm hbytes h63 w hbase
  unfold Oper.wp
  simp [execOp, hop, hl, hc, hrun, Result.andThen]
  exact hK' _ _ (hK w' h1 h2 h3)

/-- copy(owned, source): what goes over. -/
theorem wpList_copy_row {w : World} {ops : Array Oper} {rest : List Oper} {o : Oper} {a : Act} {Q : Exit → Act → World → Prop} (hgd : o.guard = none) (d s : Operand) (dT sT : TypeId)
    (ho : o.op = .call { callee := .builtin .copy, args := #[d, s], argTypes := #[dT, sT] }) (e : TypeId) (hu : P.underlying dT = some (.slice e)) (hsz : (P.info? e).map (·.size) = some 1)
    (base : Nat) (v : Value) (n : Nat) (xs : List Value) (hd : a.eval d = v) (hown : w.ownsRow base e 1 v n xs)
    (B : Nat) (A : Option Addr) (m c : Nat) (news : List Value) (hs : a.eval s = .slice A m c) (hl : news.length = m) (hr : Lies w B A news) (h1 : ∀ u ∈ news, u.oneCell' = true) (w0 : World) (hb : Below base w0 w)
    (h : ∀ w', w'.ownsRow base e 1 v n (news.take n ++ xs.drop m) → Below base w0 w' → w'.heap.size = w.heap.size → wpList P ops Q rest (a.put o.dst (goInt ((min m n : Nat) : Int))) w') :
    wpList P ops Q (o :: rest) a w := by
  have hxl : xs.length = n := by have := hown.1; omega
  by_cases h0 : min m n = 0
  · obtain ⟨A', c', rfl, _⟩ := own_form hown
    refine wpList_copy_nothing hgd d s dT sT ho e hu hsz A' A n c' m c hd hs h0 ?_
    rw [h0] at h
    refine h w ?_ hb rfl
    have he : news.take n ++ xs.drop m = xs := by
      rcases Nat.min_eq_zero_iff.1 h0 with rfl | rfl
      · rw [List.eq_nil_of_length_eq_zero hl]; simp
      · rw [List.eq_nil_of_length_eq_zero hxl]; simp
    rw [he]
    exact hown
  · rcases hown.2 with ⟨_, rfl⟩ | ⟨g, cap, cur, rfl, hbg, hh, hnc, hm, hcs, htk⟩
    · simp at h0
    · obtain ⟨ad, rfl, _, _⟩ := hr 0 (news[0]'(by omega)) (List.getElem?_eq_getElem _)
      have hlen : (news.take n).length = min m n := by rw [List.length_take, hl, Nat.min_comm]
      have hfit : (news.take n).length ≤ cur.size := by rw [hlen]; omega
      refine wpList_copy_own hgd d s dT sT ho e hu hsz g 0 n cap ad m c hd hs cur e hh (news.take n) hlen (hr.take n).cells (by omega) (fun u hu => h1 u (List.mem_of_mem_take hu)) ?_
      rw [hlen]
      refine h _ ⟨by simp [hl, hxl]; omega, .inr ⟨g, cap, _, rfl, hbg, setRow_heap w g _ _ e _ hh, hnc, hm, ?_, ?_⟩⟩ (below_setRow hb hbg _) (by simp [World.setRow])
      · simp [hl]; omega
      · rw [Nat.mul_one] at htk ⊢
        simp only [List.take_zero, List.nil_append, Nat.zero_add]
        rw [List.take_append, List.take_of_length_le (by rw [hlen]; omega), hlen, ← htk, List.drop_take]
        congr 1
        by_cases hmn : m ≤ n
        · rw [Nat.min_eq_left hmn]
        · rw [Nat.min_eq_right (by omega), Nat.sub_self, show n - m = 0 by omega, List.take_zero, List.take_zero]
end

/-- A row of the call's own that is not empty: where it lies, and that it may be written. -/
theorem own_has {w : World} {base : Nat} {e : TypeId} {v : Value} {n : Nat} {vs : List Value} (h : w.ownsRow base e 1 v n vs) (hn : 0 < n) : ∃ g c, v = .slice (some ⟨g, 0, none⟩) n c ∧ n ≤ c ∧ c ≤ maxLen ∧ base ≤ g ∧ Has w g vs := by
  have h0 := h
  rcases h.2 with ⟨_, h'⟩ | ⟨g, cap, cur, rfl, hb, hg, hnc, hm, _⟩
  · omega
  · refine ⟨g, cap, rfl, hnc, hm, hb, ?_, fun j u hu => ?_, fun j => frozen_of_row w g j cur e hg⟩
    · rcases Nat.lt_or_ge g w.heap.size with hlt | hge
      · exact hlt
      · rw [Array.getElem?_eq_none hge] at hg; cases hg
    · obtain ⟨ad, e, _, hc⟩ := Lies.of_own h0 j u hu
      injection e with e
      subst e
      rwa [add_plain] at hc
end Go.Proofs.YtnokloedbckijaaDoor

/-
  Worlds of which some blocks may have turned (of no program): what stays; owned rows cut and stored into; slices of records cut.
-/
namespace Go.Proofs.YtnokloedbckijaaDoor
open Go.RowKit
set_option linter.unusedVariables false
set_option linter.unusedSectionVars false

/-- Nothing but the blocks of S has turned. -/
structure Turns (S : Nat → Prop) (w w' : World) : Prop where
  os : w'.os = w.os
  tape : w'.tape = w.tape
  output : w'.output = w.output
  size : w.heap.size ≤ w'.heap.size
  block : ∀ k, k < w.heap.size → ¬ S k → w'.heap[k]? = w.heap[k]?
section
variable {S S' : Nat → Prop} {w w' w'' : World}
theorem Turns.refl (S : Nat → Prop) (w : World) : Turns S w w := ⟨rfl, rfl, rfl, Nat.le_refl _, fun _ _ _ => rfl⟩
theorem Turns.of_grows (h : Grows w w') : Turns S w w' := ⟨h.os, h.tape, h.output, h.size, fun k hk _ => h.block k hk⟩
theorem Turns.of_by {row : Option Nat} (h : w.grownBy w' row) (hS : ∀ g, row = some g → g < w.heap.size → S g) : Turns S w w' := ⟨h.os, h.tape, h.output, h.size, fun k hk hn => h.block k hk fun e => hn (hS k e.symm hk)⟩
theorem Turns.of_set {b o : Nat} (w : World) (u : Value) (hb : S b) : Turns S w (w.setCell ⟨b, o, none⟩ u) := ⟨rfl, rfl, rfl, by simp [World.setCell], fun k hk hn => Below.heap_setCell w _ u k fun e => hn (by rw [e]; exact hb)⟩
theorem Turns.trans (h : Turns S w w') (k : Turns S w' w'') : Turns S w w'' :=
  ⟨k.os.trans h.os, k.tape.trans h.tape, k.output.trans h.output, Nat.le_trans h.size k.size, fun i hi hn => (k.block i (Nat.lt_of_lt_of_le hi h.size) hn).trans (h.block i hi hn)⟩
theorem Turns.mono (h : Turns S w w') (hS : ∀ k, k < w.heap.size → S k → S' k) : Turns S' w w' := ⟨h.os, h.tape, h.output, h.size, fun k hk hn => h.block k hk fun e => hn (hS k hk e)⟩
/-- Behind it, what is new in between may turn, too. -/
theorem Turns.then_ (h : Turns S w w') (k : Turns S' w' w'') (hS : ∀ i, i < w.heap.size → S' i → S i) : Turns S w w'' :=
  ⟨k.os.trans h.os, k.tape.trans h.tape, k.output.trans h.output, Nat.le_trans h.size k.size, fun i hi hn => (k.block i (Nat.lt_of_lt_of_le hi h.size) (fun e => hn (hS i hi e))).trans (h.block i hi hn)⟩
theorem Turns.grows (h : Turns S w w') (hS : ∀ k, k < w.heap.size → ¬ S k) : Grows w w' := ⟨h.os, h.tape, h.output, h.size, fun k hk => h.block k hk (hS k hk)⟩
theorem Turns.cell (h : Turns S w w') {a : Addr} {v : Value} (hc : w.cell? a = some v) (hn : ¬ S a.block) : w'.cell? a = some v :=
  (World.cell?_of_block (h.block a.block (World.block_lt_of_cell? w a hc) hn)).trans hc
theorem Has.turned {b : Nat} {vs : List Value} (h : Has w b vs) (ht : Turns S w w') (hn : ¬ S b) : Has w' b vs :=
  ⟨Nat.lt_of_lt_of_le h.lt ht.size, fun j u hu => ht.cell (h.cells j u hu) hn, fun j => (World.frozen?_of_block (ht.block b h.lt hn)).trans (h.free j)⟩
theorem own_turned {base : Nat} {e : TypeId} {size : Nat} {v : Value} {n : Nat} {xs : List Value} (h : w.ownsRow base e size v n xs) (ht : Turns S w w') (hn : ∀ g, v.ownBlock = some g → ¬ S g) : w'.ownsRow base e size v n xs := by
  refine ⟨h.1, h.2.imp id ?_⟩
  rintro ⟨g, cap, cur, hv, hb, hh, rest⟩
  refine ⟨g, cap, cur, hv, hb, ?_, rest⟩
  rw [ht.block g (Array.getElem?_eq_some_iff.1 hh).1 (hn g (by rw [hv]; rfl))]
  exact hh
end
theorem turns_cells (b : Nat) : ∀ (vs : List Value) (o : Nat) (w : World), Turns (fun k => k = b) w (w.setCells b o vs)
  | [], _, w => Turns.refl _ w
  | v :: r, o, w => by
    rw [World.setCells]
    exact (Turns.of_set (S := fun k => k = b) w v rfl).trans (turns_cells b r (o + 1) _)
/-- A store of a whole row in place of another: no other block has turned. -/
theorem wpList_storeT {P : Program} {w : World} {ops : Array Oper} {rest : List Oper} {op : Oper} {a : Act} {Q : Exit → Act → World → Prop} (hgd : op.guard = none) (ty : TypeId) (x y : Operand) (ho : op.op = .store ty x y)
    (b : Nat) (vs vs' : List Value) (n : Nat) (hx : a.eval x = .pointer (some ⟨b, 0, none⟩)) (hy : a.eval y = .agg vs'.toArray) (hb : Has w b vs) (hl : vs.length = n) (hl' : vs'.length = n) (hi : (P.info? ty).map (·.size) = some n)
    (h1 : ∀ v ∈ vs', v.oneCell' = true) (h : ∀ w', Has w' b vs' → Turns (fun k => k = b) w w' → wpList P ops Q rest (a.put op.dst undef) w') : wpList P ops Q (op :: rest) a w := by
  have hz : vs'.toArray.size = n := by simp [hl']
  refine wpList_store_mid hgd ty x y ho b 0 vs'.toArray hx hy (by rw [hz, ← hl]; exact hb.there) (by rw [hz]; exact hi) (all_oneCell_toArray h1) ?_
  exact h _ (hb.put_ (by rw [hl, hl'])) (turns_cells b _ 0 w)
theorem turns_grow {w w' w'' : World} {b : Nat} (hg : Grows w w') (ht : Turns (fun k => k = b) w' w'') (hb : w.heap.size ≤ b) : Grows w w'' :=
  ⟨ht.os.trans hg.os, ht.tape.trans hg.tape, ht.output.trans hg.output, Nat.le_trans hg.size ht.size, fun k hk => (ht.block k (Nat.lt_of_lt_of_le hk hg.size) (by omega)).trans (hg.block k hk)⟩
theorem own_take {w : World} {base : Nat} {e : TypeId} {size : Nat} {g n c : Nat} {xs : List Value} (h : w.ownsRow base e size (.slice (some ⟨g, 0, none⟩) n c) n xs) {k : Nat} (hk : k ≤ n) : w.ownsRow base e size (.slice (some ⟨g, 0, none⟩) k c) k (xs.take (k * size)) := by
  obtain ⟨h1, h2⟩ := h
  have hle := Nat.mul_le_mul_right size hk
  refine ⟨by rw [List.length_take, h1]; omega, ?_⟩
  rcases h2 with ⟨hv, _⟩ | ⟨g', cap, cur, hv, hb, hh, hnc, hm, hs, ht⟩
  · cases hv
  · injection hv with e1 e2 e3
    subst e3
    refine .inr ⟨g', c, cur, by rw [e1], hb, hh, by omega, hm, hs, ?_⟩
    rw [← ht, List.take_take, Nat.min_eq_left hle]
theorem own_put {w : World} {base : Nat} {e : TypeId} {g n c k : Nat} {vs : List Value} {x : Value} (h : w.ownsRow base e 1 (.slice (some ⟨g, 0, none⟩) n c) n vs) : (w.setCell ⟨g, k, none⟩ x).ownsRow base e 1 (.slice (some ⟨g, 0, none⟩) n c) n (vs.set k x) := by
  refine ⟨by simpa using h.1, .inr ?_⟩
  rcases h.2 with ⟨hv, _⟩ | ⟨g', cap, cur, hv, hb, hh, hnc, hm, hs, ht⟩
  · cases hv
  · injection hv with h1 h2 h3
    injection h1 with h1
    injection h1 with h1
    subst h1 h3
    rw [Nat.mul_one] at ht hs
    exact ⟨g, c, cur.setIfInBounds k x, rfl, hb, heap_setCell_same w g k cur e x hh, hnc, hm, by simpa using hs, by rw [Nat.mul_one, ← ht]; simp [List.take_set]⟩

section
variable {P : Program} {t e : TypeId} (ht : P.underlying t = some (.slice e)) {sz : Nat} (hs : (P.info? e).map (·.size) = some sz) (A : Option Addr) (n c m : Nat) (k : IntKind)
include ht hs
theorem elem_ofK : P.elem t = e := by unfold Program.elem; simp [ht]
theorem size_of_elemK (u : World) : (sizeOf (P.elem t)).run P u = .ok sz u := by
  obtain ⟨i, hi, h1⟩ := Option.map_eq_some_iff.1 hs
  rw [elem_ofK ht hs]
  simp [sizeOf, typeInfo, hi, h1]
theorem run_cutK_to (h : m ≤ c) (u : World) : (Instr.sliceAt t (.slice A n c) none (some (.int k (m : Int))) none).run P u = .ok (.slice A m c) u := by
  have ht' : P.underlying t = some (.slice (P.elem t)) := by rw [elem_ofK ht hs]; exact ht
  rw [run_sliceAt_slice u t _ _ _ _ ht', run_slice_h u t A n c ht' k m (by omega) (by omega), size_of_elemK ht hs]
  simp [Result.andThen, sliced, map_add_zero]
/-- What is left behind the first m. -/
def cutA (A : Option Addr) (c m sz : Nat) : Option Addr := if c = m then A else A.map (·.add (m * sz))
theorem run_cutK_from (h : m ≤ n) (hc : n ≤ c) (u : World) : (Instr.sliceAt t (.slice A n c) (some (.int k (m : Int))) none none).run P u = .ok (.slice (cutA A c m sz) (n - m) (c - m)) u := by
  have ht' : P.underlying t = some (.slice (P.elem t)) := by rw [elem_ofK ht hs]; exact ht
  rw [run_sliceAt_slice u t _ _ _ _ ht', run_slice_l u t A n c ht' k m (by omega) (by omega), size_of_elemK ht hs]
  by_cases hcm : c = m
  · subst hcm; simp [Result.andThen, sliced, cutA]
  · simp [Result.andThen, sliced, cutA, hcm]
end
end Go.Proofs.YtnokloedbckijaaDoor

/-
  Contracts of roll's functions that cut reaches: next, rule.word, RotateLeft32, follow, New, Add, Reset. Condition: the table starts holds the words from which sixteen each are made.
-/
namespace Go.Proofs.YtnokloedbckijaaDoor
open Go.RowKit
set_option linter.unusedVariables false

def starts16 : List Nat := [2654435769, 1138837087, 2211501978, 4266533798, 3128921280, 3009974529, 135874808, 2136921429, 3201375937, 2771259764, 2399328674, 1225172979, 4185982133, 284225674, 3743433706, 3947240972]
theorem starts_pre : ∀ k, k < 16 → starts16[k]? = some (wpre (16 * k)) := by decide +kernel
/-- The table starts lies there. -/
def Starts (w : World) : Prop := w.rangeAt 0 0 (starts16.map uv)
theorem Starts.turned {w w' : World} {S : Nat → Prop} (h : Starts w) (ht : Turns S w w') (hn : ¬ S 0) : Starts w' := fun j u hu => ht.cell (h j u hu) hn
theorem Starts.later {w w' : World} (h : Starts w) (hg : Grows w w') : Starts w' := range_later h hg
theorem Starts.pos {w : World} (h : Starts w) : 0 < w.heap.size := World.block_lt_of_cell? w ⟨0, 0 + 0, none⟩ (h 0 _ rfl)
theorem Starts.at_ {w : World} (h : Starts w) (k : Nat) (hk : k < 16) : w.cell? ⟨0, k, none⟩ = some (.int .u32 ((wpre (16 * k) : Nat) : Int)) := by
  have := h k (uv (wpre (16 * k))) (by rw [List.getElem?_map, starts_pre k hk]; rfl)
  rwa [Nat.zero_add] at this

set_option maxHeartbeats 400000 in
theorem rnext_any (x : Nat) (w : World) (hx : x < 4294967296) :
    Calls Tryd.prog 120 #[uv x] w fun e w' => e = .returned (uv (wnext x)) ∧ w = w' := by
  obtain ⟨a, b, e1, e2, e3, ha, hb⟩ := wnext_parts hx
  go_enter Tryd.func120, Tryd.ntmps120
  go_wp2
  go_ret
  exact ⟨rfl, rfl⟩

theorem or_rl {x : Nat} (hx : x < 4294967296) : bits .or .u32 ((x : Int) * 2 % 4294967296) ((x : Int) / 2147483648) = ((rl x : Nat) : Int) := by
  have h1 : x / 2147483648 < 2 ^ 1 := by omega
  rw [show (x : Int) * 2 % 4294967296 = ((x * 2 % 4294967296 : Nat) : Int) by omega, show (x : Int) / 2147483648 = ((x / 2147483648 : Nat) : Int) by omega, u32_or_nat _ _ (by omega) (by omega)]
  have h2 : x * 2 % 4294967296 = (x % 2147483648) <<< 1 := by rw [Nat.shiftLeft_eq]; omega
  rw [h2, ← Nat.shiftLeft_add_eq_or_of_lt h1, Nat.shiftLeft_eq]
  unfold rl
  omega
theorem or_rl16 {x : Nat} (hx : x < 4294967296) : bits .or .u32 ((x : Int) * 65536 % 4294967296) ((x : Int) / 65536) = ((rln 16 x : Nat) : Int) := by
  have h1 : x / 65536 < 2 ^ 16 := by omega
  rw [show (x : Int) * 65536 % 4294967296 = ((x * 65536 % 4294967296 : Nat) : Int) by omega, show (x : Int) / 65536 = ((x / 65536 : Nat) : Int) by omega, u32_or_nat _ _ (by omega) (by omega)]
  have h2 : x * 65536 % 4294967296 = (x % 65536) <<< 16 := by rw [Nat.shiftLeft_eq]; omega
  rw [h2, ← Nat.shiftLeft_add_eq_or_of_lt h1, Nat.shiftLeft_eq, rln_form hx 16 (by omega)]
set_option maxHeartbeats 400000 in
theorem rot1_any (x : Nat) (w : World) (hx : x < 4294967296) :
    Calls Tryd.prog 110 #[uv x, .int .i64 1] w fun e w' => e = .returned (uv (rl x)) ∧ w = w' := by
  have h1 := or_rl hx
  have h2 : bits .and .u64 1 31 = 1 := by decide
  go_enter Tryd.func110, Tryd.ntmps110
  go_wp2
  go_ret
  exact ⟨rfl, rfl⟩
set_option maxHeartbeats 400000 in
theorem rot16_any (x : Nat) (w : World) (hx : x < 4294967296) :
    Calls Tryd.prog 110 #[uv x, .int .i64 16] w fun e w' => e = .returned (uv (rln 16 x)) ∧ w = w' := by
  have h1 := or_rl16 hx
  have h2 : bits .and .u64 16 31 = 16 := by decide
  go_enter Tryd.func110, Tryd.ntmps110
  go_wp2
  go_ret
  exact ⟨rfl, rfl⟩

theorem wpre_add (a : Nat) : ∀ k, wpre (a + (k + 1)) = wnext (wpre (a + k)) := fun k => rfl
set_option maxHeartbeats 400000 in
theorem rule_any (c : UInt8) (w : World) (hs : Starts w) :
    Calls Tryd.prog 108 #[.agg #[], bv c] w fun e w' => e = .returned (uv (wordOf c)) ∧ Grows w w' := by
  have hc := c.toNat_lt
  have hs0 := (hs.later (grows_alloc w (.cells #[] 149))).at_ (c.toNat / 16) (by omega)
  have HW : Hid (wordOf c = wpre (16 * (c.toNat / 16) + (c.toNat % 16 + 1))) := by show _ = _; unfold wordOf; rw [wnth_pre, show c.toNat + 1 = 16 * (c.toNat / 16) + (c.toNat % 16 + 1) by omega]
  have hga := grows_alloc w (.cells #[] 149)
  have hq : ((c.toNat : Nat) : Int) / 16 = ((c.toNat / 16 : Nat) : Int) := by omega
  have hr : ((c.toNat : Nat) : Int) % 16 = ((c.toNat % 16 : Nat) : Int) := by omega
  have hq16 : c.toNat / 16 < 16 := by omega
  have hr16 : c.toNat % 16 < 16 := by omega
  generalize wordOf c = want at *
  unfold bv
  generalize c.toNat / 16 = q at *
  generalize c.toNat % 16 = r at *
  generalize c.toNat = n at *
  generalize 16 * q = a at *
  go_enter Tryd.func108, Tryd.ntmps108
  go_wp2
  rw [hr]
  clear hr hq
  go_loop [5, 13] (fun x i => ∃ k : Nat, k ≤ r + 1 ∧ i = .int .u8 k ∧ x = uv (wpre (a + k))) (fun _ i => r + 1 - (intOf i).toNat)
  case atStart => exact ⟨0, Nat.zero_le _, rfl, rfl⟩
  case round =>
    obtain ⟨k, hk, rfl, rfl⟩ := hrel
    by_cases hlt : k < r + 1
    · have hx := wpre_lt (a + k)
      have HN := Lib.hid (wpre_add a k)
      generalize wpre (a + k) = x at *
      go_wp2_with fail
      refine (rnext_any x _ hx).mono ?_
      rintro e w' ⟨rfl, rfl⟩
      go_wp2
      go_round
      case rel => exact ⟨k + 1, by omega, by go_num, by rw [HN.out]⟩
      case measure => simp [intOf]; omega
    · obtain rfl : k = r + 1 := by omega
      have HW' := Lib.hid HW.out.symm
      generalize wpre (a + (r + 1)) = y at *
      obtain rfl := HW'.out
      go_wp2
      go_ret
      exact ⟨rfl, hga⟩
theorem follow_any (x : Nat) (c : UInt8) (w : World) (hx : x < 4294967296) (hs : Starts w) :
    Calls Tryd.prog 109 #[uv x, bv c, .func (.func 108) #[.agg #[]] #[]] w fun e w' => e = .returned (uv (rl x ^^^ wordOf c)) ∧ Grows w w' := by
  have hl := rl_lt x
  have hw := wordOf_lt c
  have hxo : bits .xor .u32 ((rl x : Nat) : Int) ((wordOf c : Nat) : Int) = ((rl x ^^^ wordOf c : Nat) : Int) := u32_xor_nat _ _ hl hw
  have R1 : ∀ u, Calls Tryd.prog 110 #[uv x, .int .i64 1] u fun e w' => e = .returned (uv (rl x)) ∧ u = w' := fun u => rot1_any x u hx
  have R2 := rule_any c w hs
  generalize rl x = y at *
  generalize wordOf c = z at *
  generalize y ^^^ z = v at *
  go_enter Tryd.func109, Tryd.ntmps109
  go_wp2_with fail
  refine (R1 _).mono ?_
  rintro e w1 ⟨rfl, rfl⟩
  go_wp2_with fail
  refine R2.mono ?_
  rintro e w1 ⟨rfl, hg⟩
  go_wp2_with fail
  go_ret
  exact ⟨rfl, hg⟩
end Go.Proofs.YtnokloedbckijaaDoor
