/-
  TreeDeep's trees: directories one in the other, files in the deepest one (of no program); and its walk.
-/
import Derived.Test.YtanofmejokgijaaL8A
namespace Go.Proofs.Ytanofmejokgijaa
open Go.RowKit
set_option linter.unusedVariables false

def fileO (i : Nat) : Own := ⟨2, [102, UInt8.ofNat (48 + i / 10), UInt8.ofNat (48 + i % 10)], 0, 0, 0, 0, [], [], 0, 0, []⟩
def dirO (nm : List UInt8) : Own := ⟨1, nm, 0, 0, 0, 0, [], [], 0, 0, []⟩
def filesL (k : Nat) : List (Own × Fo) := (List.range k).map fun i => (fileO i, .nil)
def deepK (k : Nat) : Nat → Fo
  | 0 => ofL (filesL k)
  | j + 1 => .cons (dirO [100]) (deepK k j) .nil
theorem files_form : ∀ k : Fin 16, formF 1 [] (ofL (filesL (55 + k.val))) = true := by decide +kernel
theorem files_len (k : Nat) : (filesL k).length = k := by simp [filesL]
theorem ofL_size : ∀ (l : List (Own × Fo)), (∀ x ∈ l, x.2 = .nil) → sizeF (ofL l) = l.length ∧ deepF (ofL l) = min 1 l.length
  | [], _ => ⟨rfl, rfl⟩
  | x :: l, h => by
    have h1 := h x (by simp)
    obtain ⟨h2, h3⟩ := ofL_size l fun y hy => h y (by simp [hy])
    simp only [ofL, sizeF, deepF, h1, h2, h3, List.length_cons]
    omega
theorem deep_size (k j : Nat) (hk : 0 < k) : sizeF (deepK k j) = k + j ∧ deepF (deepK k j) = j + 1 := by
  induction j with
  | zero =>
    have := ofL_size (filesL k) (fun x hx => by obtain ⟨i, _, rfl⟩ := List.mem_map.1 hx; rfl)
    rw [files_len] at this
    exact ⟨by rw [deepK, this.1, Nat.add_zero], by rw [deepK, this.2]; omega⟩
  | succ j ih => simp only [deepK, sizeF, deepF, ih.1, ih.2]; omega
theorem deep_form (k j : Nat) (hk : 55 ≤ k ∧ k < 71) : formF 1 [] (deepK k j) = true := by
  induction j with
  | zero =>
    have := files_form ⟨k - 55, by omega⟩
    rwa [show 55 + (k - 55) = k by omega] at this
  | succ j ih =>
    have h1 : ownB (dirO [100]) = true := by decide +kernel
    have h2 : nameB (dirO [100]).name = true := by decide +kernel
    have h3 : cmpB [] (dirO [100]).name = -1 := by decide +kernel
    simp only [deepK, formF, h1, h2, h3, Bool.true_and, decide_true, Bool.and_true]
    exact ih
theorem deep_may (k j : Nat) (hk : 55 ≤ k ∧ k < 71) : mayOf (dirO []) (deepK k j) = if j + 1 > 6 ∨ k + j + 1 > 64 then 3 else 0 := by
  have h1 : ownB (dirO []) = true := by decide +kernel
  obtain ⟨s1, s2⟩ := deep_size k j (by omega)
  unfold mayOf
  rw [if_pos ⟨rfl, rfl, h1, deep_form k j hk⟩, s1, s2]
  by_cases h : j + 1 > 6 ∨ k + j + 1 > 64
  · rw [if_pos h, if_pos (by omega)]
  · rw [if_neg h, if_neg (by omega)]
/-- A kids' row of files. -/
theorem files_on {w : World} {base k : Nat} {A : Option Addr} {c : Nat} (h : w.ownsRow base 28 12 (.slice A k c) k (((List.range k).map fun i => nodeCells (fileO i) noH).flatten)) : KidsOn w (base ≤ ·) A 0 (ofL (filesL k)) := by
  have hr := (Recs.of_own (k := 12) (rs := (List.range k).map fun i => nodeCells (fileO i) noH) (fun r hr => by obtain ⟨i, _, rfl⟩ := List.mem_map.1 hr; rfl) (by omega) h).1
  have hb : ∀ ad, A = some ad → base ≤ ad.block := fun ad e => by
    subst e
    rcases h.2 with ⟨e, _⟩ | ⟨g, cap, cur, e, hb, _⟩
    · cases e
    · injection e with e; injection e with e; rw [e]; exact hb
  refine KidsOn.of_recs (l := filesL k) (hs := (List.range k).map fun _ => noH) (by simp [filesL]) ?_ hb (fun j x hh h1 h2 => ?_)
  · have e : ((filesL k).zip ((List.range k).map fun _ => noH)).map (fun p => nodeCells p.1.1 p.2) = (List.range k).map fun i => nodeCells (fileO i) noH := by
      unfold filesL
      rw [List.zip_map', List.map_map]
      rfl
    rw [e]; exact hr
  · obtain ⟨i, _, rfl⟩ := List.mem_map.1 (List.mem_of_getElem? h1)
    obtain ⟨i', _, rfl⟩ := List.mem_map.1 (List.mem_of_getElem? h2)
    exact ⟨own_none rfl rfl rfl rfl rfl rfl, rfl, ⟨Nat.le_refl _, by unfold maxLen; simp [noH]⟩, trivial⟩

def dirH (A : Option Addr) (n c : Nat) : Hang := ⟨none, 0, 0, none, 0, 0, A, n, c⟩
set_option maxRecDepth 20000 in
set_option maxHeartbeats 4000000 in
theorem treedeep_walk (deep many : Int) (W : World) (hd : -9223372036854775808 ≤ deep ∧ deep ≤ 9223372036854775807) (hm : -9223372036854775808 ≤ many ∧ many ≤ 9223372036854775807) :
    Calls Try.prog 4 #[.int .i64 deep, .int .i64 many] W fun e w' => e = .returned (.bool true) ∧ Grows W w' := by
  obtain ⟨i1, hi1, hy0, hy1, hy2⟩ := info_parts node_info
  have dl : around deep 10 < 10 := around_lt _ (by omega)
  have ml : around many 16 < 16 := around_lt _ (by omega)
  have A1 := fun u => around_any deep 10 u hd (by omega)
  have A2 := fun u => around_any many 16 u hm (by omega)
  generalize around deep 10 = d at *
  generalize around many 16 = m at *
  go_enter Try.func4, Try.ntmps4
  go_wp2_with fail
  refine (A1 W).mono ?_
  rintro e w1 ⟨rfl, rfl⟩
  go_wp2_with fail
  refine (A2 _).mono ?_
  rintro e w1 ⟨rfl, rfl⟩
  have hz := Has.new W 28 zeroN
  have hvn : ∀ v ∈ ([.int .i64 1, .string ⟨#[100]⟩, .int .i64 0, .int .i64 0, .int .i64 0, .int .i64 0, .slice none 0 0, .string ⟨#[]⟩, .int .i64 0, .int .i64 0, .slice none 0 0, .slice none 0 0] : List Value), v.oneCell' = true := by simp [Value.oneCell']
  go_wp2_with (refine wpList_storeT rfl 28 (.tmp 7) (.tmp 16) rfl W.heap.size zeroN [.int .i64 1, .string ⟨#[100]⟩, .int .i64 0, .int .i64 0, .int .i64 0, .int .i64 0, .slice none 0 0, .string ⟨#[]⟩, .int .i64 0, .int .i64 0, .slice none 0 0, .slice none 0 0] 12 rfl rfl hz rfl rfl node_size hvn ?_; intro w2 hb2 hT2)
  have hg2 : Grows W w2 := turns_grow (grows_alloc W _) hT2 (Nat.le_refl _)
  have hs2 : W.heap.size + 1 ≤ w2.heap.size := hb2.lt
  clear hz hT2 A1 A2 hvn
  obtain ⟨k, hk⟩ : ∃ k, k = 55 + m := ⟨_, rfl⟩
  have hki : ((55 : Int) + (m : Int)) = (k : Int) := by omega
  rw [hki]
  have HK := Lib.hid hk
  have hk71 : k < 71 := by omega
  clear hki hk
  go_loopw [8] (fun i wr => ∃ (j : Nat) (A : Option Addr) (c : Nat), j ≤ k ∧ i = .int .i64 j ∧ Has wr W.heap.size [.int .i64 1, .string ⟨#[100]⟩, .int .i64 0, .int .i64 0, .int .i64 0, .int .i64 0, .slice none 0 0, .string ⟨#[]⟩, .int .i64 0, .int .i64 0, .slice none 0 0, .slice A j c] ∧ wr.ownsRow (W.heap.size + 1) 28 12 (.slice A j c) j (((List.range j).map fun i => nodeCells (fileO i) noH).flatten) ∧ W.heap.size + 1 ≤ wr.heap.size ∧ Grows W wr) (fun i _ => k - (intOf i).toNat)
  case atStart => exact ⟨0, none, 0, Nat.zero_le _, rfl, hb2, World.ownsRow_nil _ _ _ _, hs2, hg2⟩
  case round =>
    obtain ⟨j, A, c, hj, rfl, hb, hown, hs, hg⟩ := hrel
    by_cases hlt : j < k
    · have hd1 : decide ((j : Int) < (k : Int)) = true := by simp; omega
      obtain ⟨bs, hbs⟩ : ∃ bs, bs = [UInt8.ofNat (48 + j / 10), UInt8.ofNat (48 + j % 10)] := ⟨_, rfl⟩
      have hE : nodeCells (fileO j) noH = [.int .i64 2, .string ⟨(102 :: bs).toArray⟩, .int .i64 0, .int .i64 0, .int .i64 0, .int .i64 0, .slice none 0 0, .string ⟨#[]⟩, .int .i64 0, .int .i64 0, .slice none 0 0, .slice none 0 0] := by rw [hbs]; rfl
      have HE := Lib.hid hE
      clear hE
      have hq : Int.tdiv (j : Int) 10 = ((j / 10 : Nat) : Int) := by rw [Int.tdiv_eq_ediv_of_nonneg (by omega)]; omega
      have hm10 : Int.tmod (j : Int) 10 = ((j % 10 : Nat) : Int) := by rw [Int.tmod_eq_emod_of_nonneg (by omega)]; omega
      have b1 : bv (UInt8.ofNat (48 + j / 10)) = .int .u8 (48 + ((j / 10 : Nat) : Int)) := by unfold bv; simp; omega
      have b2 : bv (UInt8.ofNat (48 + j % 10)) = .int .u8 (48 + ((j % 10 : Nat) : Int)) := by unfold bv; simp; omega
      have q1 : j / 10 < 8 := by omega
      have q2 : j % 10 < 10 := by omega
      generalize j / 10 = x at *
      generalize j % 10 = y at *
      have hL : ∀ u : World, Lies (u.alloc (.cells #[.int .u8 (48 + (x : Int)), .int .u8 (48 + (y : Int))] 5)) (u.heap.size + 1) (some ⟨u.heap.size, 0, none⟩) (bs.map bv) := fun u => by
        rw [hbs, List.map_cons, List.map_cons, List.map_nil, b1, b2]
        exact Lies.new u 5 [.int .u8 (48 + (x : Int)), .int .u8 (48 + (y : Int))]
      have hlen : bs.length = 2 := by rw [hbs]; rfl
      have cv : (convert 23 9 (.slice (some ⟨wr.heap.size, 0, none⟩) 2 2)).run Try.prog (wr.alloc (.cells #[.int .u8 (48 + (x : Int)), .int .u8 (48 + (y : Int))] 5)) = .ok (.string ⟨bs.toArray⟩) _ := run_string_of _ 23 5 Try.underlying23 Try.underlying5 9 Try.underlying9 _ _ 2 2 bs hlen (hL wr)
      have cc := run_cat (P := Try.prog) [102] bs (by simp; omega)
      have q11 := hb.cell (k := 11) rfl
      have HBS := Lib.hid hbs
      clear hL b1 b2 hbs
      have hgA := grows_alloc wr (.cells #[.int .u8 (48 + (x : Int)), .int .u8 (48 + (y : Int))] 5)
      have hgB := Grows.trans hgA (grows_alloc _ (.cells #[.int .i64 2, .string ⟨(102 :: bs).toArray⟩, .int .i64 0, .int .i64 0, .int .i64 0, .int .i64 0, .slice none 0 0, .string ⟨#[]⟩, .int .i64 0, .int .i64 0, .slice none 0 0, .slice none 0 0] 28))
      have hownB := own_later hown hgB
      have hnewB := Lies.new (wr.alloc (.cells #[.int .u8 (48 + (x : Int)), .int .u8 (48 + (y : Int))] 5)) 28 [.int .i64 2, .string ⟨(102 :: bs).toArray⟩, .int .i64 0, .int .i64 0, .int .i64 0, .int .i64 0, .slice none 0 0, .string ⟨#[]⟩, .int .i64 0, .int .i64 0, .slice none 0 0, .slice none 0 0]
      rw [World.size_alloc] at hnewB
      have hsB := hgB.size
      have hbB := hb.later hgB
      have hvF : ∀ v ∈ ([.int .i64 2, .string ⟨(102 :: bs).toArray⟩, .int .i64 0, .int .i64 0, .int .i64 0, .int .i64 0, .slice none 0 0, .string ⟨#[]⟩, .int .i64 0, .int .i64 0, .slice none 0 0, .slice none 0 0] : List Value), v.oneCell' = true := by simp [Value.oneCell']
      go_wp2_with (at_builtin; refine wpList_append_recs rfl (.tmp 23) (.tmp 36) _ rfl (W.heap.size + 1) 28 i1 _ 12 160 (by omega) Try.underlying26 hi1 hy0 hy1 hy2 rfl _ j _ rfl hownB _ _ 1 1 [.int .i64 2, .string ⟨(102 :: bs).toArray⟩, .int .i64 0, .int .i64 0, .int .i64 0, .int .i64 0, .slice none 0 0, .string ⟨#[]⟩, .int .i64 0, .int .i64 0, .slice none 0 0, .slice none 0 0] rfl rfl hnewB hvF (by unfold maxLen; omega) (by omega) (by omega) ?_; intro v3' w3 hown3 hg3 hat3; obtain ⟨A3, c3, rfl, hc3⟩ := own_form hown3; have hb3 := hbB.turned (S := fun k => W.heap.size + 1 ≤ k) (Turns.of_by hg3 fun g e _ => own_ge hownB g e) (by omega); have q3 := hb3.cell (k := 11) rfl; have f3 := hb3.free 11)
      have hb4 := hb3.set_ (k := 11) (by simp) (.slice A3 (j + 1) c3)
      have hown4 := own_turned hown3 (Turns.of_set (S := fun k => k = W.heap.size) (o := 11) w3 (.slice A3 (j + 1) c3) rfl) (fun g e => by have := own_ge hown3 g e; omega)
      have hgW3 : Grows W w3 := (Grows.trans hg hgB).grown hg3 (Nat.le_trans hg.size hsB) (fun g e => by have := own_ge hownB g e; omega)
      have hgW4 := below_set hgW3 (Nat.le_refl _) 11 (.slice A3 (j + 1) c3)
      have hsz4 : W.heap.size + 1 ≤ (w3.setCell ⟨W.heap.size, 11, none⟩ (.slice A3 (j + 1) c3)).heap.size := hb4.lt
      go_roundw
      case rel =>
        refine ⟨j + 1, A3, c3, by omega, by go_num, hb4, ?_, hsz4, hgW4⟩
        rw [List.range_succ, List.map_append, List.flatten_append]
        rw [List.map_singleton, List.flatten_singleton, HE.out]
        exact hown4
      case measure => simp [intOf]; omega
    · obtain rfl : j = k := by omega
      have hd1 : decide ((j : Int) < (j : Int)) = false := by simp
      have hK0 : NodeOn wr (W.heap.size < ·) (dirO [100]) (deepK j 0) (dirH A j c) := ⟨own_none rfl rfl rfl rfl rfl rfl, by rw [deepK, lenF_ofL, files_len]; rfl, own_cap hown, (files_on hown).mono (fun b hb => by omega)⟩
      have HK0 := Lib.hid hK0
      clear hown hb2 hg2 hs2 hK0
      go_wp2
      go_loopw [9] (fun i wr => ∃ (t : Nat) (A : Option Addr) (n c : Nat), t ≤ d ∧ i = .int .i64 t ∧ Has wr W.heap.size [.int .i64 1, .string ⟨#[100]⟩, .int .i64 0, .int .i64 0, .int .i64 0, .int .i64 0, .slice none 0 0, .string ⟨#[]⟩, .int .i64 0, .int .i64 0, .slice none 0 0, .slice A n c] ∧ NodeOn wr (W.heap.size < ·) (dirO [100]) (deepK j t) (dirH A n c) ∧ Grows W wr) (fun i _ => d - (intOf i).toNat)
      case atStart => exact ⟨0, A, j, c, Nat.zero_le _, rfl, hb, HK0.out, hg⟩
      case round =>
        clear hb HK0 hg hs
        obtain ⟨t, A', n', c', ht, rfl, hb, hN, hg⟩ := hrel
        by_cases hlt2 : t < d
        · have hd2 : decide ((t : Int) < (d : Int)) = true := by simp; omega
          have p0 := (hb).cell (k := 0) rfl
          have p1 := (hb).cell (k := 1) rfl
          have p2 := (hb).cell (k := 2) rfl
          have p3 := (hb).cell (k := 3) rfl
          have p4 := (hb).cell (k := 4) rfl
          have p5 := (hb).cell (k := 5) rfl
          have p6 := (hb).cell (k := 6) rfl
          have p7 := (hb).cell (k := 7) rfl
          have p8 := (hb).cell (k := 8) rfl
          have p9 := (hb).cell (k := 9) rfl
          have p10 := (hb).cell (k := 10) rfl
          have p11 := (hb).cell (k := 11) rfl
          have hg1 := grows_alloc wr (.cells #[.int .i64 1, .string ⟨#[100]⟩, .int .i64 0, .int .i64 0, .int .i64 0, .int .i64 0, .slice none 0 0, .string ⟨#[]⟩, .int .i64 0, .int .i64 0, .slice none 0 0, .slice A' n' c'] 28)
          have hbv := hb.later hg1
          have hnw := Has.new wr 28 [.int .i64 1, .string ⟨#[100]⟩, .int .i64 0, .int .i64 0, .int .i64 0, .int .i64 0, .slice none 0 0, .string ⟨#[]⟩, .int .i64 0, .int .i64 0, .slice none 0 0, .slice A' n' c']
          have hvn : ∀ v ∈ ([.int .i64 1, .string ⟨#[100]⟩, .int .i64 0, .int .i64 0, .int .i64 0, .int .i64 0, .slice none 0 0, .string ⟨#[]⟩, .int .i64 0, .int .i64 0, .slice none 0 0, .slice (some ⟨wr.heap.size, 0, none⟩) 1 1] : List Value), v.oneCell' = true := by simp [Value.oneCell']
          have hblt := hb.lt
          go_wp2_with (refine wpList_storeT rfl 28 (.tmp 7) (.tmp 46) rfl W.heap.size [.int .i64 1, .string ⟨#[100]⟩, .int .i64 0, .int .i64 0, .int .i64 0, .int .i64 0, .slice none 0 0, .string ⟨#[]⟩, .int .i64 0, .int .i64 0, .slice none 0 0, .slice A' n' c'] [.int .i64 1, .string ⟨#[100]⟩, .int .i64 0, .int .i64 0, .int .i64 0, .int .i64 0, .slice none 0 0, .string ⟨#[]⟩, .int .i64 0, .int .i64 0, .slice none 0 0, .slice (some ⟨wr.heap.size, 0, none⟩) 1 1] 12 rfl rfl hbv rfl rfl node_size hvn ?_; intro w3 hb3 hT3)
          have hgW3 := turns_grow (Grows.trans hg hg1) hT3 (Nat.le_refl _)
          have hN3 : NodeOn w3 (W.heap.size < ·) (dirO [100]) (deepK j t) (dirH A' n' c') := (hN.later hg1).turn hT3 (fun k hk e => by omega)
          have hn3 : Has w3 wr.heap.size (nodeCells (dirO [100]) (dirH A' n' c')) := hnw.turned hT3 (by omega)
          have hN4 : NodeOn w3 (W.heap.size < ·) (dirO [100]) (deepK j (t + 1)) (dirH (some ⟨wr.heap.size, 0, none⟩) 1 1) := by
            refine ⟨own_none rfl rfl rfl rfl rfl rfl, rfl, ⟨Nat.le_refl _, by unfold maxLen; simp [dirH]⟩, ?_⟩
            refine KidsOn.mk (h := dirH A' n' c') ⟨_, rfl, hblt, fun j u hu => ?_⟩ hN3 trivial
            rw [add_plain, Nat.zero_mul, Nat.zero_add, Nat.zero_add]
            exact hn3.cell hu
          go_roundw
          case rel => exact ⟨t + 1, some ⟨wr.heap.size, 0, none⟩, 1, 1, by omega, by go_num, hb3, hN4, hgW3⟩
          case measure => simp [intOf]; omega
        · obtain rfl : t = d := by omega
          have hd2 : decide ((t : Int) < (t : Int)) = false := by simp
          have p1 := hb.cell (k := 1) rfl
          have f1 := hb.free 1
          have hbR : Has (wr.setCell ⟨W.heap.size, 1, none⟩ (.string ⟨#[]⟩)) W.heap.size [.int .i64 1, .string ⟨#[]⟩, .int .i64 0, .int .i64 0, .int .i64 0, .int .i64 0, .slice none 0 0, .string ⟨#[]⟩, .int .i64 0, .int .i64 0, .slice none 0 0, .slice A' n' c'] := hb.set_ (k := 1) (by simp) _
          have hNR : NodeOn (wr.setCell ⟨W.heap.size, 1, none⟩ (.string ⟨#[]⟩)) (W.heap.size < ·) (dirO []) (deepK j t) (dirH A' n' c') := by
            have := hN.turn (Turns.of_set (S := fun k => k = W.heap.size) (o := 1) wr (.string ⟨#[]⟩) rfl) (fun k hk e => by omega)
            exact ⟨own_none rfl rfl rfl rfl rfl rfl, this.klen, this.kcap, this.kids⟩
          have hgR := below_set hg (Nat.le_refl _) 1 (.string ⟨#[]⟩)
          obtain ⟨ds, dd⟩ := deep_size j t (by have := HK.out; omega)
          have hm1 := deep_may j t (by have := HK.out; omega)
          have hval : nv (dirO []) (dirH A' n' c') = .agg #[.int .i64 1, .string ⟨#[]⟩, .int .i64 0, .int .i64 0, .int .i64 0, .int .i64 0, .slice none 0 0, .string ⟨#[]⟩, .int .i64 0, .int .i64 0, .slice none 0 0, .slice A' n' c'] := rfl
          have C2 := fun u (hu : Grows _ u) => tmay_any (dirO []) (deepK j t) (dirH A' n' c') _ u (hNR.later hu) (by rw [ds]; omega)
          have C3 := fun u (hu : Grows _ u) => count_any (dirO []) (deepK j t) (dirH A' n' c') _ u (hNR.later hu) (by rw [ds]; omega)
          have C4 := fun u (hu : Grows _ u) => depth_any (dirO []) (deepK j t) (dirH A' n' c') _ u (hNR.later hu) (by rw [ds]; omega)
          have HB0 := fun u (hu : Grows _ u) => hbR.later hu
          simp only [hval, hm1, ds, dd] at C2 C3 C4
          have HC3 := Lib.hid C3
          have HC4 := Lib.hid C4
          have HB := Lib.hid HB0
          have r0 := (hbR).cell (k := 0) rfl
          have r1 := (hbR).cell (k := 1) rfl
          have r2 := (hbR).cell (k := 2) rfl
          have r3 := (hbR).cell (k := 3) rfl
          have r4 := (hbR).cell (k := 4) rfl
          have r5 := (hbR).cell (k := 5) rfl
          have r6 := (hbR).cell (k := 6) rfl
          have r7 := (hbR).cell (k := 7) rfl
          have r8 := (hbR).cell (k := 8) rfl
          have r9 := (hbR).cell (k := 9) rfl
          have r10 := (hbR).cell (k := 10) rfl
          have r11 := (hbR).cell (k := 11) rfl
          clear C3 C4 HB0 hNR hN hg ds dd hm1 hval HK
          by_cases x1 : t + 1 > 6
          · have y1 : decide ((6 : Int) < (t : Int) + 1) = true := by simp; omega
            rw [show (if t + 1 > 6 ∨ j + t + 1 > 64 then 3 else 0) = 3 from by first | exact if_pos (by omega) | exact if_neg (by omega)] at C2
            have HC2 := Lib.hid C2
            clear C2
            clear x1
            go_wp2_with fail
            with_reducible refine (HC2.out _ (Grows.refl _)).mono ?_
            rintro e w2' ⟨rfl, hg2⟩
            clear r0 r1 r2 r3 r4 r5 r6 r7 r8 r9 r10 r11
            have r0 := (HB.out w2' hg2).cell (k := 0) rfl
            have r1 := (HB.out w2' hg2).cell (k := 1) rfl
            have r2 := (HB.out w2' hg2).cell (k := 2) rfl
            have r3 := (HB.out w2' hg2).cell (k := 3) rfl
            have r4 := (HB.out w2' hg2).cell (k := 4) rfl
            have r5 := (HB.out w2' hg2).cell (k := 5) rfl
            have r6 := (HB.out w2' hg2).cell (k := 6) rfl
            have r7 := (HB.out w2' hg2).cell (k := 7) rfl
            have r8 := (HB.out w2' hg2).cell (k := 8) rfl
            have r9 := (HB.out w2' hg2).cell (k := 9) rfl
            have r10 := (HB.out w2' hg2).cell (k := 10) rfl
            have r11 := (HB.out w2' hg2).cell (k := 11) rfl
            go_wp2_with fail
            with_reducible refine (HC3.out w2' hg2).mono ?_
            rintro e w3 ⟨rfl, hg3⟩
            have hg13 := Grows.trans hg2 hg3
            clear r0 r1 r2 r3 r4 r5 r6 r7 r8 r9 r10 r11
            have r0 := (HB.out w3 hg13).cell (k := 0) rfl
            have r1 := (HB.out w3 hg13).cell (k := 1) rfl
            have r2 := (HB.out w3 hg13).cell (k := 2) rfl
            have r3 := (HB.out w3 hg13).cell (k := 3) rfl
            have r4 := (HB.out w3 hg13).cell (k := 4) rfl
            have r5 := (HB.out w3 hg13).cell (k := 5) rfl
            have r6 := (HB.out w3 hg13).cell (k := 6) rfl
            have r7 := (HB.out w3 hg13).cell (k := 7) rfl
            have r8 := (HB.out w3 hg13).cell (k := 8) rfl
            have r9 := (HB.out w3 hg13).cell (k := 9) rfl
            have r10 := (HB.out w3 hg13).cell (k := 10) rfl
            have r11 := (HB.out w3 hg13).cell (k := 11) rfl
            have hcnt : ((1 : Int) + ((j + t : Nat) : Int) == (j : Int) + (t : Int) + 1) = true := by simp; omega
            go_wp2_with fail
            with_reducible refine (HC4.out w3 hg13).mono ?_
            rintro e w4 ⟨rfl, hg4⟩
            have hg14 := Grows.trans hg13 hg4
            clear r0 r1 r2 r3 r4 r5 r6 r7 r8 r9 r10 r11
            have hdp : (((t + 1 : Nat) : Int) == (t : Int) + 1) = true := by simp
            go_wp2_with fail
            with_reducible refine (lives8_any w4).mono ?_
            rintro e w5 ⟨rfl, hg5⟩
            go_wp2
            go_ret
            exact ⟨rfl, Grows.trans hgR (Grows.trans hg14 hg5)⟩
          · have y1 : decide ((6 : Int) < (t : Int) + 1) = false := by simp; omega
            by_cases x2 : j + t + 1 > 64
            · have y2 : decide ((64 : Int) < (j : Int) + (t : Int) + 1) = true := by simp; omega
              rw [show (if t + 1 > 6 ∨ j + t + 1 > 64 then 3 else 0) = 3 from by first | exact if_pos (by omega) | exact if_neg (by omega)] at C2
              have HC2 := Lib.hid C2
              clear C2
              clear x1 x2
              go_wp2_with fail
              with_reducible refine (HC2.out _ (Grows.refl _)).mono ?_
              rintro e w2' ⟨rfl, hg2⟩
              clear r0 r1 r2 r3 r4 r5 r6 r7 r8 r9 r10 r11
              have r0 := (HB.out w2' hg2).cell (k := 0) rfl
              have r1 := (HB.out w2' hg2).cell (k := 1) rfl
              have r2 := (HB.out w2' hg2).cell (k := 2) rfl
              have r3 := (HB.out w2' hg2).cell (k := 3) rfl
              have r4 := (HB.out w2' hg2).cell (k := 4) rfl
              have r5 := (HB.out w2' hg2).cell (k := 5) rfl
              have r6 := (HB.out w2' hg2).cell (k := 6) rfl
              have r7 := (HB.out w2' hg2).cell (k := 7) rfl
              have r8 := (HB.out w2' hg2).cell (k := 8) rfl
              have r9 := (HB.out w2' hg2).cell (k := 9) rfl
              have r10 := (HB.out w2' hg2).cell (k := 10) rfl
              have r11 := (HB.out w2' hg2).cell (k := 11) rfl
              go_wp2_with fail
              with_reducible refine (HC3.out w2' hg2).mono ?_
              rintro e w3 ⟨rfl, hg3⟩
              have hg13 := Grows.trans hg2 hg3
              clear r0 r1 r2 r3 r4 r5 r6 r7 r8 r9 r10 r11
              have r0 := (HB.out w3 hg13).cell (k := 0) rfl
              have r1 := (HB.out w3 hg13).cell (k := 1) rfl
              have r2 := (HB.out w3 hg13).cell (k := 2) rfl
              have r3 := (HB.out w3 hg13).cell (k := 3) rfl
              have r4 := (HB.out w3 hg13).cell (k := 4) rfl
              have r5 := (HB.out w3 hg13).cell (k := 5) rfl
              have r6 := (HB.out w3 hg13).cell (k := 6) rfl
              have r7 := (HB.out w3 hg13).cell (k := 7) rfl
              have r8 := (HB.out w3 hg13).cell (k := 8) rfl
              have r9 := (HB.out w3 hg13).cell (k := 9) rfl
              have r10 := (HB.out w3 hg13).cell (k := 10) rfl
              have r11 := (HB.out w3 hg13).cell (k := 11) rfl
              have hcnt : ((1 : Int) + ((j + t : Nat) : Int) == (j : Int) + (t : Int) + 1) = true := by simp; omega
              go_wp2_with fail
              with_reducible refine (HC4.out w3 hg13).mono ?_
              rintro e w4 ⟨rfl, hg4⟩
              have hg14 := Grows.trans hg13 hg4
              clear r0 r1 r2 r3 r4 r5 r6 r7 r8 r9 r10 r11
              have hdp : (((t + 1 : Nat) : Int) == (t : Int) + 1) = true := by simp
              go_wp2_with fail
              with_reducible refine (lives8_any w4).mono ?_
              rintro e w5 ⟨rfl, hg5⟩
              go_wp2
              go_ret
              exact ⟨rfl, Grows.trans hgR (Grows.trans hg14 hg5)⟩
            · have y2 : decide ((64 : Int) < (j : Int) + (t : Int) + 1) = false := by simp; omega
              rw [show (if t + 1 > 6 ∨ j + t + 1 > 64 then 3 else 0) = 0 from by first | exact if_pos (by omega) | exact if_neg (by omega)] at C2
              have HC2 := Lib.hid C2
              clear C2
              clear x1 x2
              go_wp2_with fail
              with_reducible refine (HC2.out _ (Grows.refl _)).mono ?_
              rintro e w2' ⟨rfl, hg2⟩
              clear r0 r1 r2 r3 r4 r5 r6 r7 r8 r9 r10 r11
              have r0 := (HB.out w2' hg2).cell (k := 0) rfl
              have r1 := (HB.out w2' hg2).cell (k := 1) rfl
              have r2 := (HB.out w2' hg2).cell (k := 2) rfl
              have r3 := (HB.out w2' hg2).cell (k := 3) rfl
              have r4 := (HB.out w2' hg2).cell (k := 4) rfl
              have r5 := (HB.out w2' hg2).cell (k := 5) rfl
              have r6 := (HB.out w2' hg2).cell (k := 6) rfl
              have r7 := (HB.out w2' hg2).cell (k := 7) rfl
              have r8 := (HB.out w2' hg2).cell (k := 8) rfl
              have r9 := (HB.out w2' hg2).cell (k := 9) rfl
              have r10 := (HB.out w2' hg2).cell (k := 10) rfl
              have r11 := (HB.out w2' hg2).cell (k := 11) rfl
              go_wp2_with fail
              with_reducible refine (HC3.out w2' hg2).mono ?_
              rintro e w3 ⟨rfl, hg3⟩
              have hg13 := Grows.trans hg2 hg3
              clear r0 r1 r2 r3 r4 r5 r6 r7 r8 r9 r10 r11
              have r0 := (HB.out w3 hg13).cell (k := 0) rfl
              have r1 := (HB.out w3 hg13).cell (k := 1) rfl
              have r2 := (HB.out w3 hg13).cell (k := 2) rfl
              have r3 := (HB.out w3 hg13).cell (k := 3) rfl
              have r4 := (HB.out w3 hg13).cell (k := 4) rfl
              have r5 := (HB.out w3 hg13).cell (k := 5) rfl
              have r6 := (HB.out w3 hg13).cell (k := 6) rfl
              have r7 := (HB.out w3 hg13).cell (k := 7) rfl
              have r8 := (HB.out w3 hg13).cell (k := 8) rfl
              have r9 := (HB.out w3 hg13).cell (k := 9) rfl
              have r10 := (HB.out w3 hg13).cell (k := 10) rfl
              have r11 := (HB.out w3 hg13).cell (k := 11) rfl
              have hcnt : ((1 : Int) + ((j + t : Nat) : Int) == (j : Int) + (t : Int) + 1) = true := by simp; omega
              go_wp2_with fail
              with_reducible refine (HC4.out w3 hg13).mono ?_
              rintro e w4 ⟨rfl, hg4⟩
              have hg14 := Grows.trans hg13 hg4
              clear r0 r1 r2 r3 r4 r5 r6 r7 r8 r9 r10 r11
              have hdp : (((t + 1 : Nat) : Int) == (t : Int) + 1) = true := by simp
              go_wp2_with fail
              with_reducible refine (lives8_any w4).mono ?_
              rintro e w5 ⟨rfl, hg5⟩
              go_wp2
              go_ret
              exact ⟨rfl, Grows.trans hgR (Grows.trans hg14 hg5)⟩
end Go.Proofs.Ytanofmejokgijaa
