/-
  Contracts of sha's State: New, Clone, Len, Write.
-/
import Derived.Test.YtfpgnihibgmeeaaDoorShaH
namespace Go.Proofs.YtfpgnihibgmeeaaDoor
open Go.RowKit
set_option linter.unusedVariables false

set_option maxRecDepth 100000 in
theorem zero_state (w : World) : (zeroValue 48).run Tryd.prog w = .ok (.agg #[.int .u32 0, .int .u32 0, .int .u32 0, .int .u32 0, .int .u32 0, .int .u32 0, .int .u32 0, .int .u32 0, .int .u8 0, .int .u8 0, .int .u8 0, .int .u8 0, .int .u8 0, .int .u8 0, .int .u8 0, .int .u8 0, .int .u8 0, .int .u8 0, .int .u8 0, .int .u8 0, .int .u8 0, .int .u8 0, .int .u8 0, .int .u8 0, .int .u8 0, .int .u8 0, .int .u8 0, .int .u8 0, .int .u8 0, .int .u8 0, .int .u8 0, .int .u8 0, .int .u8 0, .int .u8 0, .int .u8 0, .int .u8 0, .int .u8 0, .int .u8 0, .int .u8 0, .int .u8 0, .int .u8 0, .int .u8 0, .int .u8 0, .int .u8 0, .int .u8 0, .int .u8 0, .int .u8 0, .int .u8 0, .int .u8 0, .int .u8 0, .int .u8 0, .int .u8 0, .int .u8 0, .int .u8 0, .int .u8 0, .int .u8 0, .int .u8 0, .int .u8 0, .int .u8 0, .int .u8 0, .int .u8 0, .int .u8 0, .int .u8 0, .int .u8 0, .int .u8 0, .int .u8 0, .int .u8 0, .int .u8 0, .int .u8 0, .int .u8 0, .int .u8 0, .int .u8 0, .int .i64 0]) w := by kernel_rfl

set_option maxRecDepth 100000 in
set_option maxHeartbeats 1000000 in
theorem new_any (w : World) : Calls Tryd.prog 14 #[] w fun e w' => e = .returned (.pointer (some ⟨w.heap.size, 0, none⟩)) ∧ Hold w' w.heap.size [] ∧ Grows w w' := by
  have hN := Has.new w 48 (start8.list.map uv ++ ((List.replicate 64 (0 : UInt8)).map bv ++ [Value.int .i64 ((0 : Nat) : Int)]))
  have hg := grows_alloc w (.cells (start8.list.map uv ++ ((List.replicate 64 (0 : UInt8)).map bv ++ [Value.int .i64 ((0 : Nat) : Int)])).toArray 48)
  have hz := zero_state
  go_enter Tryd.func14, Tryd.ntmps14
  go_wp2
  go_ret
  exact ⟨rfl, ⟨_, ⟨hN, rfl⟩, rfl⟩, hg⟩

set_option maxRecDepth 100000 in
set_option maxHeartbeats 1000000 in
theorem clone_any (b : Nat) (l : List UInt8) (w : World) (hh : Hold w b l) :
    Calls Tryd.prog 18 #[.pointer (some ⟨b, 0, none⟩)] w fun e w' => e = .returned (.pointer (some ⟨w.heap.size, 0, none⟩)) ∧ Hold w' w.heap.size l ∧ Grows w w' := by
  obtain ⟨blk, hst, hp⟩ := hh
  have hn : (((through l (l.length / 64)).list.map uv ++ (blk.map bv ++ [Value.int .i64 (l.length : Int)]))).length = 73 := by simp [v8_len, hst.blen]
  have hld := hst.has.load Tryd.underlying48 rfl (by rw [hn]; exact state_size)
  have h1 : ∀ u ∈ ((through l (l.length / 64)).list.map uv ++ (blk.map bv ++ [Value.int .i64 (l.length : Int)])), u.oneCell' = true := fun u hu => by
    rcases List.mem_append.1 hu with h | h
    · exact uv_one _ u h
    · rcases List.mem_append.1 h with h | h
      · exact bv_one _ u h
      · obtain rfl := List.mem_singleton.1 h; rfl
  have hbl := hst.blen
  have HST : ∀ w', Has w' w.heap.size ((through l (l.length / 64)).list.map uv ++ (blk.map bv ++ [Value.int .i64 (l.length : Int)])) → Hold w' w.heap.size l := fun w' h => ⟨blk, ⟨h, hbl⟩, hp⟩
  have HH := Lib.hid HST
  have HN := Lib.hid hn
  clear HST hn hst hp hbl
  generalize (through l (l.length / 64)).list.map uv ++ (blk.map bv ++ [Value.int .i64 (l.length : Int)]) = cs at *
  have hN := Has.new w 48 ((List.replicate 8 0).map uv ++ ((List.replicate 64 (0 : UInt8)).map bv ++ [Value.int .i64 0]))
  have hg := grows_alloc w (.cells ((List.replicate 8 0).map uv ++ ((List.replicate 64 (0 : UInt8)).map bv ++ [Value.int .i64 0])).toArray 48)
  have hz := zero_state
  go_enter Tryd.func18, Tryd.ntmps18
  go_wp2_with (first | (with_reducible refine wpList_loads rfl 48 (.tmp 5) rfl _ rfl _ hld ?_) | (refine wpList_storev rfl 48 (.tmp 3) (.tmp 6) rfl w.heap.size ((List.replicate 8 0).map uv ++ ((List.replicate 64 (0 : UInt8)).map bv ++ [Value.int .i64 0])) cs 73 rfl rfl hN rfl HN.out state_size h1 ?_; intro w6 hbox6 hbel6))
  go_ret
  exact ⟨rfl, HH.out _ hbox6, hbel6 _ _ (Nat.le_refl _) hg⟩

set_option maxHeartbeats 400000 in
theorem len_any (b : Nat) (l : List UInt8) (w : World) (hh : Hold w b l) :
    Calls Tryd.prog 17 #[.pointer (some ⟨b, 0, none⟩)] w fun e w' => e = .returned (.int .i64 (l.length : Int)) ∧ w = w' := by
  obtain ⟨blk, hst, hp⟩ := hh
  have hsz := hst.size
  clear hst hp
  go_enter Tryd.func17, Tryd.ntmps17
  go_wp2
  go_ret
  exact ⟨rfl, rfl⟩

/-- The cells vs lie at A, in no cell of block b. -/
def Off (w : World) (b : Nat) (A : Option Addr) (vs : List Value) : Prop := ∀ j u, vs[j]? = some u → ∃ ad, A = some ad ∧ ad.block ≠ b ∧ w.cell? (ad.add j) = some u
theorem Off.but {w w' : World} {b : Nat} {A : Option Addr} {vs : List Value} (h : Off w b A vs) (hb : But b w w') : Off w' b A vs := fun j u hu => by
  obtain ⟨ad, e, hne, hc⟩ := h j u hu
  exact ⟨ad, e, hne, hb.cell hc (fun e => by rw [add_block] at e; exact hne (Option.some.inj e))⟩

set_option maxRecDepth 100000 in
set_option maxHeartbeats 1000000 in
theorem write_any (b : Nat) (l : List UInt8) (A : Option Addr) (n c : Nat) (bs : List UInt8) (w : World) (hk : Keys w) (hb0 : 0 < b) (hh : Hold w b l) (hl : bs.length = n) (hr : Off w b A (bs.map bv)) (hn : l.length + n ≤ 1000000) :
    Calls Tryd.prog 15 #[.pointer (some ⟨b, 0, none⟩), .slice A n c] w fun e w' => e = .returned (.tuple #[]) ∧ Hold w' b (l ++ bs) ∧ But b w w' := by
  have HL := Lib.hid hl
  have HK := Lib.hid hk
  have HR := Lib.hid hr
  clear hl hk hr
  go_enter Tryd.func15, Tryd.ntmps15
  go_wp2_with fail
  go_loopw [8] (fun i wr => ∃ k : Nat, k ≤ n ∧ i = .int .i64 k ∧ Hold wr b (l ++ bs.take k) ∧ But b w wr) (fun i _ => n - (intOf i).toNat)
  case atStart => exact ⟨0, Nat.zero_le _, rfl, by simpa using hh, But.refl _ _⟩
  case round =>
    clear hh
    obtain ⟨k, hk, rfl, hhold, hbut⟩ := hrel
    by_cases hlt : k < n
    · obtain ⟨x, hx⟩ : ∃ x, bs[k]? = some x := ⟨_, List.getElem?_eq_getElem (by rw [HL.out]; exact hlt)⟩
      obtain ⟨ad, rfl, hne, hcell⟩ := HR.out.but hbut k (bv x) (by rw [List.getElem?_map, hx]; rfl)
      have HX := Lib.hid (show l ++ bs.take (k + 1) = l ++ bs.take k ++ [x] by rw [List.take_add_one, hx, List.append_assoc]; rfl)
      have HLEN : Hid ((l ++ bs.take k).length ≤ 1000000000) := by show _ ≤ _; rw [List.length_append, List.length_take]; omega
      clear hx
      have HH := Lib.hid hhold
      have HB := Lib.hid hbut
      clear hhold hbut
      go_wp2_with fail
      refine (put_any b (l ++ bs.take k) x wr (HK.out.but HB.out hb0) hb0 HH.out HLEN.out).mono ?_
      rintro e w2 ⟨rfl, hh2, hb2⟩
      rw [← HX.out] at hh2
      have hb2' := HB.out.trans hb2
      clear hb2
      go_wp2_with fail
      go_roundw
      case rel => exact ⟨k + 1, by omega, by go_num, hh2, hb2'⟩
      case measure => simp [intOf]; omega
    · obtain rfl : k = n := by omega
      rw [List.take_of_length_le (by rw [HL.out]; omega)] at hhold
      go_wp2_with fail
      go_end0
      exact ⟨rfl, hhold, hbut⟩
end Go.Proofs.YtfpgnihibgmeeaaDoor
