/-
  Contracts, joined (Hex ErrIs Pair Parse Ref Cmp NameC Dig).
-/
import Derived.Test.YtbcldknecdbemaaGreatDoorRows
import Derived.Test.YtbcldknecdbemaaGreatDoorQ1
import Derived.Deep.RegionHeld3
import Derived.Outline
import Derived.Lib.Hide
import Derived.Test.YtbcldknecdbemaaGreatDoorChecked
import Derived.WalkKit
import Derived.LaidEql
import Derived.Stop.Asserts
import Derived.BigQuiet
import Derived.Laws.Cover3
import Derived.Test.YtbcldknecdbemaaGreatDoorQ9

/-
  Contracts of hexa.Text, of the reference's Few and of the layer's example (lives): what they return is the digits of the bytes, the first bytes, true; nothing that was there has turned. Conditions: the bytes lie in memory, and are at most a million.
-/
namespace Go.Proofs.YtbcldknecdbemaaGreatDoor.Hx
open Go.RowKit
set_option linter.unusedVariables false
set_option maxRecDepth 20000

theorem byte_info : (Tryz.prog.info? 5).map (fun i => (i.zero, i.size, i.bytes)) = some (some (.int .u8 0), 1, 1) := by kernel_rfl

set_option maxHeartbeats 400000 in
theorem few_any (A : Option Addr) (n c m : Nat) (vs : List Value) (w : World) (hl : vs.length = n) (hr : Lies w w.heap.size A vs) (h1 : ∀ u ∈ vs, u.oneCell' = true) (hn : n ≤ c) (hm : m ≤ 1000000) (hc : c ≤ maxLen) :
    Calls Tryz.prog 16 #[.slice A n c, .int .i64 (m : Int)] w fun e w' => ∃ v, e = .returned v ∧ w'.ownsRow w.heap.size 5 1 v (min n m) (vs.take m) ∧ Below w.heap.size w w' := by
  unfold maxLen at hc
  obtain ⟨i0, hi0, hz0, hz1, hz2⟩ := info_parts byte_info
  by_cases hmn : m < n
  · have hlt : (vs.take m).length = m := by rw [List.length_take]; omega
    have HL : Hid (vs.length = n) := hl
    clear hl
    have HT : Hid ((vs.take m).length = m) := hlt
    clear hlt
    go_enter Tryz.func16, Tryz.ntmps16
    go_wp2_with (at_builtin; refine wpList_append_src _ rfl (.tmp 6) (.tmp 12) _ rfl w.heap.size 5 i0 _ 1 Tryz.underlying27 hi0 hz0 hz1 hz2 rfl (.slice none 0 0) 0 [] rfl (World.ownsRow_nil _ _ _ _) w.heap.size A m c (vs.take m) rfl HT.out (hr.take m) (fun u hu => h1 u (List.mem_of_mem_take hu)) (by unfold maxLen; omega) (by omega) (Nat.le_refl _) ?_; intro v' w' hown hg hat)
    go_ret
    refine ⟨v', rfl, ?_, (Below.refl _ _).grown hg (Nat.le_refl _) (by simp [Value.ownBlock])⟩
    rw [Nat.min_eq_right (by omega)]
    simpa using hown
  · have hlt : (vs.take m) = vs := List.take_of_length_le (by omega)
    rw [hlt]
    have HL : Hid (vs.length = n) := hl
    clear hl hlt
    go_enter Tryz.func16, Tryz.ntmps16
    go_wp2_with (at_builtin; refine wpList_append_src _ rfl (.tmp 6) (.tmp 12) _ rfl w.heap.size 5 i0 _ 1 Tryz.underlying27 hi0 hz0 hz1 hz2 rfl (.slice none 0 0) 0 [] rfl (World.ownsRow_nil _ _ _ _) w.heap.size A n c vs rfl HL.out hr h1 (by unfold maxLen; omega) (by omega) (Nat.le_refl _) ?_; intro v' w' hown hg hat)
    go_ret
    refine ⟨v', rfl, ?_, (Below.refl _ _).grown hg (Nat.le_refl _) (by simp [Value.ownBlock])⟩
    rw [Nat.min_eq_left (by omega)]
    simpa using hown

def hexD (n : Nat) : UInt8 := if n < 10 then UInt8.ofNat (48 + n) else UInt8.ofNat (87 + n)
def hexOf (l : List UInt8) : List UInt8 := l.flatMap fun b => [hexD (b.toNat / 16), hexD (b.toNat % 16)]

theorem hexOf_append (l r : List UInt8) : hexOf (l ++ r) = hexOf l ++ hexOf r := by simp [hexOf]
theorem hexOf_length (l : List UInt8) : (hexOf l).length = 2 * l.length := by
  induction l with
  | nil => rfl
  | cons b r ih => simp only [hexOf, List.flatMap_cons, List.length_append] at ih ⊢; simp only [List.length_cons, List.length_nil, ih]; omega
theorem hexOf_take (l : List UInt8) (k : Nat) (b : UInt8) (h : l[k]? = some b) : hexOf (l.take (k + 1)) = hexOf (l.take k) ++ [hexD (b.toNat / 16), hexD (b.toNat % 16)] := by
  rw [List.take_add_one, h, hexOf_append]
  rfl
theorem hexD_at : ∀ k : Fin 16, (hexD k.val) = ((#[48, 49, 50, 51, 52, 53, 54, 55, 56, 57, 97, 98, 99, 100, 101, 102] : Array UInt8)[k.val]) := by decide
theorem and15 : ∀ n : Fin 256, bits .and .u8 (n.val : Int) 15 = ((n.val % 16 : Nat) : Int) := by decide +kernel
theorem digit_run (k : Nat) (hk : k < 16) (w : World) : (Instr.index 9 (.string ⟨#[48, 49, 50, 51, 52, 53, 54, 55, 56, 57, 97, 98, 99, 100, 101, 102]⟩) (.int .u8 (k : Int))).run Tryz.prog w = .ok (bv (hexD k)) w := by
  have h := hexD_at ⟨k, hk⟩
  have hs : ((⟨#[48, 49, 50, 51, 52, 53, 54, 55, 56, 57, 97, 98, 99, 100, 101, 102]⟩ : ByteArray)).size = 16 := rfl
  rw [run_index_string w 9 _ .u8 k Tryz.underlying9, dif_pos ⟨by omega, by rw [hs]; omega⟩]
  simp only [bv, h]
  rfl

/-- Few over bytes. -/
theorem few_bytes (A : Option Addr) (n c m : Nat) (bs : List UInt8) (w : World) (hl : bs.length = n) (hr : Lies w w.heap.size A (bs.map bv)) (hn : n ≤ c) (hm : m ≤ 1000000) (hc : c ≤ maxLen) :
    Calls Tryz.prog 16 #[.slice A n c, .int .i64 (m : Int)] w fun e w' => ∃ A' c', e = .returned (.slice A' (min n m) c') ∧ min n m ≤ c' ∧
      w'.ownsRow w.heap.size 5 1 (.slice A' (min n m) c') (min n m) ((bs.take m).map bv) ∧ Lies w' w'.heap.size A' ((bs.take m).map bv) ∧ Below w.heap.size w w' := by
  refine (few_any A n c m (bs.map bv) w (by simpa using hl) hr (bv_one bs) hn hm hc).mono ?_
  rintro e w' ⟨v, rfl, hown, hb⟩
  obtain ⟨A', c', rfl, hk⟩ := own_form hown
  rw [← List.map_take] at hown
  exact ⟨A', c', rfl, hk, hown, Lies.of_own hown, hb⟩

set_option maxHeartbeats 400000 in
theorem text_any (A : Option Addr) (n c : Nat) (bs : List UInt8) (w : World) (hl : bs.length = n) (hr : Lies w w.heap.size A (bs.map bv)) (hc : n ≤ 1000000) :
    Calls Tryz.prog 96 #[.slice A n c] w fun e w' => e = .returned (.string ⟨(hexOf bs).toArray⟩) ∧ Below w.heap.size w w' := by
  obtain ⟨i0, hi0, hz0, hz1, hz2⟩ := info_parts byte_info
  have HL : Hid (bs.length = n) := hl
  clear hl
  go_enter Tryz.func96, Tryz.ntmps96
  go_wp2_with (at_make; refine wpList_make_own _ rfl _ _ _ rfl w.heap.size 5 i0 _ 1 Tryz.underlying27 hi0 hz0 hz1 .i64 .i64 (2 * (n : Int)) (2 * n) rfl rfl (by omega) (by rw [hz2]; omega) (by unfold maxLen; omega) (Nat.le_refl _) ?_; intro w1 hown hg)
  go_loopw [3, 11] (fun v i wr => ∃ k : Nat, k ≤ n ∧ i = .int .i64 k ∧ wr.ownsRow w.heap.size 5 1 v (2 * k) ((hexOf (bs.take k)).map bv) ∧ Below w.heap.size w wr) (fun _ i _ => n - (intOf i).toNat)
  case atStart => exact ⟨0, Nat.zero_le _, rfl, by simpa [hexOf] using hown, (Below.refl _ _).grown hg (Nat.le_refl _) (by simp)⟩
  case round =>
    clear hown hg
    obtain ⟨k, hk, rfl, hown, hbel⟩ := hrel
    by_cases hlt : k < n
    · obtain ⟨b, hb⟩ : ∃ b, bs[k]? = some b := ⟨_, List.getElem?_eq_getElem (by rw [HL.out]; exact hlt)⟩
      obtain ⟨ad, rfl, hadB, hcell⟩ := hr.at_ (j := k) (u := bv b) (by rw [List.getElem?_map, hb]; rfl)
      have HB : Hid (bs[k]? = some b) := hb
      clear hb
      have hcl : ∀ w' : World, Below w.heap.size w w' → w'.cell? (ad.add k) = some (bv b) := fun w' h => by rw [h.cell (by rw [add_block]; exact hadB)]; exact hcell
      clear hcell
      have k0 : (0 : Int) ≤ (k : Int) := Int.natCast_nonneg _
      have k1 : (k : Int) < (n : Int) := by omega
      have hd1 : ∀ w, (Instr.index 9 (.string ⟨#[48, 49, 50, 51, 52, 53, 54, 55, 56, 57, 97, 98, 99, 100, 101, 102]⟩) (.int .u8 ((b.toNat : Int) / 16))).run Tryz.prog w = .ok (bv (hexD (b.toNat / 16))) w := fun w => digit_run (b.toNat / 16) (by have := b.toNat_lt; omega) w
      have hd2 : ∀ w, (Instr.index 9 (.string ⟨#[48, 49, 50, 51, 52, 53, 54, 55, 56, 57, 97, 98, 99, 100, 101, 102]⟩) (.int .u8 (bits .and .u8 (b.toNat : Int) 15))).run Tryz.prog w = .ok (bv (hexD (b.toNat % 16))) w := fun w => by rw [and15 ⟨b.toNat, b.toNat_lt⟩]; exact digit_run (b.toNat % 16) (by omega) w
      go_wp2
      go_region_held3 (fun w' => Below w.heap.size w w') (first | exact hbel.drew | exact (hbel.alloc hbel.size _).drew | exact hb2)
        ((refine step_append_src _ (by rfl) (.tmp 14) (.tmp 27) _ (by rfl) w.heap.size 5 i0 _ 1 Tryz.underlying27 hi0 hz0 hz1 hz2 rfl u3 (2 * k) _ (by rfl) (hown.alloc _).drew _ _ 2 2 [bv (hexD (b.toNat / 16)), bv (hexD (b.toNat % 16))] (by rfl) rfl (Lies.new wr 5 _).drew (by simp [Value.oneCell']) (by unfold maxLen; omega) (by omega) (by have := hbel.size; simp; omega) ?_; intro v' w' hown' hg' hat'; have hb2 : Below w.heap.size w w' := ((hbel.alloc hbel.size _).drew).grown hg' (by have := hbel.size; simp; omega) (own_ge hown)))
      all_goals
        clear hd1 hd2 hcl
        go_wp2
        go_roundw
        case rel => exact ⟨k + 1, by omega, by go_num, by rw [hexOf_take bs k b HB.out, List.map_append]; exact hown', hb2⟩
        case measure => simp [intOf]; omega
    · obtain ⟨A', c', rfl, _⟩ := own_form hown
      have hk : k = n := by omega
      subst hk
      have hcv := run_string_of (P := Tryz.prog) wr 27 5 Tryz.underlying27 Tryz.underlying5 9 Tryz.underlying9 _ A' (2 * k) c' (hexOf bs) (by rw [hexOf_length, HL.out]) (by have := Lies.of_own hown; rwa [List.take_of_length_le (by rw [HL.out]; omega)] at this)
      clear hown
      go_wp2
      go_ret
      exact ⟨rfl, hbel⟩
end Go.Proofs.YtbcldknecdbemaaGreatDoor.Hx

/-
  Contract of errors.Is over two values of api.Errno: it returns whether the two numbers are one; memory is left as it was. No condition.
-/
namespace Go.Proofs.YtbcldknecdbemaaGreatDoor
open Go.RowKit Go.Extern.Stop Go.Stop Go.Extern
set_option linter.unusedVariables false
set_option maxRecDepth 20000

theorem isTypeOf (v : Value) (w : World) : (callFunc 143 #[.iface 47 v]).run Tryz.prog w = .ok (.value (.iface 216 (.agg #[.pointer (some ⟨2, 47, none⟩)]))) w := by kernel_rfl
theorem isComparable (w : World) : (callFunc 205 #[.agg #[.pointer (some ⟨2, 47, none⟩)]]).run Tryz.prog w = .ok (.value (.bool true)) w := by kernel_rfl
theorem isMethod (v : Value) (w : World) : (Go.method 370 216 v "Comparable").run Tryz.prog w = .ok (205, v) w := by kernel_rfl
theorem isComp : (Tryz.prog.info? 47).map (·.comparable) = some true := by kernel_rfl
theorem noIs (v : Value) (xT : TypeId) (w : World) : (Instr.typeAssert (.iface 47 v) xT 218 true).run Tryz.prog w = .ok (.tuple #[.nilIface, .bool false]) w := run_typeAssert_lacksB Tryz.underlying218 (by kernel_rfl) (by kernel_rfl) v xT w
theorem noUnwrap (v : Value) (xT : TypeId) (w : World) : (Instr.typeAssert (.iface 47 v) xT 221 true).run Tryz.prog w = .ok (.tuple #[.nilIface, .bool false]) w := run_typeAssert_lacksB Tryz.underlying221 (by kernel_rfl) (by kernel_rfl) v xT w
theorem noUnwraps (v : Value) (xT : TypeId) (w : World) : (Instr.typeAssert (.iface 47 v) xT 223 true).run Tryz.prog w = .ok (.tuple #[.nilIface, .bool false]) w := run_typeAssert_lacksB Tryz.underlying223 (by kernel_rfl) (by kernel_rfl) v xT w

/-- '==' between two Errnos that are held as errors. -/
theorem eql_errno (a b : Int) (w : World) : (binOp .eql 188 (.iface 47 (.int .i64 a)) (.iface 47 (.int .i64 b))).run Tryz.prog w = .ok (.bool (a == b)) w := by
  obtain ⟨i, hi, hcmp⟩ := Option.map_eq_some_iff.1 isComp
  have deep : ∀ d : Nat, (Op.equalIn (d + 2) 188 (.iface 47 (.int .i64 a)) (.iface 47 (.int .i64 b))).run Tryz.prog w = .ok (a == b) w := fun d => by
    simp [Op.equalIn, run_underlying Tryz.underlying188, run_underlying Tryz.underlying47, typeInfo, hi, hcmp]
  have h := deep 9998
  simp only [binOp]
  simp [Op.equal, Op.maxDepth, h]

set_option maxHeartbeats 400000 in
theorem is_true (a : Int) (w : World) :
    Calls Tryz.prog 103 #[.iface 47 (.int .i64 a), .iface 47 (.int .i64 a)] w fun e w' => e = .returned (.bool true) ∧ w = w' := by
  have tT := isTypeOf
  have cT := isComparable
  have mT := isMethod
  have hq := eql_errno a a
  simp only [beq_self_eq_true] at hq
  go_enter Tryz.func103, Tryz.ntmps103
  go_wp2
  refine wp_loop_rounds 1 ?_
  rw [rounds_succ]
  go_wp2
  go_ret
  exact ⟨rfl, rfl⟩

set_option maxHeartbeats 400000 in
theorem is_false (a b : Int) (w : World) (hab : a ≠ b) :
    Calls Tryz.prog 103 #[.iface 47 (.int .i64 a), .iface 47 (.int .i64 b)] w fun e w' => e = .returned (.bool false) ∧ w = w' := by
  have tT := isTypeOf
  have cT := isComparable
  have mT := isMethod
  have hq := eql_errno a b
  rw [show (a == b) = false from by simpa using hab] at hq
  have n1 := noIs
  have n2 := noUnwrap
  have n3 := noUnwraps
  clear hab
  go_enter Tryz.func103, Tryz.ntmps103
  go_wp2
  refine wp_loop_rounds 1 ?_
  rw [rounds_succ]
  go_wp2
  go_ret
  exact ⟨rfl, rfl⟩
end Go.Proofs.YtbcldknecdbemaaGreatDoor

/-
  Contracts of hexa.digit and hexa.pair: a byte that is a digit gives its number, two digits give their byte; else ErrForm. Memory is left as it was. Condition: the arguments are bytes.
-/
namespace Go.Proofs.YtbcldknecdbemaaGreatDoor.Hx
open Go.RowKit
set_option linter.unusedVariables false
set_option maxRecDepth 20000

/-- A digit's number. -/
def digN (n : Nat) : Option Nat := if 48 ≤ n ∧ n ≤ 57 then some (n - 48) else if 97 ≤ n ∧ n ≤ 102 then some (n - 87) else none
theorem digN_lt {n d : Nat} (h : digN n = some d) : d < 16 := by
  unfold digN at h
  split at h
  · injection h with h; omega
  · split at h
    · injection h with h; omega
    · cases h

theorem tup2 {k : IntKind} {a b : Int} {c : Value} (h : a = b) : Ending.returned (.tuple #[.int k a, c]) = .returned (.tuple #[.int k b, c]) := by rw [h]

set_option maxHeartbeats 400000 in
theorem digit_yes (n d : Nat) (w : World) (h : digN n = some d) :
    Calls Tryz.prog 176 #[.int .u8 (n : Int)] w fun e w' => e = .returned (.tuple #[.int .u8 (d : Int), .int .i64 0]) ∧ w = w' := by
  unfold digN at h
  split at h
  · rename_i hn
    obtain ⟨h1, h2⟩ := hn
    obtain ⟨m, rfl⟩ : ∃ m, n = 48 + m := ⟨n - 48, by omega⟩
    obtain rfl : d = m := by injection h with h; omega
    clear h
    go_enter Tryz.func176, Tryz.ntmps176
    go_wp2
    go_ret2
    exact ⟨tup2 (by omega), rfl⟩
  · split at h
    · rename_i hn
      obtain ⟨h1, h2⟩ := hn
      obtain ⟨m, rfl⟩ : ∃ m, n = 87 + m := ⟨n - 87, by omega⟩
      obtain rfl : d = m := by injection h with h; omega
      clear h
      go_enter Tryz.func176, Tryz.ntmps176
      go_wp2
      go_ret2
      exact ⟨tup2 (by omega), rfl⟩
    · cases h

set_option maxHeartbeats 400000 in
theorem digit_no (n : Nat) (w : World) (h : digN n = none) :
    Calls Tryz.prog 176 #[.int .u8 (n : Int)] w fun e w' => e = .returned (.tuple #[.int .u8 0, .int .i64 2]) ∧ w = w' := by
  unfold digN at h
  split at h
  · cases h
  · split at h
    · cases h
    · rename_i g1 g2
      clear h
      by_cases h1 : n < 48
      · clear g1 g2
        go_enter Tryz.func176, Tryz.ntmps176
        go_wp2
        go_ret2
        exact ⟨rfl, rfl⟩
      · by_cases h2 : n < 97
        · have h3 : 57 < n := by omega
          have h4 : 48 ≤ n := by omega
          clear g1 g2 h1
          go_enter Tryz.func176, Tryz.ntmps176
          go_wp2
          go_ret2
          exact ⟨rfl, rfl⟩
        · have h3 : 102 < n := by omega
          clear g1 g2 h1 h2
          go_enter Tryz.func176, Tryz.ntmps176
          go_wp2
          go_ret2
          exact ⟨rfl, rfl⟩

theorem or16 : ∀ h : Fin 16, ∀ l : Fin 16, bits .or .u8 ((h.val : Int) * 16) (l.val : Int) = ((16 * h.val + l.val : Nat) : Int) := by decide +kernel

/-- Two digits' byte. -/
def pairN (a b : Nat) : Option Nat := match digN a, digN b with
  | some h, some l => some (16 * h + l)
  | _, _ => none

set_option maxHeartbeats 800000 in
theorem pair_yes (a b d : Nat) (w : World) (h : pairN a b = some d) :
    Calls Tryz.prog 162 #[.int .u8 (a : Int), .int .u8 (b : Int)] w fun e w' => e = .returned (.tuple #[.int .u8 (d : Int), .int .i64 0]) ∧ w = w' := by
  unfold pairN at h
  split at h
  · rename_i x y hx hy
    obtain rfl : 16 * x + y = d := by injection h
    clear h
    have HX := Lib.hid hx
    have HY := Lib.hid hy
    have hor : bits .or .u8 ((x : Int) * 16) (y : Int) = ((16 * x + y : Nat) : Int) := or16 ⟨x, digN_lt hx⟩ ⟨y, digN_lt hy⟩
    have HOR := Lib.hid hor
    clear hor
    have hx' := digN_lt hx
    have hy' := digN_lt hy
    clear hx hy
    go_enter Tryz.func162, Tryz.ntmps162
    go_wp2_with fail
    refine (digit_yes a x _ HX.out).mono ?_
    rintro e w' ⟨rfl, rfl⟩
    go_wp2_with fail
    refine (is_false 0 2 _ (by omega)).mono ?_
    rintro e w' ⟨rfl, rfl⟩
    go_wp2_with fail
    refine (digit_yes b y _ HY.out).mono ?_
    rintro e w' ⟨rfl, rfl⟩
    go_wp2_with fail
    refine (is_false 0 2 _ (by omega)).mono ?_
    rintro e w' ⟨rfl, rfl⟩
    go_wp2_with fail
    go_ret2
    exact ⟨tup2 HOR.out, rfl⟩
  · cases h

set_option maxHeartbeats 800000 in
theorem pair_no (a b : Nat) (w : World) (h : pairN a b = none) :
    Calls Tryz.prog 162 #[.int .u8 (a : Int), .int .u8 (b : Int)] w fun e w' => e = .returned (.tuple #[.int .u8 0, .int .i64 2]) ∧ w = w' := by
  cases ha : digN a with
  | none =>
    have HA := Lib.hid ha
    clear ha h
    go_enter Tryz.func162, Tryz.ntmps162
    go_wp2_with fail
    refine (digit_no a _ HA.out).mono ?_
    rintro e w' ⟨rfl, rfl⟩
    go_wp2_with fail
    refine (is_true 2 _).mono ?_
    rintro e w' ⟨rfl, rfl⟩
    go_wp2_with fail
    go_ret2
    exact ⟨rfl, rfl⟩
  | some x =>
    cases hb : digN b with
    | some y => simp [pairN, ha, hb] at h
    | none =>
      have HA := Lib.hid ha
      have HB := Lib.hid hb
      clear ha hb h
      go_enter Tryz.func162, Tryz.ntmps162
      go_wp2_with fail
      refine (digit_yes a x _ HA.out).mono ?_
      rintro e w' ⟨rfl, rfl⟩
      go_wp2_with fail
      refine (is_false 0 2 _ (by omega)).mono ?_
      rintro e w' ⟨rfl, rfl⟩
      go_wp2_with fail
      refine (digit_no b _ HB.out).mono ?_
      rintro e w' ⟨rfl, rfl⟩
      go_wp2_with fail
      refine (is_true 2 _).mono ?_
      rintro e w' ⟨rfl, rfl⟩
      go_wp2_with fail
      go_ret2
      exact ⟨rfl, rfl⟩
theorem pairN_lt {a b d : Nat} (h : pairN a b = some d) : d < 256 := by
  unfold pairN at h
  split at h
  · rename_i x y hx hy
    have := digN_lt hx
    have := digN_lt hy
    injection h with h
    omega
  · cases h
end Go.Proofs.YtbcldknecdbemaaGreatDoor.Hx

/-
  Contract of hexa.Parse: the bytes whose digits the text is, in new memory, and OK; or none, and ErrForm. Condition: the text has at most a million bytes.
-/
namespace Go.Proofs.YtbcldknecdbemaaGreatDoor.Hx
open Go.RowKit
set_option linter.unusedVariables false
set_option maxRecDepth 20000

/-- The byte of the k-th two digits. -/
def pairAt (s : List UInt8) (k : Nat) : Option UInt8 := (pairN (s.getD (2 * k) 0).toNat (s.getD (2 * k + 1) 0).toNat).map UInt8.ofNat
def pref (s : List UInt8) : Nat → Option (List UInt8)
  | 0 => some []
  | k + 1 => match pref s k, pairAt s k with
    | some l, some c => some (l ++ [c])
    | _, _ => none
/-- The bytes of digits, if they are digits. -/
def unhex (s : List UInt8) : Option (List UInt8) := if s.length % 2 = 1 then none else pref s (s.length / 2)

theorem pref_length {s : List UInt8} : ∀ {k : Nat} {l : List UInt8}, pref s k = some l → l.length = k
  | 0, l, h => by simp [pref] at h; subst h; rfl
  | k + 1, l, h => by
    simp only [pref] at h
    split at h
    · rename_i l' c hl hc
      injection h with h
      subst h
      simp [pref_length hl]
    · cases h
theorem pref_none {s : List UInt8} {k : Nat} (h : pref s k = none) : ∀ j, pref s (k + j) = none
  | 0 => h
  | j + 1 => by
    have := pref_none h j
    show pref s (k + j + 1) = none
    simp only [pref, this]
theorem pref_none_le {s : List UInt8} {k m : Nat} (h : pref s k = none) (hk : k ≤ m) : pref s m = none := by
  have := pref_none h (m - k)
  rwa [show k + (m - k) = m from by omega] at this
theorem row_set (l : List UInt8) (c : UInt8) (k m : Nat) (z : Value) (hl : l.length = k) (hk : k < m) :
    (l.map bv ++ List.replicate (m - k) z).set k (bv c) = (l ++ [c]).map bv ++ List.replicate (m - (k + 1)) z := by
  rw [List.set_append, if_neg (by simp; omega)]
  have e : m - k = (m - (k + 1)) + 1 := by omega
  rw [e, List.replicate_succ]
  simp [hl]

theorem made_bytes (m : Nat) : (madeCells (Value.int .u8 0).cells (m * 1)).toList = List.replicate m (.int .u8 0) := by
  apply List.ext_getElem
  · simp [madeCells]
  · intro j h1 h2
    simp [madeCells, Value.cells, Nat.mod_one]

def ParseRes (w : World) (r : Option (List UInt8)) (e : Ending) (w' : World) : Prop :=
  Below w.heap.size w w' ∧ match r with
    | some l => ∃ v, e = .returned (.tuple #[v, .int .i64 0]) ∧ w'.ownsRow w.heap.size 5 1 v l.length (l.map bv)
    | none => e = .returned (.tuple #[.slice none 0 0, .int .i64 2])

theorem at_run (s : List UInt8) (j : Nat) (hj : j < s.length) (i : Int) (hi : i = (j : Int)) (w : World) : (Instr.index 9 (.string ⟨s.toArray⟩) (.int .i64 i)).run Tryz.prog w = .ok (.int .u8 ((s.getD j 0).toNat : Int)) w := by
  subst hi
  have hs : (⟨s.toArray⟩ : ByteArray).size = s.length := by show s.toArray.size = _; simp
  rw [run_index_string w 9 _ .i64 j Tryz.underlying9, dif_pos ⟨by omega, by rw [hs]; omega⟩]
  simp only [Int.toNat_natCast]
  have : (⟨s.toArray⟩ : ByteArray)[j] = s.getD j 0 := by
    show s.toArray[j] = _
    simp [List.getD, List.getElem?_eq_getElem hj]
  rw [this]

set_option maxHeartbeats 1000000 in
theorem parse_any (s : List UInt8) (w : World) (hs : s.length ≤ 1000000) :
    Calls Tryz.prog 129 #[.string ⟨s.toArray⟩] w (ParseRes w (unhex s)) := by
  obtain ⟨i0, hi0, hz0, hz1, hz2⟩ := info_parts byte_info
  by_cases hodd : s.length % 2 = 1
  · have hr : unhex s = none := by simp [unhex, hodd]
    rw [hr]
    have o1 : ((s.length : Int) % 2 == 0) = false := by simp; omega
    have o2 : ((s.length : Int) % 2 != 0) = true := by simp; omega
    clear hodd hr
    go_enter Tryz.func129, Tryz.ntmps129
    go_wp2
    go_ret2
    exact ⟨Below.refl _ _, rfl⟩
  · obtain ⟨m, hm⟩ : ∃ m, s.length = 2 * m := ⟨s.length / 2, by omega⟩
    have hr : unhex s = pref s m := by
      unfold unhex
      rw [if_neg hodd, hm]
      congr 1
      omega
    rw [hr]
    have o1 : ((s.length : Int) % 2 == 0) = true := by simp; omega
    have o2 : ((s.length : Int) % 2 != 0) = false := by simp; omega
    have o3 : (s.length : Int) / 2 = m := by omega
    have hm2 : m ≤ 500000 := by omega
    have HM := Lib.hid hm
    clear hodd hr hm
    go_enter Tryz.func129, Tryz.ntmps129
    go_wp2_with (at_make; refine wpList_make_full _ rfl _ _ _ rfl w.heap.size 5 i0 _ 1 Tryz.underlying27 hi0 hz0 hz1 .i64 .i64 _ _ m rfl rfl (by omega) (by omega) (by rw [hz2]; omega) (by unfold maxLen; omega) (Nat.le_refl _) ?_; intro w1 hown hg)
    rw [made_bytes] at hown
    go_loopw [5, 6, 7, 18] (fun _ _ _ i wr => ∃ (k : Nat) (l : List UInt8), k ≤ m ∧ i = .int .i64 k ∧ pref s k = some l ∧ wr.ownsRow w.heap.size 5 1 (.slice (some ⟨w.heap.size, 0, none⟩) m m) m (l.map bv ++ List.replicate (m - k) (.int .u8 0)) ∧ Below w.heap.size w wr) (fun _ _ _ i _ => m - (intOf i).toNat)
    case atStart => exact ⟨0, [], Nat.zero_le _, rfl, rfl, by simpa using hown, (Below.refl _ _).grown hg (Nat.le_refl _) (by simp)⟩
    case round =>
      clear hown hg
      obtain ⟨k, l, hk, rfl, hpref, hown, hbel⟩ := hrel
      have HP := Lib.hid hpref
      clear hpref
      by_cases hlt : k < m
      · have r0 := at_run s (2 * k) (by rw [HM.out]; omega) (2 * (k : Int)) (by omega)
        have r1 := at_run s (2 * k + 1) (by rw [HM.out]; omega) (2 * (k : Int) + 1) (by omega)
        cases hpa : pairN (s.getD (2 * k) 0).toNat (s.getD (2 * k + 1) 0).toNat with
        | none =>
          have hfin : pref s m = none := pref_none_le (k := k + 1) (by simp only [pref, HP.out, pairAt, hpa]; rfl) (by omega)
          have HF := Lib.hid hfin
          have HA := Lib.hid hpa
          clear hfin hpa
          generalize (s.getD (2 * k) 0).toNat = c0 at *
          generalize (s.getD (2 * k + 1) 0).toNat = c1 at *
          go_wp2
          go_quiet ((go_at_call 162; exact Calls.quiet_of_same ((pair_no c0 c1 _ HA.out).mono fun _ _ h => ⟨h.1, h.2.symm⟩)))
          go_wp2_with fail
          refine (is_true 2 _).mono ?_
          rintro e w' ⟨rfl, rfl⟩
          go_wp2_with fail
          go_ret2
          rw [HF.out]
          exact ⟨below_draws hbel, rfl⟩
        | some d =>
          have hd := pairN_lt hpa
          have hnext : pref s (k + 1) = some (l ++ [UInt8.ofNat d]) := by simp only [pref, HP.out, pairAt, hpa]; rfl
          have HN := Lib.hid hnext
          have HA := Lib.hid hpa
          clear hnext hpa
          generalize (s.getD (2 * k) 0).toNat = c0 at *
          generalize (s.getD (2 * k + 1) 0).toNat = c1 at *
          have hll := pref_length HP.out
          have hcell : ∃ u, wr.cell? ⟨w.heap.size, k, none⟩ = some u := ⟨_, (hown.cellAt k (by omega)).trans (List.getElem?_eq_getElem (by have := hown.1; omega))⟩
          obtain ⟨u, hcell⟩ := hcell
          have hfz := hown.frozenAt k
          have HLL := Lib.hid hll
          clear hll
          go_wp2
          go_quiet ((go_at_call 162; exact Calls.quiet_of_same ((pair_yes c0 c1 d _ HA.out).mono fun _ _ h => ⟨h.1, h.2.symm⟩)))
          go_wp2_with fail
          refine (is_false 0 2 _ (by omega)).mono ?_
          rintro e w' ⟨rfl, rfl⟩
          go_wp2_with fail
          have ebd : Value.int .u8 (d : Int) = bv (UInt8.ofNat d) := by
            have : (UInt8.ofNat d).toNat = d := by simp; omega
            simp only [bv, this]
          rw [ebd]
          go_roundw
          case rel =>
            have hown2 : (wr.drewN nq).ownsRow w.heap.size 5 1 (.slice (some ⟨w.heap.size, 0, none⟩) m m) m (l.map bv ++ List.replicate (m - k) (.int .u8 0)) := hown
            have hst := (hown2.stored k (bv (UInt8.ofNat d))).1
            rw [row_set l _ k m _ HLL.out hlt] at hst
            exact ⟨k + 1, l ++ [UInt8.ofNat d], by omega, by go_num, HN.out, hst, (below_draws hbel).setCell (Nat.le_refl _) _⟩
          case measure => simp [intOf]; omega
      · obtain rfl : k = m := by omega
        go_wp2
        go_ret2
        rw [HP.out]
        refine ⟨hbel, _, rfl, ?_⟩
        rw [pref_length HP.out]
        simpa using hown
end Go.Proofs.YtbcldknecdbemaaGreatDoor.Hx

/-
  Contracts of the reference's Text, digit, Parse, Short and Around (layer 1): they compute what the functions hexOf, digN, unhex, take, and a remainder say. Condition: at most a million bytes.
-/
namespace Go.Proofs.YtbcldknecdbemaaGreatDoor.Hx
open Go.RowKit
set_option linter.unusedVariables false
set_option maxRecDepth 20000

theorem ret_int {k : IntKind} {a b : Int} (h : a = b) : Ending.returned (.int k a) = .returned (.int k b) := by rw [h]
theorem cut_dig : ∀ k : Fin 16, ((⟨#[48, 49, 50, 51, 52, 53, 54, 55, 56, 57, 97, 98, 99, 100, 101, 102]⟩ : ByteArray).extract k.val (k.val + 1)).data.toList = [hexD k.val] := by decide +kernel
theorem cut_one (k : Nat) (hk : k < 16) (X Y : Int) (hX : X = (k : Int)) (hY : Y = (k : Int) + 1) (w : World) :
    (Instr.slice 9 (.string ⟨#[48, 49, 50, 51, 52, 53, 54, 55, 56, 57, 97, 98, 99, 100, 101, 102]⟩) (some (.int .i64 X)) (some (.int .i64 Y)) none).run Tryz.prog w = .ok (.string ⟨[hexD k].toArray⟩) w := by
  subst hX hY
  have hs : (⟨#[48, 49, 50, 51, 52, 53, 54, 55, 56, 57, 97, 98, 99, 100, 101, 102]⟩ : ByteArray).size = 16 := rfl
  rw [run_slice_string w 9 _ .i64 .i64 (k : Int) ((k : Int) + 1) Tryz.underlying9 (by omega) (by omega) (by rw [hs]; omega)]
  have h := cut_dig ⟨k, hk⟩
  have e : ((k : Int) + 1).toNat = k + 1 := by omega
  rw [Int.toNat_natCast, e, ← h]

set_option maxHeartbeats 1000000 in
theorem rtext_any (A : Option Addr) (n c : Nat) (bs : List UInt8) (w : World) (hl : bs.length = n) (hr : Lies w w.heap.size A (bs.map bv)) (hc : n ≤ 1000000) :
    Calls Tryz.prog 122 #[.slice A n c] w fun e w' => e = .returned (.string ⟨(hexOf bs).toArray⟩) ∧ Below w.heap.size w w' := by
  have HL := Lib.hid hl
  clear hl
  go_enter Tryz.func122, Tryz.ntmps122
  go_wp2
  go_loopw [4, 5, 6, 7] (fun s i _ _ wr => ∃ k : Nat, k ≤ n ∧ i = .int .i64 k ∧ s = .string ⟨(hexOf (bs.take k)).toArray⟩ ∧ Below w.heap.size w wr) (fun _ i _ _ _ => n - (intOf i).toNat)
  case atStart => exact ⟨0, Nat.zero_le _, rfl, rfl, Below.refl _ _⟩
  case round =>
    obtain ⟨k, hk, rfl, rfl, hbel⟩ := hrel
    by_cases hlt : k < n
    · obtain ⟨b, hb⟩ : ∃ b, bs[k]? = some b := ⟨_, List.getElem?_eq_getElem (by rw [HL.out]; exact hlt)⟩
      obtain ⟨ad, rfl, hadB, hcell⟩ := hr.at_ (j := k) (u := bv b) (by rw [List.getElem?_map, hb]; rfl)
      have hcl : wr.cell? (ad.add k) = some (bv b) := by rw [hbel.cell (by rw [add_block]; exact hadB)]; exact hcell
      clear hcell
      have hlen : (hexOf (bs.take k)).length = 2 * k := by rw [hexOf_length, List.length_take, HL.out]; omega
      have hnx := hexOf_take bs k b hb
      have HB := Lib.hid hnx
      have bl := b.toNat_lt
      have c1 := run_cat (P := Tryz.prog) (hexOf (bs.take k)) [hexD (b.toNat / 16)] (by rw [hlen]; simp; omega)
      have c2 := run_cat (P := Tryz.prog) (hexOf (bs.take k) ++ [hexD (b.toNat / 16)]) [hexD (b.toNat % 16)] (by simp [hlen]; omega)
      have s1 := cut_one (b.toNat / 16) (by omega) ((b.toNat : Int) / 16) ((b.toNat : Int) / 16 + 1) (by omega) (by omega)
      have s2 := cut_one (b.toNat % 16) (by omega) ((b.toNat : Int) % 16) ((b.toNat : Int) % 16 + 1) (by omega) (by omega)
      clear hlen hnx hb
      generalize hexOf (bs.take k) = t at *
      generalize hexD (b.toNat / 16) = d1 at *
      generalize hexD (b.toNat % 16) = d2 at *
      go_wp2
      go_quiet (fail)
      go_wp2
      go_roundw
      case rel => exact ⟨k + 1, by omega, by go_num, by rw [HB.out], below_draws hbel⟩
      case measure => simp [intOf]; omega
    · obtain rfl : k = n := by omega
      go_wp2
      go_ret
      rw [List.take_of_length_le (by rw [HL.out]; omega)]
      exact ⟨rfl, hbel⟩

set_option maxHeartbeats 400000 in
theorem rdigit_yes (n d : Nat) (w : World) (h : digN n = some d) :
    Calls Tryz.prog 131 #[.int .u8 (n : Int)] w fun e w' => e = .returned (.int .i64 (d : Int)) ∧ w = w' := by
  unfold digN at h
  split at h
  · rename_i hn
    obtain ⟨h1, h2⟩ := hn
    obtain ⟨m, rfl⟩ : ∃ m, n = 48 + m := ⟨n - 48, by omega⟩
    obtain rfl : d = m := by injection h with h; omega
    clear h
    go_enter Tryz.func131, Tryz.ntmps131
    go_wp2
    go_ret
    exact ⟨ret_int (by omega), rfl⟩
  · split at h
    · rename_i hn
      obtain ⟨h1, h2⟩ := hn
      obtain ⟨m, rfl⟩ : ∃ m, n = 87 + m := ⟨n - 87, by omega⟩
      obtain rfl : d = m := by injection h with h; omega
      clear h
      go_enter Tryz.func131, Tryz.ntmps131
      go_wp2
      go_ret
      exact ⟨ret_int (by omega), rfl⟩
    · cases h

set_option maxHeartbeats 400000 in
theorem rdigit_no (n : Nat) (w : World) (h : digN n = none) :
    Calls Tryz.prog 131 #[.int .u8 (n : Int)] w fun e w' => e = .returned (.int .i64 (-1)) ∧ w = w' := by
  unfold digN at h
  split at h
  · cases h
  · split at h
    · cases h
    · rename_i g1 g2
      clear h
      by_cases h1 : n < 48
      · clear g1 g2
        go_enter Tryz.func131, Tryz.ntmps131
        go_wp2
        go_ret
        exact ⟨rfl, rfl⟩
      · by_cases h2 : n < 97
        · have h3 : 57 < n := by omega
          have h4 : 48 ≤ n := by omega
          clear g1 g2 h1
          go_enter Tryz.func131, Tryz.ntmps131
          go_wp2
          go_ret
          exact ⟨rfl, rfl⟩
        · have h3 : 102 < n := by omega
          clear g1 g2 h1 h2
          go_enter Tryz.func131, Tryz.ntmps131
          go_wp2
          go_ret
          exact ⟨rfl, rfl⟩

theorem extract_take (s : List UInt8) (m : Nat) : (⟨s.toArray⟩ : ByteArray).extract 0 m = ⟨(s.take m).toArray⟩ := by
  apply ByteArray.ext
  simp [ByteArray.data_extract]

set_option maxHeartbeats 400000 in
theorem short_any (s : List UInt8) (m : Nat) (w : World) (hs : s.length ≤ maxLen) (hm : m ≤ 1000000) :
    Calls Tryz.prog 51 #[.string ⟨s.toArray⟩, .int .i64 (m : Int)] w fun e w' => e = .returned (.string ⟨(s.take m).toArray⟩) ∧ w = w' := by
  unfold maxLen at hs
  by_cases h : m < s.length
  · have hx := extract_take s m
    go_enter Tryz.func51, Tryz.ntmps51
    go_wp2
    go_ret
    exact ⟨rfl, rfl⟩
  · rw [List.take_of_length_le (by omega)]
    go_enter Tryz.func51, Tryz.ntmps51
    go_wp2
    go_ret
    exact ⟨rfl, rfl⟩

/-- What Around answers. -/
def around (n : Int) (m : Nat) : Nat := ((if n < 0 then -(n + 1) else n) % (m : Int)).toNat
theorem around_lt (n : Int) {m : Nat} (h : 0 < m) : around n m < m := by
  unfold around
  have h1 := Int.emod_lt_of_pos (if n < 0 then -(n + 1) else n) (show (0 : Int) < (m : Int) by omega)
  have h2 := Int.emod_nonneg (if n < 0 then -(n + 1) else n) (show (m : Int) ≠ 0 by omega)
  omega

set_option maxHeartbeats 400000 in
theorem around_any (n : Int) (m : Nat) (w : World) (hn : -9223372036854775808 ≤ n ∧ n ≤ 9223372036854775807) (hm : 0 < m ∧ m ≤ 1000000) :
    Calls Tryz.prog 9 #[.int .i64 n, .int .i64 (m : Int)] w fun e w' => e = .returned (.int .i64 (around n m : Int)) ∧ w = w' := by
  obtain ⟨n1, n2⟩ := hn
  obtain ⟨m1, m2⟩ := hm
  have hz : ((m : Int) == 0) = false := by simp; omega
  by_cases h : n < 0
  · have hr : (around n m : Int) = (-(n + 1)) % (m : Int) := by
      unfold around
      rw [if_pos h]
      have h2 := Int.emod_nonneg (-(n + 1)) (show (m : Int) ≠ 0 by omega)
      omega
    rw [hr]
    clear hr
    go_enter Tryz.func9, Tryz.ntmps9
    go_wp2
    go_ret
    exact ⟨ret_int (by rw [← Int.neg_tmod, Int.tmod_eq_emod_of_nonneg (by omega)]), rfl⟩
  · have hr : (around n m : Int) = n % (m : Int) := by
      unfold around
      rw [if_neg h]
      have h2 := Int.emod_nonneg n (show (m : Int) ≠ 0 by omega)
      omega
    rw [hr]
    clear hr
    go_enter Tryz.func9, Tryz.ntmps9
    go_wp2
    go_ret
    exact ⟨rfl, rfl⟩

set_option maxHeartbeats 1000000 in
theorem rparse_any (s : List UInt8) (w : World) (hs : s.length ≤ 1000000) :
    Calls Tryz.prog 90 #[.string ⟨s.toArray⟩] w (ParseRes w (unhex s)) := by
  obtain ⟨i0, hi0, hz0, hz1, hz2⟩ := info_parts byte_info
  by_cases hodd : s.length % 2 = 1
  · have hr : unhex s = none := by simp [unhex, hodd]
    rw [hr]
    have o1 : ((s.length : Int) % 2 == 1) = true := by simp; omega
    clear hodd hr
    go_enter Tryz.func90, Tryz.ntmps90
    go_wp2
    go_ret2
    exact ⟨Below.refl _ _, rfl⟩
  · obtain ⟨m, hm⟩ : ∃ m, s.length = 2 * m := ⟨s.length / 2, by omega⟩
    have hr : unhex s = pref s m := by
      unfold unhex
      rw [if_neg hodd, hm]
      congr 1
      omega
    rw [hr]
    have o1 : ((s.length : Int) % 2 == 1) = false := by simp; omega
    have HM := Lib.hid hm
    have hm1 : s.length ≤ 2 * m := by omega
    have hm2 : 2 * m ≤ s.length := by omega
    clear hodd hr hm
    go_enter Tryz.func90, Tryz.ntmps90
    go_wp2
    go_loopw [4, 5, 6, 7] (fun v i _ _ wr => ∃ (k : Nat) (l : List UInt8), k ≤ m ∧ i = .int .i64 (2 * (k : Int)) ∧ pref s k = some l ∧ wr.ownsRow w.heap.size 5 1 v k (l.map bv) ∧ Below w.heap.size w wr) (fun _ i _ _ _ => 2 * m - (intOf i).toNat)
    case atStart => exact ⟨0, [], Nat.zero_le _, rfl, rfl, World.ownsRow_nil _ _ _ _, Below.refl _ _⟩
    case round =>
      obtain ⟨k, l, hk, rfl, hpref, hown, hbel⟩ := hrel
      have HP := Lib.hid hpref
      clear hpref
      by_cases hlt : k < m
      · have r0 := at_run s (2 * k) (by rw [HM.out]; omega) (2 * (k : Int)) (by omega)
        have r1 := at_run s (2 * k + 1) (by rw [HM.out]; omega) (2 * (k : Int) + 1) (by omega)
        have hnext : pref s (k + 1) = match pairN (s.getD (2 * k) 0).toNat (s.getD (2 * k + 1) 0).toNat with | some d => some (l ++ [UInt8.ofNat d]) | none => none := by
          simp only [pref, HP.out, pairAt]
          cases pairN (s.getD (2 * k) 0).toNat (s.getD (2 * k + 1) 0).toNat <;> rfl
        have HN := Lib.hid hnext
        clear hnext
        generalize (s.getD (2 * k) 0).toNat = c0 at *
        generalize (s.getD (2 * k + 1) 0).toNat = c1 at *
        cases ha : digN c0 with
        | none =>
          have HF := Lib.hid (pref_none_le (k := k + 1) (m := m) (by rw [HN.out]; simp [pairN, ha]) (by omega))
          have HA := Lib.hid ha
          clear ha
          cases hb : digN c1 with
          | none =>
            have HB := Lib.hid hb
            clear hb
            go_wp2_with fail
            refine (rdigit_no c0 _ HA.out).mono ?_
            rintro e w' ⟨rfl, rfl⟩
            go_wp2_with fail
            refine (rdigit_no c1 _ HB.out).mono ?_
            rintro e w' ⟨rfl, rfl⟩
            go_wp2_with fail
            go_ret2
            rw [HF.out]
            exact ⟨hbel, rfl⟩
          | some y =>
            have HB := Lib.hid hb
            clear hb
            go_wp2_with fail
            refine (rdigit_no c0 _ HA.out).mono ?_
            rintro e w' ⟨rfl, rfl⟩
            go_wp2_with fail
            refine (rdigit_yes c1 y _ HB.out).mono ?_
            rintro e w' ⟨rfl, rfl⟩
            go_wp2_with fail
            go_ret2
            rw [HF.out]
            exact ⟨hbel, rfl⟩
        | some x =>
          have HA := Lib.hid ha
          cases hb : digN c1 with
          | none =>
            have HF := Lib.hid (pref_none_le (k := k + 1) (m := m) (by rw [HN.out]; simp [pairN, ha, hb]) (by omega))
            have HB := Lib.hid hb
            clear ha hb
            have x0 : ((x : Int) < 0) = False := by simp
            go_wp2_with fail
            refine (rdigit_yes c0 x _ HA.out).mono ?_
            rintro e w' ⟨rfl, rfl⟩
            go_wp2_with fail
            refine (rdigit_no c1 _ HB.out).mono ?_
            rintro e w' ⟨rfl, rfl⟩
            go_wp2_with fail
            go_ret2
            rw [HF.out]
            exact ⟨hbel, rfl⟩
          | some y =>
            have hx := digN_lt ha
            have hy := digN_lt hb
            have HN2 : Hid (pref s (k + 1) = some (l ++ [UInt8.ofNat (16 * x + y)])) := by
              show pref s (k + 1) = _
              rw [HN.out]
              simp [pairN, ha, hb]
            have HB := Lib.hid hb
            clear ha hb
            go_wp2_with fail
            refine (rdigit_yes c0 x _ HA.out).mono ?_
            rintro e w' ⟨rfl, rfl⟩
            go_wp2_with fail
            refine (rdigit_yes c1 y _ HB.out).mono ?_
            rintro e w' ⟨rfl, rfl⟩
            have ebd : bv (UInt8.ofNat (16 * x + y)) = Value.int .u8 (16 * (x : Int) + (y : Int)) := by
              have : (UInt8.ofNat (16 * x + y)).toNat = 16 * x + y := by simp; omega
              simp only [bv, this]
              congr 1
            have hnew := Lies.new wr 5 [Value.int .u8 (16 * (x : Int) + (y : Int))]
            go_wp2_with (at_builtin; refine wpList_append_src _ rfl (.tmp 34) (.tmp 40) _ rfl w.heap.size 5 i0 _ 1 Tryz.underlying27 hi0 hz0 hz1 hz2 rfl u4 k _ rfl (hown.alloc _) _ _ 1 1 [Value.int .u8 (16 * (x : Int) + (y : Int))] rfl rfl hnew (by simp [Value.oneCell']) (by unfold maxLen; omega) (by omega) (by have := hbel.size; simp; omega) ?_; intro v' w' hown' hg' hat')
            have hb2 : Below w.heap.size w w' := (hbel.alloc hbel.size _).grown hg' (by have := hbel.size; simp; omega) (own_ge hown)
            rw [← ebd, show [bv (UInt8.ofNat (16 * x + y))] = [UInt8.ofNat (16 * x + y)].map bv from rfl, ← List.map_append] at hown'
            go_roundw
            case rel => exact ⟨k + 1, l ++ [UInt8.ofNat (16 * x + y)], by omega, by go_num, HN2.out, hown', hb2⟩
            case measure => simp [intOf]; omega
      · obtain rfl : k = m := by omega
        go_wp2
        go_ret2
        rw [HP.out]
        refine ⟨hbel, _, rfl, ?_⟩
        rw [pref_length HP.out]
        exact hown
end Go.Proofs.YtbcldknecdbemaaGreatDoor.Hx

/-
  Contracts of hexa.Compare, hexa.Less and the reference's Compare: byte by byte, -1, 0 or 1. Condition: both digests are 32 bytes.
-/
namespace Go.Proofs.YtbcldknecdbemaaGreatDoor.Hx
open Go.RowKit
set_option linter.unusedVariables false
set_option maxRecDepth 20000

/-- How two rows of bytes stand. -/
def cmpB : List UInt8 → List UInt8 → Int
  | x :: xs, y :: ys => if x.toNat < y.toNat then -1 else if y.toNat < x.toNat then 1 else cmpB xs ys
  | _, _ => 0

theorem cmpB_drop (a b : List UInt8) : ∀ k, k ≤ a.length → k ≤ b.length → (∀ j, j < k → a[j]? = b[j]?) → cmpB a b = cmpB (a.drop k) (b.drop k) := by
  intro k
  induction k generalizing a b with
  | zero => intros; rfl
  | succ k ih =>
    intro ha hb h
    match a, b, ha, hb with
    | x :: xs, y :: ys, ha, hb =>
      have h0 := h 0 (by omega)
      simp at h0
      subst h0
      rw [cmpB, if_neg (by omega), if_neg (by omega)]
      exact ih xs ys (by simpa using ha) (by simpa using hb) (fun j hj => by simpa using h (j + 1) (by omega))
theorem cmpB_at (a b : List UInt8) (k : Nat) (x y : UInt8) (ha : a[k]? = some x) (hb : b[k]? = some y) (h : ∀ j, j < k → a[j]? = b[j]?) :
    cmpB a b = if x.toNat < y.toNat then -1 else if y.toNat < x.toNat then 1 else cmpB (a.drop (k + 1)) (b.drop (k + 1)) := by
  have la : k < a.length := by
    rcases Nat.lt_or_ge k a.length with h | h
    · exact h
    · rw [List.getElem?_eq_none h] at ha; cases ha
  have lb : k < b.length := by
    rcases Nat.lt_or_ge k b.length with h | h
    · exact h
    · rw [List.getElem?_eq_none h] at hb; cases hb
  rw [cmpB_drop a b k (by omega) (by omega) h, List.drop_eq_getElem_cons la, List.drop_eq_getElem_cons lb, cmpB]
  rw [List.getElem?_eq_getElem la] at ha
  rw [List.getElem?_eq_getElem lb] at hb
  injection ha with ha
  injection hb with hb
  rw [ha, hb]

theorem mix_set (la lb : List UInt8) (k : Nat) (x : UInt8) (hx : la[k]? = some x) (hk : k < lb.length) : (la.take k ++ lb.drop k).set k x = la.take (k + 1) ++ lb.drop (k + 1) := by
  have hka : k < la.length := by
    rcases Nat.lt_or_ge k la.length with h | h
    · exact h
    · rw [List.getElem?_eq_none h] at hx; cases hx
  have hl : (la.take k).length = k := by rw [List.length_take]; omega
  rw [List.set_append_right _ _ (by omega), hl, Nat.sub_self, List.drop_eq_getElem_cons hk, List.set_cons_zero, List.take_add_one, hx]
  simp

theorem ret_i {k : IntKind} {a b : Int} (h : b = a) : Ending.returned (.int k a) = .returned (.int k b) := by rw [h]

set_option maxHeartbeats 1000000 in
theorem rcompare_any (la lb : List UInt8) (w : World) (ha : la.length = 32) (hb : lb.length = 32) :
    Calls Tryz.prog 92 #[dv la, dv lb] w fun e w' => e = .returned (.int .i64 (cmpB la lb)) ∧ Below w.heap.size w w' := by
  have HA := Lib.hid ha
  have HB := Lib.hid hb
  clear ha hb
  go_enter Tryz.func92, Tryz.ntmps92
  go_wp2
  have hg : Grows w ((w.alloc (.cells (la.map bv).toArray 46)).alloc (.cells (lb.map bv).toArray 46)) := ((Grows.refl w).alloc (Nat.le_refl _) _).alloc (by simp) _
  have hL0 := (Lies.new w 46 (la.map bv)).alloc_ (o := .cells (lb.map bv).toArray 46) (by simp)
  have hL1 := Lies.new (w.alloc (.cells (la.map bv).toArray 46)) 46 (lb.map bv)
  rw [World.size_alloc] at hL1
  have hsz : w.heap.size + 1 + 1 = ((w.alloc (.cells (la.map bv).toArray 46)).alloc (.cells (lb.map bv).toArray 46)).heap.size := by simp
  rw [hsz] at hL1
  have hL0' := hL0.mono (B' := ((w.alloc (.cells (la.map bv).toArray 46)).alloc (.cells (lb.map bv).toArray 46)).heap.size) (by simp)
  clear hsz hL0
  generalize (w.alloc (.cells (la.map bv).toArray 46)).alloc (.cells (lb.map bv).toArray 46) = w0 at *
  go_loopw [5] (fun i wr => ∃ k : Nat, k ≤ 32 ∧ i = .int .i64 k ∧ (∀ j, j < k → la[j]? = lb[j]?) ∧ Grows w0 wr) (fun i _ => 32 - (intOf i).toNat)
  case atStart => exact ⟨0, Nat.zero_le _, rfl, fun j hj => absurd hj (by omega), Grows.refl _⟩
  case round =>
    obtain ⟨k, hk, rfl, hsame, hgr⟩ := hrel
    have HS := Lib.hid hsame
    clear hsame
    by_cases hlt : k < 32
    · obtain ⟨x, hx⟩ : ∃ x, la[k]? = some x := ⟨_, List.getElem?_eq_getElem (by rw [HA.out]; exact hlt)⟩
      obtain ⟨y, hy⟩ : ∃ y, lb[k]? = some y := ⟨_, List.getElem?_eq_getElem (by rw [HB.out]; exact hlt)⟩
      have hcmp := cmpB_at la lb k x y hx hy HS.out
      obtain ⟨ad0, e0, _, cx⟩ := (hL0'.later hgr).at_ (j := k) (u := bv x) (by rw [List.getElem?_map, hx]; rfl)
      injection e0 with e0
      subst e0
      rw [add_plain, Nat.zero_add] at cx
      obtain ⟨ad1, e1, _, cy⟩ := (hL1.later hgr).at_ (j := k) (u := bv y) (by rw [List.getElem?_map, hy]; rfl)
      injection e1 with e1
      subst e1
      rw [add_plain, Nat.zero_add] at cy
      have HX := Lib.hid hx
      have HY := Lib.hid hy
      have HC := Lib.hid hcmp
      clear hx hy hcmp
      have k0 : (0 : Int) ≤ (k : Int) := Int.natCast_nonneg _
      have k1 : (k : Int) < 32 := by omega
      by_cases h1 : x.toNat < y.toNat
      · have d1 : decide (x.toNat < y.toNat) = true := by simpa using h1
        go_wp2
        go_quiet (fail)
        go_wp2
        go_ret
        refine ⟨ret_i (by rw [HC.out, if_pos h1]), grow_trans hg (below_draws hgr)⟩
      · have d1 : decide (x.toNat < y.toNat) = false := by simpa using h1
        by_cases h2 : y.toNat < x.toNat
        · have d2 : decide (y.toNat < x.toNat) = true := by simpa using h2
          go_wp2
          go_quiet (fail)
          go_wp2
          go_quiet (fail)
          go_wp2
          go_ret
          refine ⟨ret_i (by rw [HC.out, if_neg h1, if_pos h2]), grow_trans hg (below_draws (below_draws hgr))⟩
        · have d2 : decide (y.toNat < x.toNat) = false := by simpa using h2
          go_wp2
          go_quiet (fail)
          go_wp2
          go_quiet (fail)
          go_wp2
          go_roundw
          case rel =>
            refine ⟨k + 1, by omega, by go_num, fun j hj => ?_, below_draws hgr⟩
            by_cases hjk : j < k
            · exact HS.out j hjk
            · obtain rfl : j = k := by omega
              rw [HX.out, HY.out]
              congr 1
              exact UInt8.toNat_inj.1 (by omega)
          case measure => simp [intOf]; omega
    · obtain rfl : k = 32 := by omega
      go_wp2
      go_ret
      refine ⟨ret_i ?_, grow_trans hg hgr⟩
      rw [cmpB_drop la lb 32 (by rw [HA.out]; omega) (by rw [HB.out]; omega) HS.out, List.drop_of_length_le (by rw [HA.out]; omega)]
      rfl

theorem dig_size : (Tryz.prog.info? 46).map (·.size) = some 32 := by kernel_rfl
/-- A digest that lies there is read whole. -/
theorem load_dig {u : World} {B b : Nat} {l : List UInt8} (hl : l.length = 32) (h : Lies u B (some ⟨b, 0, none⟩) (l.map bv)) : (Instr.loadAt 46 (.pointer (some ⟨b, 0, none⟩))).run Tryz.prog u = .ok (dv l) u :=
  load_arr Tryz.underlying46 dig_size hl h
theorem eql_dig (la lb : List UInt8) (ha : la.length = 32) (hb : lb.length = 32) (w : World) : (binOp .eql 46 (dv la) (dv lb)).run Tryz.prog w = .ok (.bool (la == lb)) w :=
  run_eql_bytes w Tryz.underlying46 Tryz.underlying5 (by kernel_rfl) la lb ha hb
theorem neq_dig (la lb : List UInt8) (ha : la.length = 32) (hb : lb.length = 32) (w : World) : (binOp .neq 46 (dv la) (dv lb)).run Tryz.prog w = .ok (.bool (!(la == lb))) w :=
  run_neq_bytes w Tryz.underlying46 Tryz.underlying5 (by kernel_rfl) la lb ha hb
/-- Two boxes of digests. -/
theorem boxes {w : World} (la lb : List UInt8) : ∃ w0, w0 = (w.alloc (.cells (la.map bv).toArray 46)).alloc (.cells (lb.map bv).toArray 46) ∧ Grows w w0 ∧
    Lies w0 w0.heap.size (some ⟨w.heap.size, 0, none⟩) (la.map bv) ∧ Lies w0 w0.heap.size (some ⟨w.heap.size + 1, 0, none⟩) (lb.map bv) := by
  refine ⟨_, rfl, ((Grows.refl w).alloc (Nat.le_refl _) _).alloc (by simp) _, ?_, ?_⟩
  · exact ((Lies.new w 46 (la.map bv)).alloc_ (by simp)).mono (by simp)
  · have h := Lies.new (w.alloc (.cells (la.map bv).toArray 46)) 46 (lb.map bv)
    rw [World.size_alloc] at h
    exact h.mono (by simp)

end Go.Proofs.YtbcldknecdbemaaGreatDoor.Hx

/-
  Contract of hexa.Name: a digest's text is the digits of its bytes. Condition: 32 bytes.
-/
namespace Go.Proofs.YtbcldknecdbemaaGreatDoor.Hx
open Go.RowKit
set_option linter.unusedVariables false
set_option maxRecDepth 20000

set_option maxHeartbeats 400000 in
theorem name_any (l : List UInt8) (w : World) (hl : l.length = 32) :
    Calls Tryz.prog 53 #[dv l] w fun e w' => e = .returned (.string ⟨(hexOf l).toArray⟩) ∧ Below w.heap.size w w' := by
  have hL := Lies.new w 46 (l.map bv)
  have HL := Lib.hid hl
  clear hl
  go_enter Tryz.func53, Tryz.ntmps53
  go_wp2_with fail
  refine (text_any _ 32 32 l _ HL.out (hL.mono (by simp)) (by omega)).mono ?_
  rintro e w1 ⟨rfl, hb⟩
  go_wp2_with fail
  go_ret
  exact ⟨rfl, ((Below.refl _ w).alloc (Nat.le_refl _) _).trans (hb.mono (by simp))⟩
end Go.Proofs.YtbcldknecdbemaaGreatDoor.Hx

/-
  Contracts of hexa.Digest and of the reference's Digest, Of, Bytes, Name and Fill. Condition: texts of at most a million bytes.
-/
namespace Go.Proofs.YtbcldknecdbemaaGreatDoor.Hx
open Go.RowKit
set_option linter.unusedVariables false
set_option maxRecDepth 20000

def zeros : List UInt8 := List.replicate 32 0
/-- The digest of a text, and the error. -/
def digOf (s : List UInt8) : List UInt8 × Int := match unhex s with
  | none => (zeros, 2)
  | some l => if l.length = 32 then (l, 0) else (zeros, 3)
theorem digOf_len (s : List UInt8) : (digOf s).1.length = 32 := by
  unfold digOf
  split
  · rfl
  · split
    · assumption
    · rfl

theorem zeros_len : zeros.length = 32 := rfl

set_option maxHeartbeats 1000000 in
theorem digest_any (s : List UInt8) (w : World) (hs : s.length ≤ 1000000) :
    Calls Tryz.prog 88 #[.string ⟨s.toArray⟩] w fun e w' => e = .returned (.tuple #[dv (digOf s).1, .int .i64 (digOf s).2]) ∧ Below w.heap.size w w' := by
  have hbox := Box.new w 46 zeros
  have hg : Grows w (w.alloc (.cells (zeros.map bv).toArray 46)) := (Grows.refl w).alloc (Nat.le_refl _) _
  cases hu : unhex s with
  | none =>
    have hd : digOf s = (zeros, 2) := by simp [digOf, hu]
    rw [hd]
    have HU := Lib.hid hu
    clear hu hd
    go_enter Tryz.func88, Tryz.ntmps88
    go_wp2_with fail
    change Calls _ _ _ (w.alloc (.cells (zeros.map bv).toArray 46)) _
    generalize w.alloc (.cells (zeros.map bv).toArray 46) = w0 at *
    refine (parse_any s w0 hs).mono ?_
    rw [HU.out]
    rintro e w1 ⟨hb1, rfl⟩
    have hbox1 := hbox.later hb1
    go_wp2_with fail
    refine (is_true 2 _).mono ?_
    rintro e w' ⟨rfl, rfl⟩
    go_wp2_with (refine wpList_stores rfl 46 (.tmp 2) (.tmp 15) rfl w.heap.size zeros zeros 32 rfl rfl hbox1 zeros_len zeros_len dig_size ?_; intro w2 hbox2 hbel2)
    refine bodyPost_ret (v := .tuple #[dv zeros, .int .i64 2]) (res_arr_tmp (u := 3) Tryz.results88 _ rfl Tryz.underlying46 dig_size zeros_len hbox2.lies) rfl ⟨rfl, hbel2 _ _ (Nat.le_refl _) (grow_trans hg hb1)⟩
  | some l =>
    by_cases hl : l.length = 32
    · have hd : digOf s = (l, 0) := by simp [digOf, hu, hl]
      rw [hd]
      have HU := Lib.hid hu
      have HL := Lib.hid hl
      clear hu hd hl
      go_enter Tryz.func88, Tryz.ntmps88
      go_wp2_with fail
      change Calls _ _ _ (w.alloc (.cells (zeros.map bv).toArray 46)) _
      generalize w.alloc (.cells (zeros.map bv).toArray 46) = w0 at *
      refine (parse_any s w0 hs).mono ?_
      rw [HU.out]
      rintro e w1 ⟨hb1, v1, rfl, hown1⟩
      have hbox1 := hbox.later hb1
      rw [HL.out] at hown1
      obtain ⟨g1, c1, rfl, hk1, hg1, hboxl⟩ := own_box hown1 (by omega)
      have hat := run_arrayAt (P := Tryz.prog) w1 46 5 32 (some ⟨g1, 0, none⟩) 32 c1 Tryz.underlying46 (Nat.le_refl _)
      have hld := hboxl.load Tryz.underlying46 dig_size HL.out
      clear hown1
      go_wp2_with fail
      refine (is_false 0 2 _ (by omega)).mono ?_
      rintro e w' ⟨rfl, rfl⟩
      go_wp2_with (first | (with_reducible refine wpList_loads rfl 46 (.tmp 21) rfl _ rfl _ hld ?_) | (refine wpList_stores rfl 46 (.tmp 2) (.tmp 22) rfl w.heap.size zeros l 32 rfl rfl hbox1 zeros_len HL.out dig_size ?_; intro w2 hbox2 hbel2))
      refine bodyPost_ret (v := .tuple #[dv l, .int .i64 0]) (res_arr_tmp (u := 3) Tryz.results88 _ rfl Tryz.underlying46 dig_size HL.out hbox2.lies) rfl ⟨rfl, hbel2 _ _ (Nat.le_refl _) (grow_trans hg hb1)⟩
    · have hd : digOf s = (zeros, 3) := by simp [digOf, hu, hl]
      rw [hd]
      have HU := Lib.hid hu
      have hne : ((l.length : Int) == 32) = false := by simp; omega
      have hne' : ((l.length : Int) != 32) = true := by simp; omega
      clear hu hd hl
      go_enter Tryz.func88, Tryz.ntmps88
      go_wp2_with fail
      change Calls _ _ _ (w.alloc (.cells (zeros.map bv).toArray 46)) _
      generalize w.alloc (.cells (zeros.map bv).toArray 46) = w0 at *
      refine (parse_any s w0 hs).mono ?_
      rw [HU.out]
      rintro e w1 ⟨hb1, v1, rfl, hown1⟩
      have hbox1 := hbox.later hb1
      obtain ⟨A1, c1, rfl, hk1⟩ := own_form hown1
      clear hown1
      go_wp2_with fail
      refine (is_false 0 2 _ (by omega)).mono ?_
      rintro e w' ⟨rfl, rfl⟩
      go_wp2_with (refine wpList_stores rfl 46 (.tmp 2) (.tmp 19) rfl w.heap.size zeros zeros 32 rfl rfl hbox1 zeros_len zeros_len dig_size ?_; intro w2 hbox2 hbel2)
      refine bodyPost_ret (v := .tuple #[dv zeros, .int .i64 3]) (res_arr_tmp (u := 3) Tryz.results88 _ rfl Tryz.underlying46 dig_size zeros_len hbox2.lies) rfl ⟨rfl, hbel2 _ _ (Nat.le_refl _) (grow_trans hg hb1)⟩

set_option maxHeartbeats 1000000 in
theorem rbytes_any (l : List UInt8) (w : World) (hl : l.length = 32) :
    Calls Tryz.prog 123 #[dv l] w fun e w' => ∃ A c, e = .returned (.slice A 32 c) ∧ 32 ≤ c ∧ Lies w' w'.heap.size A (l.map bv) ∧ Below w.heap.size w w' := by
  obtain ⟨i0, hi0, hz0, hz1, hz2⟩ := info_parts byte_info
  have hbox := Box.new w 46 l
  have hg : Grows w (w.alloc (.cells (l.map bv).toArray 46)) := (Grows.refl w).alloc (Nat.le_refl _) _
  have HL := Lib.hid hl
  clear hl
  go_enter Tryz.func123, Tryz.ntmps123
  go_wp2
  have h01 : w.heap.size + 1 = (w.alloc (.cells (l.map bv).toArray 46)).heap.size := by simp
  generalize w.alloc (.cells (l.map bv).toArray 46) = w0 at *
  have H01 := Lib.hid h01
  clear h01
  go_loopw [3, 4] (fun v i wr => ∃ k : Nat, k ≤ 32 ∧ i = .int .i64 k ∧ wr.ownsRow w0.heap.size 5 1 v k ((l.take k).map bv) ∧ Grows w0 wr) (fun _ i _ => 32 - (intOf i).toNat)
  case atStart => exact ⟨0, Nat.zero_le _, rfl, World.ownsRow_nil _ _ _ _, Grows.refl _⟩
  case round =>
    obtain ⟨k, hk, rfl, hown, hgr⟩ := hrel
    by_cases hlt : k < 32
    · obtain ⟨x, hx⟩ : ∃ x, l[k]? = some x := ⟨_, List.getElem?_eq_getElem (by rw [HL.out]; exact hlt)⟩
      have cx := (hbox.later hgr).cell hx
      have htk : l.take (k + 1) = l.take k ++ [x] := by rw [List.take_add_one, hx]; rfl
      have HT := Lib.hid htk
      have hnew := Lies.new wr 5 [bv x]
      clear hx htk
      have k1 : (k : Int) < 32 := by omega
      go_wp2_with (at_builtin; refine wpList_append_src _ rfl (.tmp 9) (.tmp 13) _ rfl w0.heap.size 5 i0 _ 1 Tryz.underlying27 hi0 hz0 hz1 hz2 rfl u3 k _ rfl (hown.alloc _) _ _ 1 1 [bv x] rfl rfl hnew (by simp [Value.oneCell']) (by unfold maxLen; omega) (by omega) (by rw [World.size_alloc]; have := hgr.size; omega) ?_; intro v' w' hown' hg' hat')
      have hb2 : Below w0.heap.size wr w' := ((Below.refl _ wr).alloc hgr.size _).grown hg' (by rw [World.size_alloc]; have := hgr.size; omega) (own_ge hown)
      rw [show [bv x] = [x].map bv from rfl, ← List.map_append, ← HT.out] at hown'
      go_roundw
      case rel => exact ⟨k + 1, by omega, by go_num, hown', Below.trans hgr hb2⟩
      case measure => simp [intOf]; omega
    · obtain rfl : k = 32 := by omega
      obtain ⟨A, c, rfl, hc⟩ := own_form hown
      rw [List.take_of_length_le (by rw [HL.out]; omega)] at hown
      go_wp2
      go_ret
      exact ⟨A, c, rfl, hc, Lies.of_own hown, grow_trans hg hgr⟩

set_option maxHeartbeats 400000 in
theorem rname_any (l : List UInt8) (w : World) (hl : l.length = 32) :
    Calls Tryz.prog 76 #[dv l] w fun e w' => e = .returned (.string ⟨(hexOf l).toArray⟩) ∧ Below w.heap.size w w' := by
  have hbox := Box.new w 46 l
  have hg : Grows w (w.alloc (.cells (l.map bv).toArray 46)) := (Grows.refl w).alloc (Nat.le_refl _) _
  have hld := hbox.load Tryz.underlying46 dig_size hl
  have HL := Lib.hid hl
  clear hl
  go_enter Tryz.func76, Tryz.ntmps76
  go_wp2_with (with_reducible refine wpList_loads rfl 46 (.tmp 1) rfl _ rfl _ hld ?_)
  refine (rbytes_any l _ HL.out).mono ?_
  rintro e w1 ⟨A, c, rfl, hc, hL, hb1⟩
  go_wp2_with fail
  refine (rtext_any A 32 c l _ HL.out hL (by omega)).mono ?_
  rintro e w2 ⟨rfl, hb2⟩
  go_wp2_with fail
  go_ret
  exact ⟨rfl, grow_trans hg (grow_trans hb1 hb2)⟩

set_option maxHeartbeats 1000000 in
theorem fill_any (A : Option Addr) (n c m : Nat) (bs : List UInt8) (w : World) (hl : bs.length = n) (hr : Lies w w.heap.size A (bs.map bv)) (hn0 : 0 < n) (hn : n ≤ 1000000) (hm : m ≤ 1000000) :
    Calls Tryz.prog 71 #[.slice A n c, .int .i64 (m : Int)] w fun e w' => ∃ (l : List UInt8) (A' : Option Addr) (c' : Nat), l.length = m ∧ e = .returned (.slice A' m c') ∧ Lies w' w'.heap.size A' (l.map bv) ∧ Below w.heap.size w w' := by
  obtain ⟨i0, hi0, hz0, hz1, hz2⟩ := info_parts byte_info
  have HL := Lib.hid hl
  clear hl
  have hnz : ((n : Int) == 0) = false := by simp; omega
  go_enter Tryz.func71, Tryz.ntmps71
  go_wp2
  go_loopw [5, 6] (fun v i wr => ∃ (k : Nat) (l : List UInt8), k ≤ m ∧ l.length = k ∧ i = .int .i64 k ∧ wr.ownsRow w.heap.size 5 1 v k (l.map bv) ∧ Grows w wr) (fun _ i _ => m - (intOf i).toNat)
  case atStart => exact ⟨0, [], Nat.zero_le _, rfl, rfl, World.ownsRow_nil _ _ _ _, Grows.refl _⟩
  case round =>
    obtain ⟨k, l, hk, hlk, rfl, hown, hgr⟩ := hrel
    have HK := Lib.hid hlk
    clear hlk
    by_cases hlt : k < m
    · have hkn : k % n < n := Nat.mod_lt _ hn0
      obtain ⟨x, hx⟩ : ∃ x, bs[k % n]? = some x := ⟨_, List.getElem?_eq_getElem (by rw [HL.out]; exact hkn)⟩
      obtain ⟨ad, rfl, _, cx⟩ := (hr.later hgr).at_ (j := k % n) (u := bv x) (by rw [List.getElem?_map, hx]; rfl)
      have hnew := Lies.new wr 5 [bv x]
      clear hx
      have r0 : (0 : Int) ≤ (k : Int) % (n : Int) := Int.emod_nonneg _ (by omega)
      have r1 : (k : Int) % (n : Int) < (n : Int) := Int.emod_lt_of_pos _ (by omega)
      have r2 : ((k : Int) % (n : Int)).toNat = k % n := by omega
      go_wp2_with (at_builtin; refine wpList_append_src _ rfl (.tmp 15) (.tmp 23) _ rfl w.heap.size 5 i0 _ 1 Tryz.underlying27 hi0 hz0 hz1 hz2 rfl u5 k _ rfl (hown.alloc _) _ _ 1 1 [bv x] rfl rfl hnew (by simp [Value.oneCell']) (by unfold maxLen; omega) (by omega) (by rw [World.size_alloc]; have := hgr.size; omega) ?_; intro v' w' hown' hg' hat')
      have hb2 : Below w.heap.size wr w' := ((Below.refl _ wr).alloc hgr.size _).grown hg' (by rw [World.size_alloc]; have := hgr.size; omega) (own_ge hown)
      rw [show [bv x] = [x].map bv from rfl, ← List.map_append] at hown'
      go_roundw
      case rel => exact ⟨k + 1, l ++ [x], by omega, by simp [HK.out], by go_num, hown', Below.trans hgr hb2⟩
      case measure => simp [intOf]; omega
    · obtain rfl : k = m := by omega
      obtain ⟨A', c', rfl, hc⟩ := own_form hown
      go_wp2
      go_ret
      exact ⟨l, A', c', HK.out, rfl, Lies.of_own hown, hgr⟩

set_option maxHeartbeats 1000000 in
theorem of_any (g c : Nat) (l : List UInt8) (w : World) (hl : l.length = 32) (hb : Box w g l) :
    Calls Tryz.prog 91 #[.slice (some ⟨g, 0, none⟩) 32 c] w fun e w' => e = .returned (dv l) ∧ Below w.heap.size w w' := by
  obtain ⟨w0, hw0, hg, hz, hb0, hb1⟩ : ∃ w0, w0 = (w.alloc (.cells (zeros.map bv).toArray 46)).alloc (.cells (zeros.map bv).toArray 46) ∧ Grows w w0 ∧ w0.heap.size = w.heap.size + 2 ∧ Box w0 w.heap.size zeros ∧ Box w0 (w.heap.size + 1) zeros := by
    refine ⟨_, rfl, ((Grows.refl w).alloc (Nat.le_refl _) _).alloc (by simp) _, by simp, (Box.new w 46 zeros).later ((Grows.refl _).alloc (Nat.le_refl _) _), ?_⟩
    have h := Box.new (w.alloc (.cells (zeros.map bv).toArray 46)) 46 zeros
    rwa [World.size_alloc] at h
  have HL := Lib.hid hl
  have HZ := Lib.hid hz
  have hlt := hb.lt
  clear hl hz
  go_enter Tryz.func91, Tryz.ntmps91
  go_wp2
  change Code.wp _ _ _ _ ((w.alloc (.cells (zeros.map bv).toArray 46)).alloc (.cells (zeros.map bv).toArray 46))
  rw [← hw0]
  clear hw0
  go_loopw [4] (fun i wr => ∃ k : Nat, k ≤ 32 ∧ i = .int .i64 k ∧ Below (w.heap.size + 1) w0 wr ∧ Box wr (w.heap.size + 1) (l.take k ++ zeros.drop k)) (fun i _ => 32 - (intOf i).toNat)
  case atStart => exact ⟨0, Nat.zero_le _, rfl, Below.refl _ _, hb1⟩
  case round =>
    obtain ⟨k, hk, rfl, hgr, hbk⟩ := hrel
    by_cases hlt' : k < 32
    · obtain ⟨x, hx⟩ : ∃ x, l[k]? = some x := ⟨_, List.getElem?_eq_getElem (by rw [HL.out]; exact hlt')⟩
      obtain ⟨y, hy⟩ : ∃ y, (l.take k ++ zeros.drop k)[k]? = some y := ⟨_, List.getElem?_eq_getElem (by simp [HL.out, zeros_len]; omega)⟩
      have cx := ((hb.later hg).below hgr (by omega)).cell hx
      have cy := hbk.cell hy
      have fy := hbk.free k
      have hset := hbk.set_ (k := k) (by simp [HL.out, zeros_len]; omega) x
      rw [mix_set l zeros k x hx (by rw [zeros_len]; omega)] at hset
      clear hx hy
      have k0 : (0 : Int) ≤ (k : Int) := Int.natCast_nonneg _
      have k1 : (k : Int) < 32 := by omega
      go_wp2
      go_roundw
      case rel => exact ⟨k + 1, by omega, by go_num, hgr.setCell (p := ⟨w.heap.size + 1, k, none⟩) (Nat.le_refl _) _, hset⟩
      case measure => simp [intOf]; omega
    · obtain rfl : k = 32 := by omega
      have e1 : l.take 32 ++ zeros.drop 32 = l := by
        rw [List.take_of_length_le (by rw [HL.out]; omega), List.drop_of_length_le (by rw [zeros_len]; omega), List.append_nil]
      rw [e1] at hbk
      have hld := hbk.load Tryz.underlying46 dig_size HL.out
      have hb0' := hb0.below hgr (by omega)
      clear e1
      go_wp2_with (first | (with_reducible refine wpList_loads rfl 46 (.tmp 3) rfl _ rfl _ hld ?_) | (refine wpList_stores rfl 46 (.tmp 2) (.tmp 15) rfl w.heap.size zeros l 32 rfl rfl hb0' zeros_len HL.out dig_size ?_; intro w2 hbox2 hbel2))
      refine bodyPost_ret (v := dv l) (res_arr Tryz.results91 _ rfl Tryz.underlying46 dig_size HL.out hbox2.lies) rfl ⟨rfl, hbel2 _ _ (Nat.le_refl _) (Below.trans hg (hgr.mono (by omega)))⟩

set_option maxHeartbeats 1000000 in
theorem rdigest_any (s : List UInt8) (w : World) (hs : s.length ≤ 1000000) :
    Calls Tryz.prog 48 #[.string ⟨s.toArray⟩] w fun e w' => e = .returned (.tuple #[dv (digOf s).1, .int .i64 (digOf s).2]) ∧ Below w.heap.size w w' := by
  have hbox := Box.new w 46 zeros
  have hg : Grows w (w.alloc (.cells (zeros.map bv).toArray 46)) := (Grows.refl w).alloc (Nat.le_refl _) _
  cases hu : unhex s with
  | none =>
    have hd : digOf s = (zeros, 2) := by simp [digOf, hu]
    rw [hd]
    have HU := Lib.hid hu
    clear hu hd
    go_enter Tryz.func48, Tryz.ntmps48
    go_wp2_with fail
    change Calls _ _ _ (w.alloc (.cells (zeros.map bv).toArray 46)) _
    generalize w.alloc (.cells (zeros.map bv).toArray 46) = w0 at *
    refine (rparse_any s w0 hs).mono ?_
    rw [HU.out]
    rintro e w1 ⟨hb1, rfl⟩
    have hbox1 := hbox.later hb1
    go_wp2_with (refine wpList_stores rfl 46 (.tmp 2) (.tmp 13) rfl w.heap.size zeros zeros 32 rfl rfl hbox1 zeros_len zeros_len dig_size ?_; intro w2 hbox2 hbel2)
    refine bodyPost_ret (v := .tuple #[dv zeros, .int .i64 2]) (res_arr_tmp (u := 3) Tryz.results48 _ rfl Tryz.underlying46 dig_size zeros_len hbox2.lies) rfl ⟨rfl, hbel2 _ _ (Nat.le_refl _) (grow_trans hg hb1)⟩
  | some l =>
    by_cases hl : l.length = 32
    · have hd : digOf s = (l, 0) := by simp [digOf, hu, hl]
      rw [hd]
      have HU := Lib.hid hu
      have HL := Lib.hid hl
      clear hu hd hl
      go_enter Tryz.func48, Tryz.ntmps48
      go_wp2_with fail
      change Calls _ _ _ (w.alloc (.cells (zeros.map bv).toArray 46)) _
      generalize w.alloc (.cells (zeros.map bv).toArray 46) = w0 at *
      refine (rparse_any s w0 hs).mono ?_
      rw [HU.out]
      rintro e w1 ⟨hb1, v1, rfl, hown1⟩
      have hbox1 := hbox.later hb1
      rw [HL.out] at hown1
      obtain ⟨g1, c1, rfl, hk1, hg1, hboxl⟩ := own_box hown1 (by omega)
      clear hown1
      go_wp2_with fail
      refine (of_any g1 c1 l _ HL.out hboxl).mono ?_
      rintro e w2 ⟨rfl, hb2⟩
      have hbox1' := hbox1.later hb2
      go_wp2_with (refine wpList_stores rfl 46 (.tmp 2) (.tmp 20) rfl w.heap.size zeros l 32 rfl rfl hbox1' zeros_len HL.out dig_size ?_; intro w3 hbox2 hbel2)
      refine bodyPost_ret (v := .tuple #[dv l, .int .i64 0]) (res_arr_tmp (u := 3) Tryz.results48 _ rfl Tryz.underlying46 dig_size HL.out hbox2.lies) rfl ⟨rfl, hbel2 _ _ (Nat.le_refl _) (grow_trans hg (grow_trans hb1 hb2))⟩
    · have hd : digOf s = (zeros, 3) := by simp [digOf, hu, hl]
      rw [hd]
      have HU := Lib.hid hu
      have hne : ((l.length : Int) == 32) = false := by simp; omega
      have hne' : ((l.length : Int) != 32) = true := by simp; omega
      clear hu hd hl
      go_enter Tryz.func48, Tryz.ntmps48
      go_wp2_with fail
      change Calls _ _ _ (w.alloc (.cells (zeros.map bv).toArray 46)) _
      generalize w.alloc (.cells (zeros.map bv).toArray 46) = w0 at *
      refine (rparse_any s w0 hs).mono ?_
      rw [HU.out]
      rintro e w1 ⟨hb1, v1, rfl, hown1⟩
      have hbox1 := hbox.later hb1
      obtain ⟨A1, c1, rfl, hk1⟩ := own_form hown1
      clear hown1
      go_wp2_with (refine wpList_stores rfl 46 (.tmp 2) (.tmp 18) rfl w.heap.size zeros zeros 32 rfl rfl hbox1 zeros_len zeros_len dig_size ?_; intro w2 hbox2 hbel2)
      refine bodyPost_ret (v := .tuple #[dv zeros, .int .i64 3]) (res_arr_tmp (u := 3) Tryz.results48 _ rfl Tryz.underlying46 dig_size zeros_len hbox2.lies) rfl ⟨rfl, hbel2 _ _ (Nat.le_refl _) (grow_trans hg hb1)⟩
end Go.Proofs.YtbcldknecdbemaaGreatDoor.Hx
