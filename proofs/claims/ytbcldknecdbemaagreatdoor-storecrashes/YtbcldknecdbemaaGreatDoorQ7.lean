/-
  Contracts, joined (ShaM ShaA ShaB).
-/
import Derived.Test.YtbcldknecdbemaaGreatDoorRows
import Derived.Test.YtbcldknecdbemaaGreatDoorQ2
import Derived.Laws.BitsAllLaws
import Derived.Outline
import Derived.Lib.Hide
import Derived.BigQuiet
import Derived.StillTailTactics
import Derived.Test.YtbcldknecdbemaaGreatDoorQ6

/-
  SHA-256 as functions of lists and numbers (of no program), and what the walks ask of them.
-/
namespace Go.Proofs.YtbcldknecdbemaaGreatDoor
set_option linter.unusedVariables false
set_option maxRecDepth 20000

/-- x turned round to the right by n. -/
def ror (n x : Nat) : Nat := x / 2 ^ n + x % 2 ^ n * 2 ^ (32 - n)
def bigE (e : Nat) : Nat := ror 6 e ^^^ ror 11 e ^^^ ror 25 e
def bigA (a : Nat) : Nat := ror 2 a ^^^ ror 13 a ^^^ ror 22 a
def choose (e f g : Nat) : Nat := (e &&& f) ^^^ ((4294967295 - e) &&& g)
def most (a b c : Nat) : Nat := (a &&& b) ^^^ (a &&& c) ^^^ (b &&& c)
def smallX (x : Nat) : Nat := ror 7 x ^^^ ror 18 x ^^^ x / 8
def smallY (y : Nat) : Nat := ror 17 y ^^^ ror 19 y ^^^ y / 1024

structure V8 where
  (a b c d e f g h : Nat)
def V8.list (v : V8) : List Nat := [v.a, v.b, v.c, v.d, v.e, v.f, v.g, v.h]
structure V8.Ok (v : V8) : Prop where
  a : v.a < 4294967296
  b : v.b < 4294967296
  c : v.c < 4294967296
  d : v.d < 4294967296
  e : v.e < 4294967296
  f : v.f < 4294967296
  g : v.g < 4294967296
  h : v.h < 4294967296
def tee (v : V8) (k w : Nat) : Nat := ((((v.h + bigE v.e) % 4294967296 + choose v.e v.f v.g) % 4294967296 + k) % 4294967296 + w) % 4294967296
def you (v : V8) : Nat := (bigA v.a + most v.a v.b v.c) % 4294967296
def rnd (v : V8) (k w : Nat) : V8 := ⟨(tee v k w + you v) % 4294967296, v.a, v.b, v.c, (v.d + tee v k w) % 4294967296, v.e, v.f, v.g⟩
def rounds (ks ws : List Nat) : Nat → V8 → V8
  | 0, v => v
  | i + 1, v => rnd (rounds ks ws i v) (ks.getD i 0) (ws.getD i 0)
def add8 (x y : V8) : V8 := ⟨(x.a + y.a) % 4294967296, (x.b + y.b) % 4294967296, (x.c + y.c) % 4294967296, (x.d + y.d) % 4294967296, (x.e + y.e) % 4294967296, (x.f + y.f) % 4294967296, (x.g + y.g) % 4294967296, (x.h + y.h) % 4294967296⟩

/-- Four bytes' word. -/
def wordAt (l : List UInt8) (i : Nat) : Nat := (l.getD i 0).toNat * 16777216 + (l.getD (i + 1) 0).toNat * 65536 + (l.getD (i + 2) 0).toNat * 256 + (l.getD (i + 3) 0).toNat
theorem wordAt_lt (l : List UInt8) (i : Nat) : wordAt l i < 4294967296 := by
  unfold wordAt
  have := (l.getD i 0).toNat_lt
  have := (l.getD (i + 1) 0).toNat_lt
  have := (l.getD (i + 2) 0).toNat_lt
  have := (l.getD (i + 3) 0).toNat_lt
  omega
def nextW (ws : List Nat) (i : Nat) : Nat := (((ws.getD (i - 16) 0 + smallX (ws.getD (i - 15) 0)) % 4294967296 + ws.getD (i - 7) 0) % 4294967296 + smallY (ws.getD (i - 2) 0)) % 4294967296
def spreadTo (blk : List UInt8) : Nat → List Nat
  | 0 => []
  | i + 1 => spreadTo blk i ++ [if i < 16 then wordAt blk (4 * i) else nextW (spreadTo blk i) i]
def spreadL (blk : List UInt8) : List Nat := spreadTo blk 64

theorem spreadTo_len (blk : List UInt8) : ∀ i, (spreadTo blk i).length = i
  | 0 => rfl
  | i + 1 => by simp [spreadTo, spreadTo_len blk i]
theorem spreadTo_take (blk : List UInt8) : ∀ n i, i ≤ n → (spreadTo blk n).take i = spreadTo blk i
  | 0, i, h => by
    obtain rfl : i = 0 := by omega
    rfl
  | n + 1, i, h => by
    by_cases hi : i = n + 1
    · subst hi
      exact List.take_of_length_le (by rw [spreadTo_len]; omega)
    · rw [spreadTo, List.take_append_of_le_length (by rw [spreadTo_len]; omega)]
      exact spreadTo_take blk n i (by omega)
theorem spreadL_len (blk : List UInt8) : (spreadL blk).length = 64 := spreadTo_len blk 64
theorem spreadL_take (blk : List UInt8) (i : Nat) (h : i ≤ 64) : (spreadL blk).take i = spreadTo blk i := spreadTo_take blk 64 i h
theorem spreadTo_getD (blk : List UInt8) (i j : Nat) (hj : j < i) (hi : i ≤ 64) : (spreadTo blk i).getD j 0 = (spreadL blk).getD j 0 := by
  rw [← spreadL_take blk i hi]
  simp [hj]
theorem spreadL_at (blk : List UInt8) (i : Nat) (h : i < 64) : (spreadL blk)[i]? = some (if i < 16 then wordAt blk (4 * i) else nextW (spreadL blk) i) := by
  have h1 : (spreadTo blk (i + 1))[i]? = some (if i < 16 then wordAt blk (4 * i) else nextW (spreadTo blk i) i) := by
    rw [spreadTo, List.getElem?_append_right (by rw [spreadTo_len]; omega), spreadTo_len, Nat.sub_self]
    rfl
  rw [← spreadL_take blk (i + 1) (by omega), List.getElem?_take] at h1
  rw [if_pos (by omega)] at h1
  rw [h1]
  by_cases h16 : i < 16
  · rw [if_pos h16, if_pos h16]
  · rw [if_neg h16, if_neg h16]
    refine congrArg some ?_
    unfold nextW
    rw [spreadTo_getD blk i (i - 16) (by omega) (by omega), spreadTo_getD blk i (i - 15) (by omega) (by omega), spreadTo_getD blk i (i - 7) (by omega) (by omega), spreadTo_getD blk i (i - 2) (by omega) (by omega)]
theorem spreadL_lt (blk : List UInt8) : ∀ x ∈ spreadL blk, x < 4294967296 := by
  intro x hx
  obtain ⟨i, hi⟩ := List.getElem?_of_mem hx
  have hl : i < 64 := by
    have := (List.getElem?_eq_some_iff.1 hi).1
    rwa [spreadL_len] at this
  rw [spreadL_at blk i hl] at hi
  injection hi with hi
  rw [← hi]
  split
  · exact wordAt_lt _ _
  · exact Nat.mod_lt _ (by decide)

theorem getD_lt {l : List Nat} {m : Nat} (h : ∀ x ∈ l, x < m) (hm : 0 < m) (i : Nat) : l.getD i 0 < m := by
  rcases Nat.lt_or_ge i l.length with hi | hi
  · have : l.getD i 0 = l[i] := by simp [hi]
    rw [this]
    exact h _ (List.getElem_mem hi)
  · have : l.getD i 0 = 0 := by simp [hi]
    omega
theorem spreadTo_lt (blk : List UInt8) (k i : Nat) (hk : k ≤ 64) : (spreadTo blk k).getD i 0 < 4294967296 :=
  getD_lt (fun x hx => spreadL_lt blk x (by rw [← spreadL_take blk k hk] at hx; exact List.mem_of_mem_take hx)) (by decide) i

def roots64 : List Nat := [1116352408, 1899447441, 3049323471, 3921009573, 961987163, 1508970993, 2453635748, 2870763221,
  3624381080, 310598401, 607225278, 1426881987, 1925078388, 2162078206, 2614888103, 3248222580,
  3835390401, 4022224774, 264347078, 604807628, 770255983, 1249150122, 1555081692, 1996064986,
  2554220882, 2821834349, 2952996808, 3210313671, 3336571891, 3584528711, 113926993, 338241895,
  666307205, 773529912, 1294757372, 1396182291, 1695183700, 1986661051, 2177026350, 2456956037,
  2730485921, 2820302411, 3259730800, 3345764771, 3516065817, 3600352804, 4094571909, 275423344,
  430227734, 506948616, 659060556, 883997877, 958139571, 1322822218, 1537002063, 1747873779,
  1955562222, 2024104815, 2227730452, 2361852424, 2428436474, 2756734187, 3204031479, 3329325298]
theorem roots64_len : roots64.length = 64 := rfl
theorem roots64_lt : ∀ x ∈ roots64, x < 4294967296 := by decide
def start8 : V8 := ⟨1779033703, 3144134277, 1013904242, 2773480762, 1359893119, 2600822924, 528734635, 1541459225⟩
theorem start8_ok : start8.Ok := by constructor <;> decide

/-- What 64 bytes make of the words. -/
def mix (v : V8) (blk : List UInt8) : V8 := add8 v (rounds roots64 (spreadL blk) 64 v)

theorem rnd_ok {v : V8} (h : v.Ok) (k w : Nat) : (rnd v k w).Ok :=
  ⟨Nat.mod_lt _ (by decide), h.a, h.b, h.c, Nat.mod_lt _ (by decide), h.e, h.f, h.g⟩
theorem rounds_ok {v : V8} (h : v.Ok) (ks ws : List Nat) : ∀ i, (rounds ks ws i v).Ok
  | 0 => h
  | i + 1 => rnd_ok (rounds_ok h ks ws i) _ _
theorem add8_ok (x y : V8) : (add8 x y).Ok := by constructor <;> exact Nat.mod_lt _ (by decide)
theorem mix_ok (v : V8) (blk : List UInt8) : (mix v blk).Ok := add8_ok _ _

/-- The words behind the first k times 64 bytes. -/
def through (l : List UInt8) : Nat → V8
  | 0 => start8
  | k + 1 => mix (through l k) ((l.drop (64 * k)).take 64)
theorem through_ok (l : List UInt8) : ∀ k, (through l k).Ok
  | 0 => start8_ok
  | k + 1 => mix_ok _ _
theorem through_append (l r : List UInt8) : ∀ k, 64 * k ≤ l.length → through (l ++ r) k = through l k
  | 0, _ => rfl
  | k + 1, h => by
    rw [through, through, through_append l r k (by omega), List.drop_append_of_le_length (by omega), List.take_append_of_le_length (by rw [List.length_drop]; omega)]

/-- A number's eight bytes, the greatest part first. -/
def eight (n : Nat) : List UInt8 := [n / 72057594037927936, n / 281474976710656, n / 1099511627776, n / 4294967296, n / 16777216, n / 65536, n / 256, n].map fun x => UInt8.ofNat (x % 256)
/-- How many bytes 0 there are. -/
def gap (n : Nat) : Nat := (119 - n % 64) % 64
def padded (l : List UInt8) : List UInt8 := l ++ [128] ++ List.replicate (gap l.length) 0 ++ eight (8 * l.length)
theorem eight_len (n : Nat) : (eight n).length = 8 := rfl
theorem padded_len (l : List UInt8) : (padded l).length = l.length + 9 + gap l.length := by
  simp [padded, eight_len]; omega
theorem padded_mod (l : List UInt8) : (padded l).length % 64 = 0 := by
  rw [padded_len]; unfold gap; omega
def four (x : Nat) : List UInt8 := [x / 16777216, x / 65536, x / 256, x].map fun x => UInt8.ofNat (x % 256)
def bytesOf (v : V8) : List UInt8 := v.list.flatMap four
theorem bytesOf_len (v : V8) : (bytesOf v).length = 32 := rfl
/-- The digest. -/
def shaOf (l : List UInt8) : List UInt8 := bytesOf (through (padded l) ((padded l).length / 64))
theorem shaOf_len (l : List UInt8) : (shaOf l).length = 32 := rfl
end Go.Proofs.YtbcldknecdbemaaGreatDoor

/-
  Contracts of sha.turned (bits.RotateLeft32) and of the reference's turn, word and roots.
-/
namespace Go.Proofs.YtbcldknecdbemaaGreatDoor
open Go.RowKit
set_option linter.unusedVariables false
set_option maxRecDepth 20000

theorem ret_uv {a b : Int} (h : a = b) : Ending.returned (.int .u32 a) = .returned (.int .u32 b) := by rw [h]
theorem and31 : ∀ n : Fin 32, 0 < n.val → bits .and .u64 (IntKind.u64.wrap (-(n.val : Int))) 31 = ((32 - n.val : Nat) : Int) := by decide +kernel
theorem wrap32 (a : Nat) : IntKind.u32.wrap (a : Int) = ((a % 4294967296 : Nat) : Int) := by
  simp [IntKind.wrap, IntKind.signed, IntKind.bits]
theorem pow_split {n : Nat} (hn : n ≤ 32) : 2 ^ n * 2 ^ (32 - n) = 4294967296 := by
  rw [← Nat.pow_add, show n + (32 - n) = 32 by omega]
theorem ror_lt {n x : Nat} (hn : n ≤ 32) (hx : x < 4294967296) : ror n x < 4294967296 := by
  unfold ror
  have hp := pow_split hn
  have h1 : 0 < 2 ^ n := Nat.two_pow_pos n
  have h2 : x / 2 ^ n < 2 ^ (32 - n) := Nat.div_lt_of_lt_mul (by rw [hp]; exact hx)
  have h3 : x % 2 ^ n < 2 ^ n := Nat.mod_lt _ h1
  calc x / 2 ^ n + x % 2 ^ n * 2 ^ (32 - n) < 2 ^ (32 - n) + x % 2 ^ n * 2 ^ (32 - n) := by omega
    _ = (x % 2 ^ n + 1) * 2 ^ (32 - n) := by rw [Nat.add_mul]; omega
    _ ≤ 2 ^ n * 2 ^ (32 - n) := Nat.mul_le_mul_right _ h3
    _ = 4294967296 := hp
theorem or_ror {n x : Nat} (h0 : 0 < n) (hn : n < 32) (hx : x < 4294967296) : bits .or .u32 (IntKind.u32.wrap ((x : Int) * 2 ^ (32 - n))) ((x : Int) / 2 ^ n) = (ror n x : Int) := by
  have hp := pow_split (n := n) (by omega)
  have e1 : IntKind.u32.wrap ((x : Int) * 2 ^ (32 - n)) = ((x % 2 ^ n * 2 ^ (32 - n) : Nat) : Int) := by
    have : ((x : Int) * 2 ^ (32 - n)) = ((x * 2 ^ (32 - n) : Nat) : Int) := by simp
    rw [this, wrap32, ← hp, Nat.mul_mod_mul_right]
  have e2 : (x : Int) / 2 ^ n = ((x / 2 ^ n : Nat) : Int) := by simp
  have h1 : 0 < 2 ^ n := Nat.two_pow_pos n
  have h2 : x / 2 ^ n < 2 ^ (32 - n) := Nat.div_lt_of_lt_mul (by rw [hp]; exact hx)
  have h3 : x % 2 ^ n < 2 ^ n := Nat.mod_lt _ h1
  have h4 : x % 2 ^ n * 2 ^ (32 - n) < 4294967296 := by
    rw [← hp]
    exact Nat.mul_lt_mul_of_pos_right h3 (Nat.two_pow_pos _)
  have h5 : x / 2 ^ n < 4294967296 := Nat.lt_of_le_of_lt (Nat.div_le_self _ _) hx
  rw [e1, e2, u32_or_nat _ _ h4 h5]
  congr 1
  rw [← Nat.shiftLeft_eq, ← Nat.shiftLeft_add_eq_or_of_lt h2, Nat.shiftLeft_eq]
  unfold ror
  omega

set_option maxHeartbeats 400000 in
theorem rotl_any (x n : Nat) (w : World) (hx : x < 4294967296) (h0 : 0 < n) (hn : n < 32) :
    Calls Tryz.prog 181 #[uv x, .int .i64 (-(n : Int))] w fun e w' => e = .returned (uv (ror n x)) ∧ w = w' := by
  have hor := Lib.hid (or_ror h0 hn hx)
  have h31 := and31 ⟨n, hn⟩ h0
  simp only [] at h31
  obtain ⟨m, hm⟩ : ∃ m, m = 32 - n := ⟨_, rfl⟩
  rw [← hm] at h31 hor
  have hm0 : m ≤ 32 := by omega
  have hm1 : IntKind.u64.wrap (32 - (m : Int)) = (n : Int) := by
    rw [show 32 - (m : Int) = (n : Int) by omega]
    exact IntWalk.u64_in _ (by omega)
  clear hm
  go_enter Tryz.func181, Tryz.ntmps181
  go_wp2
  go_ret
  exact ⟨ret_uv hor.out, rfl⟩

theorem ror_zero {x : Nat} : ror 0 x = x := by simp [ror, Nat.mod_one]
theorem ror_step {k x : Nat} (hk : k < 32) : ror k x / 2 + ror k x % 2 * 2147483648 = ror (k + 1) x := by
  unfold ror
  obtain ⟨j, hj⟩ : ∃ j, 32 - k = j + 1 := ⟨31 - k, by omega⟩
  rw [hj, show 32 - (k + 1) = j by omega, Nat.pow_succ 2 j, Nat.pow_succ 2 k]
  have hp : 2 ^ k * 2 ^ j = 2147483648 := by rw [← Nat.pow_add, show k + j = 31 by omega]
  have e1 : x / (2 ^ k * 2) = x / 2 ^ k / 2 := by rw [Nat.div_div_eq_div_mul]
  have e2 : x % (2 ^ k * 2) = x % 2 ^ k + 2 ^ k * (x / 2 ^ k % 2) := by rw [Nat.mod_mul]
  rw [e1, e2]
  generalize x / 2 ^ k = q
  generalize x % 2 ^ k = r
  have e3 : r * (2 ^ j * 2) = 2 * (r * 2 ^ j) := by rw [← Nat.mul_assoc, Nat.mul_comm]
  have e4 : 2 ^ k * (q % 2) * 2 ^ j = 2147483648 * (q % 2) := by rw [Nat.mul_assoc, Nat.mul_comm (q % 2), ← Nat.mul_assoc, hp]
  rw [e3, Nat.add_mul, e4]
  generalize r * 2 ^ j = s
  omega

set_option maxHeartbeats 400000 in
theorem turn_any (x n : Nat) (w : World) (hx : x < 4294967296) (hn : n < 32) :
    Calls Tryz.prog 106 #[uv x, .int .i64 (n : Int)] w fun e w' => e = .returned (uv (ror n x)) ∧ w = w' := by
  go_enter Tryz.func106, Tryz.ntmps106
  go_wp2
  go_loop [0, 5] (fun t i => ∃ k : Nat, k ≤ n ∧ i = .int .i64 k ∧ t = uv (ror k x)) (fun _ i => n - (intOf i).toNat)
  case atStart => exact ⟨0, Nat.zero_le _, rfl, by rw [ror_zero]⟩
  case round =>
    obtain ⟨k, hk, rfl, rfl⟩ := hrel
    by_cases hlt : k < n
    · have hs := Lib.hid (ror_step (k := k) (x := x) (by omega))
      have hb := ror_lt (n := k) (by omega) hx
      have hb' := ror_lt (n := k + 1) (by omega) hx
      generalize ror k x = y at *
      go_wp2
      go_round
      case rel => exact ⟨k + 1, by omega, by go_num, by have := hs.out; simp only [uv, ← this]; congr 1⟩
      case measure => simp [intOf]; omega
    · obtain rfl : k = n := by omega
      go_wp2
      go_ret
      exact ⟨rfl, rfl⟩

set_option maxHeartbeats 400000 in
theorem turned_any (x n : Nat) (w : World) (hx : x < 4294967296) (h0 : 0 < n) (hn : n < 32) :
    Calls Tryz.prog 177 #[uv x, .int .i64 (n : Int)] w fun e w' => e = .returned (uv (ror n x)) ∧ w = w' := by
  go_enter Tryz.func177, Tryz.ntmps177
  go_wp2_with fail
  refine (rotl_any x n _ hx h0 hn).mono ?_
  rintro e w' ⟨rfl, rfl⟩
  go_wp2_with fail
  go_ret
  exact ⟨rfl, rfl⟩

theorem byte_at {w : World} {b o : Nat} {l : List UInt8} (h : w.rangeAt b o (l.map bv)) (i : Nat) (hi : i < l.length) : w.cell? ⟨b, o + i, none⟩ = some (.int .u8 ((l.getD i 0).toNat : Int)) :=
  h i _ (by rw [List.getElem?_map]; simp [hi])

set_option maxHeartbeats 1000000 in
theorem word_any (b o n c i : Nat) (l : List UInt8) (w : World) (hl : l.length = n) (hr : w.rangeAt b o (l.map bv)) (hi : i + 3 < n) (hn : n ≤ 1000000) :
    Calls Tryz.prog 105 #[.slice (some ⟨b, o, none⟩) n c, .int .i64 (i : Int)] w fun e w' => e = .returned (uv (wordAt l i)) ∧ ∃ m, w' = w.drewN m := by
  have c0 := byte_at hr i (by omega)
  have c1 := byte_at hr (i + 1) (by omega)
  have c2 := byte_at hr (i + 2) (by omega)
  have c3 := byte_at hr (i + 3) (by omega)
  have b0 := (l.getD i 0).toNat_lt
  have b1 := (l.getD (i + 1) 0).toNat_lt
  have b2 := (l.getD (i + 2) 0).toNat_lt
  have b3 := (l.getD (i + 3) 0).toNat_lt
  unfold wordAt
  generalize (l.getD i 0).toNat = x0 at *
  generalize (l.getD (i + 1) 0).toNat = x1 at *
  generalize (l.getD (i + 2) 0).toNat = x2 at *
  generalize (l.getD (i + 3) 0).toNat = x3 at *
  have i0 : i < n := by omega
  have i1 : (i : Int) + 1 < (n : Int) := by omega
  have i2 : (i : Int) + 2 < (n : Int) := by omega
  have i3 : (i : Int) + 3 < (n : Int) := by omega
  have p1 : (0 : Int) ≤ (i : Int) + 1 := by omega
  have p2 : (0 : Int) ≤ (i : Int) + 2 := by omega
  have p3 : (0 : Int) ≤ (i : Int) + 3 := by omega
  have q1 : IntKind.i64.wrap ((i : Int) + 1) = (i : Int) + 1 := IntWalk.i64_in _ (by omega)
  have q2 : IntKind.i64.wrap ((i : Int) + 2) = (i : Int) + 2 := IntWalk.i64_in _ (by omega)
  have q3 : IntKind.i64.wrap ((i : Int) + 3) = (i : Int) + 3 := IntWalk.i64_in _ (by omega)
  have r1 : ((i : Int) + 1).toNat = i + 1 := by omega
  have r2 : ((i : Int) + 2).toNat = i + 2 := by omega
  have r3 : ((i : Int) + 3).toNat = i + 3 := by omega
  clear hr hl
  go_enter Tryz.func105, Tryz.ntmps105
  go_wp2
  go_quiet (fail)
  go_wp2
  go_ret
  exact ⟨ret_uv (by omega), nq, rfl⟩

theorem u32_info : (Tryz.prog.info? 100).map (fun i => (i.zero, i.size, i.bytes)) = some (some (.int .u32 0), 1, 4) := by kernel_rfl

set_option maxHeartbeats 400000 in
theorem roots_any (w : World) : Calls Tryz.prog 104 #[] w fun e w' => e = .returned (.slice (some ⟨w.heap.size, 0, none⟩) 64 64) ∧ w'.rangeAt w.heap.size 0 (roots64.map uv) ∧ Grows w w' := by
  have hh := Has.new w 100 (roots64.map uv)
  have hg := grows_alloc w (.cells (roots64.map uv).toArray 100)
  go_enter Tryz.func104, Tryz.ntmps104
  go_wp2
  go_ret
  exact ⟨rfl, hh.cells, hg⟩

/-- turn, in a region that only reads. -/
theorem turn_quiet {x m : Nat} {z : Int} {w : World} (n : Nat) (hz : z = (n : Int)) (hx : x < 4294967296) (hn : n < 32) :
    Calls Tryz.prog 106 #[.int .u32 (x : Int), .int .i64 z] (w.drewN m) fun e w'' => e = .returned (.int .u32 ((ror n x : Nat) : Int)) ∧ ∃ m, w'' = w.drewN m := by
  subst hz
  exact (turn_any x n _ hx hn).mono fun _ _ ⟨he, hw⟩ => ⟨he, m, hw.symm⟩
theorem turned_quiet {x m : Nat} {z : Int} {w : World} (n : Nat) (hz : z = (n : Int)) (hx : x < 4294967296) (h0 : 0 < n) (hn : n < 32) :
    Calls Tryz.prog 177 #[.int .u32 (x : Int), .int .i64 z] (w.drewN m) fun e w'' => e = .returned (.int .u32 ((ror n x : Nat) : Int)) ∧ ∃ m, w'' = w.drewN m := by
  subst hz
  exact (turned_any x n _ hx h0 hn).mono fun _ _ ⟨he, hw⟩ => ⟨he, m, hw.symm⟩
end Go.Proofs.YtbcldknecdbemaaGreatDoor

/-
  Contract of the reference's block (layer 2): what 64 bytes make of eight words.
-/
namespace Go.Proofs.YtbcldknecdbemaaGreatDoor
open Go.RowKit
set_option linter.unusedVariables false
set_option maxRecDepth 20000

theorem uv_at {w : World} {b o : Nat} {l : List Nat} (h : w.rangeAt b o (l.map uv)) (i : Nat) (hi : i < l.length) : w.cell? ⟨b, o + i, none⟩ = some (.int .u32 ((l.getD i 0 : Nat) : Int)) :=
  h i _ (by rw [List.getElem?_map]; simp [hi])
theorem uv_has {w : World} {b : Nat} {l : List Nat} (h : Has w b (l.map uv)) (i : Nat) (hi : i < l.length) : w.cell? ⟨b, i, none⟩ = some (.int .u32 ((l.getD i 0 : Nat) : Int)) :=
  h.cell (by rw [List.getElem?_map]; simp [hi])
theorem wrap_add (a b : Nat) : IntKind.u32.wrap ((a : Int) + (b : Int)) = (((a + b) % 4294967296 : Nat) : Int) := by
  rw [← Int.natCast_add]
  exact wrap32 _
theorem and_sub (e g : Nat) (he : e < 4294967296) (hg : g < 4294967296) : bits .and .u32 (4294967295 - (e : Int)) (g : Int) = (((4294967295 - e) &&& g : Nat) : Int) := by
  rw [show 4294967295 - (e : Int) = ((4294967295 - e : Nat) : Int) by omega]
  exact u32_and_nat _ _ (by omega) hg
theorem and_lt {a b : Nat} (ha : a < 4294967296) : a &&& b < 4294967296 := Nat.lt_of_le_of_lt Nat.and_le_left ha
theorem xor_lt {a b : Nat} (ha : a < 4294967296) (hb : b < 4294967296) : a ^^^ b < 4294967296 := Nat.xor_lt_two_pow (n := 32) ha hb
theorem bigE_lt {e : Nat} (he : e < 4294967296) : bigE e < 4294967296 := xor_lt (xor_lt (ror_lt (by omega) he) (ror_lt (by omega) he)) (ror_lt (by omega) he)
theorem bigA_lt {e : Nat} (he : e < 4294967296) : bigA e < 4294967296 := xor_lt (xor_lt (ror_lt (by omega) he) (ror_lt (by omega) he)) (ror_lt (by omega) he)
theorem choose_lt {e f g : Nat} (he : e < 4294967296) : choose e f g < 4294967296 := xor_lt (and_lt he) (and_lt (by omega))
theorem most_lt {a b c : Nat} (ha : a < 4294967296) (hb : b < 4294967296) : most a b c < 4294967296 := xor_lt (xor_lt (and_lt ha) (and_lt ha)) (and_lt hb)
theorem add8_at (x y : V8) (k : Nat) (hk : k < 8) : (add8 x y).list.getD k 0 = (y.list.getD k 0 + x.list.getD k 0) % 4294967296 := by
  match k, hk with
  | 0, _ => simp [add8, V8.list, Nat.add_comm]
  | 1, _ => simp [add8, V8.list, Nat.add_comm]
  | 2, _ => simp [add8, V8.list, Nat.add_comm]
  | 3, _ => simp [add8, V8.list, Nat.add_comm]
  | 4, _ => simp [add8, V8.list, Nat.add_comm]
  | 5, _ => simp [add8, V8.list, Nat.add_comm]
  | 6, _ => simp [add8, V8.list, Nat.add_comm]
  | 7, _ => simp [add8, V8.list, Nat.add_comm]
theorem getD_some {l : List Nat} {k : Nat} (h : k < l.length) : l[k]? = some (l.getD k 0) := by simp [h]
theorem mid_getD (l z : List Nat) (k : Nat) (hl : k ≤ l.length) (hz : k < z.length) : (l.take k ++ z.drop k).getD k 0 = z.getD k 0 := by
  simp [List.getElem?_append_right, List.getElem?_drop, Nat.min_eq_left hl]
theorem own_range {w : World} {base : Nat} {e : TypeId} {v : Value} {n : Nat} {vs : List Value} (h : w.ownsRow base e 1 v n vs) (hn : 0 < n) : ∃ g c, v = .slice (some ⟨g, 0, none⟩) n c ∧ n ≤ c ∧ base ≤ g ∧ Has w g vs := by
  have h0 := h
  rcases h.2 with ⟨_, h'⟩ | ⟨g, cap, cur, rfl, hb, hg, hnc, _⟩
  · omega
  · refine ⟨g, cap, rfl, hnc, hb, ?_, fun j u hu => ?_, fun j => frozen_of_row w g j cur e hg⟩
    · rcases Nat.lt_or_ge g w.heap.size with hlt | hge
      · exact hlt
      · rw [Array.getElem?_eq_none hge] at hg; cases hg
    · obtain ⟨ad, e, _, hc⟩ := Lies.of_own h0 j u hu
      injection e with e
      subst e
      rwa [add_plain] at hc
theorem spread_snoc (blk : List UInt8) (k : Nat) (x : Nat) (hx : x = if k < 16 then wordAt blk (4 * k) else nextW (spreadTo blk k) k) : (spreadTo blk (k + 1)).map uv = (spreadTo blk k).map uv ++ [uv x] := by
  rw [spreadTo, List.map_append, hx]
  rfl

set_option maxRecDepth 100000 in
set_option maxHeartbeats 1000000 in
theorem block_any (v : V8) (gh ch gb ob cb : Nat) (blk : List UInt8) (w : World) (hv : v.Ok) (hh : w.rangeAt gh 0 (v.list.map uv)) (hbl : blk.length = 64) (hb : w.rangeAt gb ob (blk.map bv)) :
    Calls Tryz.prog 63 #[.slice (some ⟨gh, 0, none⟩) 8 ch, .slice (some ⟨gb, ob, none⟩) 64 cb] w fun e w' =>
      ∃ g c, e = .returned (.slice (some ⟨g, 0, none⟩) 8 c) ∧ w'.rangeAt g 0 ((mix v blk).list.map uv) ∧ Grows w w' := by
  obtain ⟨i0, hi0, hz0, hz1, hz2⟩ := info_parts u32_info
  have HBL := Lib.hid hbl
  clear hbl
  go_enter Tryz.func63, Tryz.ntmps63
  go_wp2_with fail
  refine (roots_any w).mono ?_
  rintro e w1 ⟨rfl, hk1, hg1⟩
  have hgk : w.heap.size < w1.heap.size := World.block_lt_of_cell? w1 _ (hk1 0 (uv 1116352408) rfl)
  generalize w.heap.size = gk at hk1 hgk
  have hb1 := range_later hb hg1
  go_wp2_with fail
  go_loopw [6, 7] (fun t i wr => ∃ k : Nat, k ≤ 16 ∧ i = .int .i64 k ∧ wr.ownsRow w1.heap.size 100 1 t k ((spreadTo blk k).map uv) ∧ Grows w1 wr) (fun _ i _ => 16 - (intOf i).toNat)
  case atStart => exact ⟨0, Nat.zero_le _, rfl, World.ownsRow_nil _ _ _ _, Grows.refl _⟩
  case round =>
    obtain ⟨k, hk, rfl, hown, hgr⟩ := hrel
    by_cases hlt : k < 16
    · have hbr := range_later hb1 hgr
      have HS := Lib.hid (spread_snoc blk k (wordAt blk (4 * k)) (by rw [if_pos hlt]))
      go_wp2_with fail
      rw [show (4 : Int) * (k : Int) = ((4 * k : Nat) : Int) from by omega]
      refine (word_any gb ob 64 cb (4 * k) blk _ HBL.out hbr (by omega) (by omega)).mono ?_
      rintro e w2 ⟨rfl, m, rfl⟩
      have hown2 : (wr.drewN m).ownsRow w1.heap.size 100 1 u6 k ((spreadTo blk k).map uv) := hown
      have hgr2 : Grows w1 (wr.drewN m) := below_draws hgr
      generalize wr.drewN m = w2 at *
      clear hown hgr hbr
      have hnew := Lies.new w2 100 [uv (wordAt blk (4 * k))]
      go_wp2_with (at_builtin; refine wpList_append_src _ rfl (.tmp 24) (.tmp 29) _ rfl w1.heap.size 100 i0 _ 4 Tryz.underlying101 hi0 hz0 hz1 hz2 rfl u6 k _ rfl (hown2.alloc _) _ _ 1 1 [uv (wordAt blk (4 * k))] rfl rfl hnew (by simp [Value.oneCell']) (by unfold maxLen; omega) (by omega) (by have := hgr2.size; simp; omega) ?_; intro v' w' hown' hg' hat')
      have hb2 : Grows w1 w' := (hgr2.alloc hgr2.size _).grown hg' (by have := hgr2.size; simp; omega) (own_ge hown2)
      rw [← HS.out] at hown'
      go_roundw
      case rel => exact ⟨k + 1, by omega, by go_num, hown', hb2⟩
      case measure => simp [intOf]; omega
    · obtain rfl : k = 16 := by omega
      rw [show ((16 : Nat) : Int) = 16 from rfl]
      go_wp2_with fail
      go_loopw [6, 8] (fun t i wr => ∃ k : Nat, 16 ≤ k ∧ k ≤ 64 ∧ i = .int .i64 k ∧ wr.ownsRow w1.heap.size 100 1 t k ((spreadTo blk k).map uv) ∧ Grows w1 wr) (fun _ i _ => 64 - (intOf i).toNat)
      case atStart => exact ⟨16, by omega, by omega, rfl, hown, hgr⟩
      case round =>
        clear hown hgr
        obtain ⟨k, hk0, hk, rfl, hown, hgr⟩ := hrel
        by_cases hlt : k < 64
        · obtain ⟨g, c, rfl, hc, hgb, hhas⟩ := own_range hown (by omega)
          have hlen : (spreadTo blk k).length = k := spreadTo_len blk k
          have c15 := uv_has hhas (k - 15) (by omega)
          have c2 := uv_has hhas (k - 2) (by omega)
          have c16 := uv_has hhas (k - 16) (by omega)
          have c7 := uv_has hhas (k - 7) (by omega)
          have b15 := spreadTo_lt blk k (k - 15) hk
          have b2 := spreadTo_lt blk k (k - 2) hk
          have HS := spread_snoc blk k _ rfl
          rw [if_neg (by omega)] at HS
          unfold nextW at HS
          generalize (spreadTo blk k).getD (k - 15) 0 = x15 at *
          generalize (spreadTo blk k).getD (k - 2) 0 = x2 at *
          generalize (spreadTo blk k).getD (k - 16) 0 = x16 at *
          generalize (spreadTo blk k).getD (k - 7) 0 = x7 at *
          have e1 := u32_xor_nat (ror 7 x15) (ror 18 x15) (ror_lt (by omega) b15) (ror_lt (by omega) b15)
          have e2 : bits .xor .u32 ((ror 7 x15 ^^^ ror 18 x15 : Nat) : Int) ((x15 : Int) / 8) = (smallX x15 : Int) := u32_xor_nat _ (x15 / 8) (Nat.xor_lt_two_pow (n := 32) (ror_lt (by omega) b15) (ror_lt (by omega) b15)) (by omega)
          have e3 := u32_xor_nat (ror 17 x2) (ror 19 x2) (ror_lt (by omega) b2) (ror_lt (by omega) b2)
          have e4 : bits .xor .u32 ((ror 17 x2 ^^^ ror 19 x2 : Nat) : Int) ((x2 : Int) / 1024) = (smallY x2 : Int) := u32_xor_nat _ (x2 / 1024) (Nat.xor_lt_two_pow (n := 32) (ror_lt (by omega) b2) (ror_lt (by omega) b2)) (by omega)
          generalize (ror 7 x15 ^^^ ror 18 x15) = y1 at e1 e2
          generalize (ror 17 x2 ^^^ ror 19 x2) = y2 at e3 e4
          have s1 := wrap_add x16 (smallX x15)
          have s2 := wrap_add ((x16 + smallX x15) % 4294967296) x7
          have s3 := wrap_add (((x16 + smallX x15) % 4294967296 + x7) % 4294967296) (smallY x2)
          generalize smallX x15 = sx at *
          generalize smallY x2 = sy at *
          generalize (x16 + sx) % 4294967296 = t1 at *
          generalize (t1 + x7) % 4294967296 = t2 at *
          generalize (t2 + sy) % 4294967296 = t3 at *
          have HT := Lib.hid HS
          have HL := Lib.hid hlen
          have HO := Lib.hid hown
          clear HS hlen hown
          have q15 : IntKind.i64.wrap ((k : Int) - 15) = (k : Int) - 15 := IntWalk.i64_in _ (by omega)
          have q2 : IntKind.i64.wrap ((k : Int) - 2) = (k : Int) - 2 := IntWalk.i64_in _ (by omega)
          have q16 : IntKind.i64.wrap ((k : Int) - 16) = (k : Int) - 16 := IntWalk.i64_in _ (by omega)
          have q7 : IntKind.i64.wrap ((k : Int) - 7) = (k : Int) - 7 := IntWalk.i64_in _ (by omega)
          have p15 : 0 ≤ (k : Int) - 15 := by omega
          have p2 : 0 ≤ (k : Int) - 2 := by omega
          have p16 : 0 ≤ (k : Int) - 16 := by omega
          have p7 : 0 ≤ (k : Int) - 7 := by omega
          have n15 : ((k : Int) - 15).toNat = k - 15 := by omega
          have n2 : ((k : Int) - 2).toNat = k - 2 := by omega
          have n16 : ((k : Int) - 16).toNat = k - 16 := by omega
          have n7 : ((k : Int) - 7).toNat = k - 7 := by omega
          go_wp2_with fail
          go_quiet (((go_at_call 106; first | exact turn_quiet 7 (by rfl) b15 (by decide) | exact turn_quiet 18 (by rfl) b15 (by decide))))
          have hgr1 : Grows w1 (wr.drewN nq) := below_draws hgr
          have c2' : (wr.drewN nq).cell? ⟨g, k - 2, none⟩ = _ := c2
          have c16' : (wr.drewN nq).cell? ⟨g, k - 16, none⟩ = _ := c16
          have c7' : (wr.drewN nq).cell? ⟨g, k - 7, none⟩ = _ := c7
          have HO' := Lib.hid (own_drawn (m := nq) HO.out)
          clear c15 c2 c16 c7 HO hhas hgr e1 e2 q15 p15 n15
          generalize wr.drewN nq = w2 at *
          go_wp2_with fail
          go_quiet (((go_at_call 106; first | exact turn_quiet 17 (by rfl) b2 (by decide) | exact turn_quiet 19 (by rfl) b2 (by decide))))
          have hgr2 : Grows w1 (w2.drewN nq) := below_draws hgr1
          have c16 : (w2.drewN nq).cell? ⟨g, k - 16, none⟩ = _ := c16'
          have c7 : (w2.drewN nq).cell? ⟨g, k - 7, none⟩ = _ := c7'
          have HO := Lib.hid (own_drawn (m := nq) HO'.out)
          clear c2' c16' c7' HO' hgr1 e3 e4 q2 p2 n2
          generalize w2.drewN nq = w3 at *
          go_wp2_with fail
          refine wp_region_ord 17 [(0, true), (1, true), (2, true), (3, true), (4, true), (5, true), (6, true), (7, true), (8, true), (9, true), (10, true), (11, true), (12, true), (13, true), (14, true), (15, true), (16, false)] (by kernel_rfl) (by kernel_rfl) ?_
          have f16 : ∀ u, Grows w3.drew u → u.cell? ⟨g, k - 16, none⟩ = some (.int .u32 (x16 : Int)) := fun u h => hcell_later (a := w3.drew) c16 h
          have f7 : ∀ u, Grows w3.drew u → u.cell? ⟨g, k - 7, none⟩ = some (.int .u32 (x7 : Int)) := fun u h => hcell_later (a := w3.drew) c7 h
          have hO := Grows.refl w3.drew
          have d16 : (16 : Int) ≤ (k : Int) := by omega
          have d7 : (7 : Int) ≤ (k : Int) := by omega
          have l16 : (k : Int) - 16 < (k : Int) := by omega
          have l7 : (k : Int) - 7 < (k : Int) := by omega
          clear c16 c7
          repeat (first | (refine ord_take hO _ ?_ (by simp only [List.getElem?_cons_succ, List.getElem?_cons_zero]; rfl) (by rfl) ?_ ?_; rotate_left; (· (intro u hu0 hu; (try go_simp); (try with_reducible rfl))); try simp only [Act.put, List.setIfInBounds_toArray, List.set_cons_zero, List.set_cons_succ]) | (refine ord_skip _ (by simp only [List.getElem?_cons_succ, List.getElem?_cons_zero]; rfl) (by rfl) ?_; try simp only [Act.put, List.setIfInBounds_toArray, List.set_cons_zero, List.set_cons_succ]))
          (refine ord_move _ (by simp only [List.getElem?_cons_succ, List.getElem?_cons_zero]; rfl) (by rfl) (fun u hu K hK => ?_); go_simp)
          refine hK.out _ _ (grows_alloc _ _) ?_
          clear hK K
          have hO' := Grows.trans hu (grows_alloc u (.cells #[uv t3] 100))
          have hnew := Lies.new u 100 [uv t3]
          have hown4 := own_later (w := w3.drew) HO.out hO'
          have hgr4 := Grows.trans (below_draws (n := 1) hgr2) hO'
          clear hO HO
          have hz4 : u.heap.size + 1 = (u.alloc (.cells #[uv t3] 100)).heap.size := by simp
          have hz5 : u.heap.size < u.heap.size + 1 := Nat.lt_succ_self _
          rw [hz4] at hnew hz5
          generalize u.heap.size = gu at *
          generalize u.alloc (.cells #[uv t3] 100) = w4 at *
          clear hz4 hu f16 f7
          (refine ord_done (fun u hu => ?_); simp only [List.drop_succ_cons, List.drop_zero])
          have hnew5 := hnew.later hu
          have hown5 := own_later hown4 hu
          have hgr5 := Grows.trans hgr4 hu
          clear hnew hown4 hgr4 hu hO' hgr2
          generalize hwu : u = w5 at *
          clear hwu
          go_wp2_with (at_builtin; refine wpList_append_src _ rfl (.tmp 75) (.tmp 91) _ rfl w1.heap.size 100 i0 _ 4 Tryz.underlying101 hi0 hz0 hz1 hz2 rfl (.slice (some ⟨g, 0, none⟩) k c) k _ rfl hown5 _ _ 1 1 [uv t3] rfl rfl hnew5 (by simp [Value.oneCell']) (by unfold maxLen; omega) (by omega) hgr5.size ?_; intro v' w' hown' hg' hat')
          have hb2 : Grows w1 w' := hgr5.grown hg' hgr5.size (own_ge hown5)
          refine NoPanic.normal ?_
          go_wp2_with fail
          go_roundw
          case rel => exact ⟨k + 1, by omega, by omega, by go_num, by rw [HT.out]; exact hown', hb2⟩
          case measure => simp [intOf]; omega
        · obtain rfl : k = 64 := by omega
          rw [show ((64 : Nat) : Int) = 64 from rfl]
          obtain ⟨gw, cw, rfl, hcw, hgw, hhas⟩ := own_range hown (by omega)
          have hw5 : wr.rangeAt gw 0 ((spreadL blk).map uv) := hhas.cells
          have hk5 := range_later hk1 hgr
          have hh5 := range_later hh (Grows.trans hg1 hgr)
          have hg5 : Grows w wr := Grows.trans hg1 hgr
          have hwl := spreadL_len blk
          have hwb := spreadL_lt blk
          have HM := Lib.hid (show mix v blk = add8 v (rounds roots64 (spreadL blk) 64 v) from rfl)
          clear hown hhas hgr hk1 hh hb hb1 hgk hg1
          generalize spreadL blk = ws at *
          generalize wr = w5 at *
          have HWL := Lib.hid hwl
          have HWB := Lib.hid hwb
          clear hwl hwb
          have hLh : Lies w5 w5.heap.size (some ⟨gh, 0, none⟩) (v.list.map uv) := fun j u hu => ⟨_, rfl, World.block_lt_of_cell? w5 ⟨gh, 0 + j, none⟩ (hh5 j u hu), by rw [add_plain]; exact hh5 j u hu⟩
          go_wp2_with (at_builtin; refine wpList_append_src _ rfl (.tmp 93) (.tmp 94) _ rfl w5.heap.size 100 i0 _ 4 Tryz.underlying101 hi0 hz0 hz1 hz2 rfl (.slice none 0 0) 0 [] rfl (World.ownsRow_nil _ _ _ _) _ _ 8 ch (v.list.map uv) rfl rfl hLh (uv_one _) (by unfold maxLen; omega) (by omega) (Nat.le_refl _) ?_; intro v' w6 hown6 hg6 hat6)
          have hgr6 : Grows w5 w6 := (Grows.refl w5).grown hg6 (Nat.le_refl _) (by simp [Value.ownBlock])
          rw [Nat.zero_add, List.nil_append] at hown6
          obtain ⟨g6, c6, rfl, hc6, hgb6, hhas6⟩ := own_range hown6 (by omega)
          clear hown6 hg6 hat6 hLh
          go_loopw [11, 12] (fun t i wr => ∃ k : Nat, k ≤ 64 ∧ i = .int .i64 k ∧ ∃ g c, t = .slice (some ⟨g, 0, none⟩) 8 c ∧ w5.heap.size ≤ g ∧ Has wr g ((rounds roots64 ws k v).list.map uv) ∧ Grows w5 wr) (fun _ i _ => 64 - (intOf i).toNat)
          case atStart => exact ⟨0, by omega, rfl, g6, c6, rfl, hgb6, hhas6, hgr6⟩
          case round =>
            clear hhas6 hgr6 hgb6 hc6
            obtain ⟨k, hk, rfl, g, c, rfl, hgb, hhas, hgr⟩ := hrel
            by_cases hlt : k < 64
            · have hOk := rounds_ok hv roots64 ws k
              have HR := Lib.hid (show rounds roots64 ws (k + 1) v = rnd (rounds roots64 ws k v) (roots64.getD k 0) (ws.getD k 0) from rfl)
              generalize rounds roots64 ws k v = V at hOk HR hhas
              obtain ⟨xa, xb, xc, xd, xe, xf, xg, xh⟩ := V
              obtain ⟨ba, bb, bc, bd, be, bf, bg, bh⟩ := hOk
              simp only [] at ba bb bc bd be bf bg bh
              have hkc : ∀ u, Grows w5 u → u.cell? ⟨gk, k, none⟩ = some (.int .u32 ((roots64.getD k 0 : Nat) : Int)) := fun u h => by
                have := uv_at (range_later hk5 h) k (by rw [roots64_len]; exact hlt)
                rwa [Nat.zero_add] at this
              have hwc : ∀ u, Grows w5 u → u.cell? ⟨gw, k, none⟩ = some (.int .u32 ((ws.getD k 0 : Nat) : Int)) := fun u h => by
                have := uv_at (range_later hw5 h) k (by rw [HWL.out]; exact hlt)
                rwa [Nat.zero_add] at this
              generalize roots64.getD k 0 = kk at *
              generalize ws.getD k 0 = wk at *
              have HKC := Lib.hid hkc
              have HWC := Lib.hid hwc
              clear hkc hwc
              have k0 : (k : Int) < 64 := by omega
              -- one
              have e1 := u32_xor_nat (ror 6 xe) (ror 11 xe) (ror_lt (by omega) be) (ror_lt (by omega) be)
              have e2 : bits .xor .u32 ((ror 6 xe ^^^ ror 11 xe : Nat) : Int) (ror 25 xe : Int) = (bigE xe : Int) := u32_xor_nat _ _ (xor_lt (ror_lt (by omega) be) (ror_lt (by omega) be)) (ror_lt (by omega) be)
              generalize (ror 6 xe ^^^ ror 11 xe) = y1 at e1 e2
              have d4 := hhas.cell (k := 4) rfl
              simp only [uv] at d4
              go_wp2_with fail
              go_quiet (((go_at_call 106; first | exact turn_quiet 6 (by rfl) be (by decide) | exact turn_quiet 11 (by rfl) be (by decide) | exact turn_quiet 25 (by rfl) be (by decide))))
              have hgr1 : Grows w5 (wr.drewN nq) := below_draws hgr
              have hhas1 := hhas.drawn (m := nq)
              clear hgr hhas d4 e1 e2
              generalize wr.drewN nq = wr1 at *
              -- choose
              have e1 := u32_and_nat xe xf be bf
              have e2 := and_sub xe xg be bg
              have e3 : bits .xor .u32 ((xe &&& xf : Nat) : Int) (((4294967295 - xe) &&& xg : Nat) : Int) = (choose xe xf xg : Int) := u32_xor_nat _ _ (and_lt be) (and_lt (by omega))
              generalize (xe &&& xf) = y1 at e1 e3
              generalize ((4294967295 - xe) &&& xg) = y2 at e2 e3
              have d4 := hhas1.cell (k := 4) rfl
              have d5 := hhas1.cell (k := 5) rfl
              have d6 := hhas1.cell (k := 6) rfl
              simp only [uv] at d4 d5 d6
              go_wp2_with fail
              go_quiet (fail)
              have hgr2 : Grows w5 (wr1.drewN nq) := below_draws hgr1
              have hhas2 := hhas1.drawn (m := nq)
              clear hgr1 hhas1 d4 d5 d6 e1 e2 e3
              generalize wr1.drewN nq = wr2 at *
              -- t
              have t1 := wrap_add xh (bigE xe)
              have t2 := wrap_add ((xh + bigE xe) % 4294967296) (choose xe xf xg)
              have t3 := wrap_add (((xh + bigE xe) % 4294967296 + choose xe xf xg) % 4294967296) kk
              have t4 := wrap_add ((((xh + bigE xe) % 4294967296 + choose xe xf xg) % 4294967296 + kk) % 4294967296) wk
              have HT := Lib.hid (show tee ⟨xa, xb, xc, xd, xe, xf, xg, xh⟩ kk wk = ((((xh + bigE xe) % 4294967296 + choose xe xf xg) % 4294967296 + kk) % 4294967296 + wk) % 4294967296 from rfl)
              have d7 := hhas2.cell (k := 7) rfl
              simp only [uv] at d7
              have dk := HKC.out _ hgr2
              have dw := HWC.out _ hgr2
              generalize (xh + bigE xe) % 4294967296 = t1v at *
              generalize (t1v + choose xe xf xg) % 4294967296 = t2v at *
              generalize (t2v + kk) % 4294967296 = t3v at *
              generalize (t3v + wk) % 4294967296 = tv at *
              have HB := Lib.hid (bigE_lt be)
              generalize bigE xe = sE at *
              generalize choose xe xf xg = sC at *
              go_wp2_with fail
              go_quiet (fail)
              have hgr3 : Grows w5 (wr2.drewN nq) := below_draws hgr2
              have hhas3 := hhas2.drawn (m := nq)
              clear hgr2 hhas2 d7 dk dw t1 t2 t3 t4
              generalize wr2.drewN nq = wr3 at *
              -- two
              have e1 := u32_xor_nat (ror 2 xa) (ror 13 xa) (ror_lt (by omega) ba) (ror_lt (by omega) ba)
              have e2 : bits .xor .u32 ((ror 2 xa ^^^ ror 13 xa : Nat) : Int) (ror 22 xa : Int) = (bigA xa : Int) := u32_xor_nat _ _ (xor_lt (ror_lt (by omega) ba) (ror_lt (by omega) ba)) (ror_lt (by omega) ba)
              generalize (ror 2 xa ^^^ ror 13 xa) = y1 at e1 e2
              have d0 := hhas3.cell (k := 0) rfl
              simp only [uv] at d0
              go_wp2_with fail
              go_quiet (((go_at_call 106; first | exact turn_quiet 2 (by rfl) ba (by decide) | exact turn_quiet 13 (by rfl) ba (by decide) | exact turn_quiet 22 (by rfl) ba (by decide))))
              have hgr4 : Grows w5 (wr3.drewN nq) := below_draws hgr3
              have hhas4 := hhas3.drawn (m := nq)
              clear hgr3 hhas3 d0 e1 e2
              generalize wr3.drewN nq = wr4 at *
              -- most
              have e1 := u32_and_nat xa xb ba bb
              have e2 := u32_and_nat xa xc ba bc
              have e3 := u32_and_nat xb xc bb bc
              have e4 := u32_xor_nat (xa &&& xb) (xa &&& xc) (and_lt ba) (and_lt ba)
              have e5 : bits .xor .u32 ((((xa &&& xb) ^^^ (xa &&& xc)) : Nat) : Int) ((xb &&& xc : Nat) : Int) = (most xa xb xc : Int) := u32_xor_nat _ _ (xor_lt (and_lt ba) (and_lt ba)) (and_lt bb)
              generalize ((xa &&& xb) ^^^ (xa &&& xc)) = y4 at e4 e5
              generalize (xa &&& xb) = y1 at e1 e4
              generalize (xa &&& xc) = y2 at e2 e4
              generalize (xb &&& xc) = y3 at e3 e5
              have d0 := hhas4.cell (k := 0) rfl
              have d1 := hhas4.cell (k := 1) rfl
              have d2 := hhas4.cell (k := 2) rfl
              simp only [uv] at d0 d1 d2
              go_wp2_with fail
              go_quiet (fail)
              have hgr5 : Grows w5 (wr4.drewN nq) := below_draws hgr4
              have hhas5 := hhas4.drawn (m := nq)
              clear hgr4 hhas4 d0 d1 d2 e1 e2 e3 e4 e5
              generalize wr4.drewN nq = wr5 at *
              -- the next eight
              have HY := Lib.hid (show you ⟨xa, xb, xc, xd, xe, xf, xg, xh⟩ = (bigA xa + most xa xb xc) % 4294967296 from rfl)
              have t1 := wrap_add tv (bigA xa)
              have t2 := wrap_add ((tv + bigA xa) % 4294967296) (most xa xb xc)
              have t3 := wrap_add xd tv
              generalize bigA xa = sA at *
              generalize most xa xb xc = sM at *
              have HV : Hid ((rounds roots64 ws (k + 1) v).list = [((tv + sA) % 4294967296 + sM) % 4294967296, xa, xb, xc, (xd + tv) % 4294967296, xe, xf, xg]) := by
                show (rounds roots64 ws (k + 1) v).list = _
                rw [HR.out]
                simp only [rnd, V8.list, HT.out, HY.out]
                rw [show (tv + (sA + sM) % 4294967296) % 4294967296 = ((tv + sA) % 4294967296 + sM) % 4294967296 by omega]
              generalize (tv + sA) % 4294967296 = z1 at *
              generalize (z1 + sM) % 4294967296 = za at *
              generalize (xd + tv) % 4294967296 = ze at *
              have d0 := hhas5.cell (k := 0) rfl
              have d1 := hhas5.cell (k := 1) rfl
              have d2 := hhas5.cell (k := 2) rfl
              have d3 := hhas5.cell (k := 3) rfl
              have d4 := hhas5.cell (k := 4) rfl
              have d5 := hhas5.cell (k := 5) rfl
              have d6 := hhas5.cell (k := 6) rfl
              simp only [uv] at d0 d1 d2 d3 d4 d5 d6
              clear hhas5
              go_wp2_with fail
              go_still_tail 28, (by kernel_rfl)
              change wpList _ _ _ _ _ wr5.drew
              have hgr6 : Grows w5 wr5.drew := hgr5.drew
              clear d0 d1 d2 d3 d4 d5 d6 t1 t2 t3 hgr5
              generalize wr5.drew = wr6 at *
              have hN := Has.new wr6 100 ([za, xa, xb, xc, ze, xe, xf, xg].map uv)
              have hgN := Grows.trans hgr6 (grows_alloc wr6 (.cells ([za, xa, xb, xc, ze, xe, xf, xg].map uv).toArray 100))
              go_wp2_with fail
              go_roundw
              case rel => exact ⟨k + 1, by omega, by go_num, _, _, rfl, hgr6.size, by rw [HV.out]; exact hN, hgN⟩
              case measure => simp [intOf]; omega
            · obtain rfl : k = 64 := by omega
              rw [show ((64 : Nat) : Int) = 64 from rfl]
              have hadd := add8_at v (rounds roots64 ws 64 v)
              rw [← HM.out] at hadd
              have l1 : (mix v blk).list.length = 8 := rfl
              have l2 : (rounds roots64 ws 64 v).list.length = 8 := rfl
              have l3 : v.list.length = 8 := rfl
              clear hw5 hk5 HWL HWB HM
              generalize hml : (mix v blk).list = ml at *
              have HML := Lib.hid hml
              clear hml
              generalize (rounds roots64 ws 64 v).list = rl at *
              generalize v.list = vl at *
              have HA := Lib.hid hadd
              have L1 := Lib.hid l1
              have L2 := Lib.hid l2
              have L3 := Lib.hid l3
              clear hadd l1 l2 l3
              go_wp2_with fail
              go_loopw [18] (fun i wr => ∃ k : Nat, k ≤ 8 ∧ i = .int .i64 k ∧ Has wr g ((ml.take k ++ rl.drop k).map uv) ∧ Grows w5 wr) (fun i _ => 8 - (intOf i).toNat)
              case atStart => exact ⟨0, by omega, rfl, by simpa using hhas, hgr⟩
              case round =>
                clear hhas hgr
                obtain ⟨k, hk, rfl, hhas, hgr⟩ := hrel
                by_cases hlt : k < 8
                · have d1 := uv_has hhas k (by simp [L1.out, L2.out]; omega)
                  rw [mid_getD _ _ _ (by rw [L1.out]; omega) (by rw [L2.out]; exact hlt)] at d1
                  have d2 := uv_at (range_later hh5 hgr) k (by rw [L3.out]; exact hlt)
                  rw [Nat.zero_add] at d2
                  have t1 := wrap_add (rl.getD k 0) (vl.getD k 0)
                  rw [← HA.out k hlt] at t1
                  have hset := hhas.set_ (k := k) (by simp [L1.out, L2.out]; omega) (uv (ml.getD k 0))
                  rw [← List.map_set, mid_set ml rl k _ (getD_some (by rw [L1.out]; exact hlt)) (by rw [L2.out]; exact hlt)] at hset
                  have hfr := hhas.free k
                  have hgs := hgr.setCell (p := ⟨g, k, none⟩) hgb (uv (ml.getD k 0))
                  have hsd : ((wr.setCell ⟨g, k, none⟩ (uv (ml.getD k 0))).drew) = (wr.drew.setCell ⟨g, k, none⟩ (uv (ml.getD k 0))) := rfl
                  have hsetd := hset.drew
                  have hgsd := hgs.drew
                  rw [hsd] at hsetd hgsd
                  clear hsd hset hgs
                  generalize rl.getD k 0 = x at *
                  generalize vl.getD k 0 = y at *
                  generalize ml.getD k 0 = z at *
                  have k0 : (k : Int) < 8 := by omega
                  go_wp2_with fail
                  go_still_tail 12, (by kernel_rfl)
                  change wpList _ _ _ _ _ wr.drew
                  have hfr' : wr.drew.frozen? ⟨g, k, none⟩ = false := hfr
                  have d1' : wr.drew.cell? ⟨g, k, none⟩ = _ := d1
                  clear d1 d2 hfr hhas hgr
                  generalize wr.drew = wr2 at *
                  go_wp2_with fail
                  go_roundw
                  case rel => exact ⟨k + 1, by omega, by go_num, hsetd, hgsd⟩
                  case measure => simp [intOf]; omega
                · obtain rfl : k = 8 := by omega
                  rw [show ((8 : Nat) : Int) = 8 from rfl]
                  rw [List.take_of_length_le (by rw [L1.out]; omega), List.drop_of_length_le (by rw [L2.out]; omega), List.append_nil] at hhas
                  go_wp2_with fail
                  go_ret
                  exact ⟨g, c, rfl, by rw [HML.out]; exact hhas.cells, Grows.trans hg5 hgr⟩
end Go.Proofs.YtbcldknecdbemaaGreatDoor
