/-
  Contracts, joined (ShaM ShaA ShaB).
-/
import Derived.Test.YtbcldknecdbemaaDoorRows
import Derived.Test.YtbcldknecdbemaaDoorP2
import Derived.Laws.BitsAllLaws
import Derived.Outline
import Derived.Lib.Hide
import Derived.BigQuiet
import Derived.StillTailTactics
import Derived.Test.YtbcldknecdbemaaDoorP6

/-
  SHA-256 as functions of lists and numbers (of no program), and what the walks ask of them.
-/
namespace Go.Proofs.YtbcldknecdbemaaDoor
set_option linter.unusedVariables false
set_option maxRecDepth 20000

/-- x turned round to the right by n. -/
def ror (n x : Nat) : Nat := x / 2 ^ n + x % 2 ^ n * 2 ^ (32 - n)
def bigE (e : Nat) : Nat := ror 6 e ^^^ ror 11 e ^^^ ror 25 e
def bigA (a : Nat) : Nat := ror 2 a ^^^ ror 13 a ^^^ ror 22 a
def choose (e f g : Nat) : Nat := (e &&& f) ^^^ ((4294967295 - e) &&& g)
def most (a b c : Nat) : Nat := (a &&& b) ^^^ (a &&& c) ^^^ (b &&& c)
def smallX (x : Nat) : Nat := ror 7 x ^^^ ror 18 x ^^^ x / 8
def smallY (y : Nat) : Nat := ror 17 y ^^^ ror 19 y ^^^ y / 1024

structure V8 where
  (a b c d e f g h : Nat)
def V8.list (v : V8) : List Nat := [v.a, v.b, v.c, v.d, v.e, v.f, v.g, v.h]
structure V8.Ok (v : V8) : Prop where
  a : v.a < 4294967296
  b : v.b < 4294967296
  c : v.c < 4294967296
  d : v.d < 4294967296
  e : v.e < 4294967296
  f : v.f < 4294967296
  g : v.g < 4294967296
  h : v.h < 4294967296
def tee (v : V8) (k w : Nat) : Nat := ((((v.h + bigE v.e) % 4294967296 + choose v.e v.f v.g) % 4294967296 + k) % 4294967296 + w) % 4294967296
def you (v : V8) : Nat := (bigA v.a + most v.a v.b v.c) % 4294967296
def rnd (v : V8) (k w : Nat) : V8 := ⟨(tee v k w + you v) % 4294967296, v.a, v.b, v.c, (v.d + tee v k w) % 4294967296, v.e, v.f, v.g⟩
def rounds (ks ws : List Nat) : Nat → V8 → V8
  | 0, v => v
  | i + 1, v => rnd (rounds ks ws i v) (ks.getD i 0) (ws.getD i 0)
def add8 (x y : V8) : V8 := ⟨(x.a + y.a) % 4294967296, (x.b + y.b) % 4294967296, (x.c + y.c) % 4294967296, (x.d + y.d) % 4294967296, (x.e + y.e) % 4294967296, (x.f + y.f) % 4294967296, (x.g + y.g) % 4294967296, (x.h + y.h) % 4294967296⟩

/-- Four bytes' word. -/
def wordAt (l : List UInt8) (i : Nat) : Nat := (l.getD i 0).toNat * 16777216 + (l.getD (i + 1) 0).toNat * 65536 + (l.getD (i + 2) 0).toNat * 256 + (l.getD (i + 3) 0).toNat
theorem wordAt_lt (l : List UInt8) (i : Nat) : wordAt l i < 4294967296 := by
  unfold wordAt
  have := (l.getD i 0).toNat_lt
  have := (l.getD (i + 1) 0).toNat_lt
  have := (l.getD (i + 2) 0).toNat_lt
  have := (l.getD (i + 3) 0).toNat_lt
  omega
def nextW (ws : List Nat) (i : Nat) : Nat := (((ws.getD (i - 16) 0 + smallX (ws.getD (i - 15) 0)) % 4294967296 + ws.getD (i - 7) 0) % 4294967296 + smallY (ws.getD (i - 2) 0)) % 4294967296
def spreadTo (blk : List UInt8) : Nat → List Nat
  | 0 => []
  | i + 1 => spreadTo blk i ++ [if i < 16 then wordAt blk (4 * i) else nextW (spreadTo blk i) i]
def spreadL (blk : List UInt8) : List Nat := spreadTo blk 64

theorem spreadTo_len (blk : List UInt8) : ∀ i, (spreadTo blk i).length = i
  | 0 => rfl
  | i + 1 => by simp [spreadTo, spreadTo_len blk i]
theorem spreadTo_take (blk : List UInt8) : ∀ n i, i ≤ n → (spreadTo blk n).take i = spreadTo blk i
  | 0, i, h => by
    obtain rfl : i = 0 := by omega
    rfl
  | n + 1, i, h => by
    by_cases hi : i = n + 1
    · subst hi
      exact List.take_of_length_le (by rw [spreadTo_len]; omega)
    · rw [spreadTo, List.take_append_of_le_length (by rw [spreadTo_len]; omega)]
      exact spreadTo_take blk n i (by omega)
theorem spreadL_len (blk : List UInt8) : (spreadL blk).length = 64 := spreadTo_len blk 64
theorem spreadL_take (blk : List UInt8) (i : Nat) (h : i ≤ 64) : (spreadL blk).take i = spreadTo blk i := spreadTo_take blk 64 i h
theorem spreadTo_getD (blk : List UInt8) (i j : Nat) (hj : j < i) (hi : i ≤ 64) : (spreadTo blk i).getD j 0 = (spreadL blk).getD j 0 := by
  rw [← spreadL_take blk i hi]
  simp [hj]
theorem spreadL_at (blk : List UInt8) (i : Nat) (h : i < 64) : (spreadL blk)[i]? = some (if i < 16 then wordAt blk (4 * i) else nextW (spreadL blk) i) := by
  have h1 : (spreadTo blk (i + 1))[i]? = some (if i < 16 then wordAt blk (4 * i) else nextW (spreadTo blk i) i) := by
    rw [spreadTo, List.getElem?_append_right (by rw [spreadTo_len]; omega), spreadTo_len, Nat.sub_self]
    rfl
  rw [← spreadL_take blk (i + 1) (by omega), List.getElem?_take] at h1
  rw [if_pos (by omega)] at h1
  rw [h1]
  by_cases h16 : i < 16
  · rw [if_pos h16, if_pos h16]
  · rw [if_neg h16, if_neg h16]
    refine congrArg some ?_
    unfold nextW
    rw [spreadTo_getD blk i (i - 16) (by omega) (by omega), spreadTo_getD blk i (i - 15) (by omega) (by omega), spreadTo_getD blk i (i - 7) (by omega) (by omega), spreadTo_getD blk i (i - 2) (by omega) (by omega)]
theorem spreadL_lt (blk : List UInt8) : ∀ x ∈ spreadL blk, x < 4294967296 := by
  intro x hx
  obtain ⟨i, hi⟩ := List.getElem?_of_mem hx
  have hl : i < 64 := by
    have := (List.getElem?_eq_some_iff.1 hi).1
    rwa [spreadL_len] at this
  rw [spreadL_at blk i hl] at hi
  injection hi with hi
  rw [← hi]
  split
  · exact wordAt_lt _ _
  · exact Nat.mod_lt _ (by decide)

theorem getD_lt {l : List Nat} {m : Nat} (h : ∀ x ∈ l, x < m) (hm : 0 < m) (i : Nat) : l.getD i 0 < m := by
  rcases Nat.lt_or_ge i l.length with hi | hi
  · have : l.getD i 0 = l[i] := by simp [hi]
    rw [this]
    exact h _ (List.getElem_mem hi)
  · have : l.getD i 0 = 0 := by simp [hi]
    omega
theorem spreadTo_lt (blk : List UInt8) (k i : Nat) (hk : k ≤ 64) : (spreadTo blk k).getD i 0 < 4294967296 :=
  getD_lt (fun x hx => spreadL_lt blk x (by rw [← spreadL_take blk k hk] at hx; exact List.mem_of_mem_take hx)) (by decide) i

def roots64 : List Nat := [1116352408, 1899447441, 3049323471, 3921009573, 961987163, 1508970993, 2453635748, 2870763221,
  3624381080, 310598401, 607225278, 1426881987, 1925078388, 2162078206, 2614888103, 3248222580,
  3835390401, 4022224774, 264347078, 604807628, 770255983, 1249150122, 1555081692, 1996064986,
  2554220882, 2821834349, 2952996808, 3210313671, 3336571891, 3584528711, 113926993, 338241895,
  666307205, 773529912, 1294757372, 1396182291, 1695183700, 1986661051, 2177026350, 2456956037,
  2730485921, 2820302411, 3259730800, 3345764771, 3516065817, 3600352804, 4094571909, 275423344,
  430227734, 506948616, 659060556, 883997877, 958139571, 1322822218, 1537002063, 1747873779,
  1955562222, 2024104815, 2227730452, 2361852424, 2428436474, 2756734187, 3204031479, 3329325298]
theorem roots64_len : roots64.length = 64 := rfl
theorem roots64_lt : ∀ x ∈ roots64, x < 4294967296 := by decide
def start8 : V8 := ⟨1779033703, 3144134277, 1013904242, 2773480762, 1359893119, 2600822924, 528734635, 1541459225⟩
theorem start8_ok : start8.Ok := by constructor <;> decide

/-- What 64 bytes make of the words. -/
def mix (v : V8) (blk : List UInt8) : V8 := add8 v (rounds roots64 (spreadL blk) 64 v)

theorem rnd_ok {v : V8} (h : v.Ok) (k w : Nat) : (rnd v k w).Ok :=
  ⟨Nat.mod_lt _ (by decide), h.a, h.b, h.c, Nat.mod_lt _ (by decide), h.e, h.f, h.g⟩
theorem rounds_ok {v : V8} (h : v.Ok) (ks ws : List Nat) : ∀ i, (rounds ks ws i v).Ok
  | 0 => h
  | i + 1 => rnd_ok (rounds_ok h ks ws i) _ _
theorem add8_ok (x y : V8) : (add8 x y).Ok := by constructor <;> exact Nat.mod_lt _ (by decide)
theorem mix_ok (v : V8) (blk : List UInt8) : (mix v blk).Ok := add8_ok _ _

/-- The words behind the first k times 64 bytes. -/
def through (l : List UInt8) : Nat → V8
  | 0 => start8
  | k + 1 => mix (through l k) ((l.drop (64 * k)).take 64)
theorem through_ok (l : List UInt8) : ∀ k, (through l k).Ok
  | 0 => start8_ok
  | k + 1 => mix_ok _ _
theorem through_append (l r : List UInt8) : ∀ k, 64 * k ≤ l.length → through (l ++ r) k = through l k
  | 0, _ => rfl
  | k + 1, h => by
    rw [through, through, through_append l r k (by omega), List.drop_append_of_le_length (by omega), List.take_append_of_le_length (by rw [List.length_drop]; omega)]

/-- A number's eight bytes, the greatest part first. -/
def eight (n : Nat) : List UInt8 := [n / 72057594037927936, n / 281474976710656, n / 1099511627776, n / 4294967296, n / 16777216, n / 65536, n / 256, n].map fun x => UInt8.ofNat (x % 256)
/-- How many bytes 0 there are. -/
def gap (n : Nat) : Nat := (119 - n % 64) % 64
def padded (l : List UInt8) : List UInt8 := l ++ [128] ++ List.replicate (gap l.length) 0 ++ eight (8 * l.length)
theorem eight_len (n : Nat) : (eight n).length = 8 := rfl
theorem padded_len (l : List UInt8) : (padded l).length = l.length + 9 + gap l.length := by
  simp [padded, eight_len]; omega
theorem padded_mod (l : List UInt8) : (padded l).length % 64 = 0 := by
  rw [padded_len]; unfold gap; omega
def four (x : Nat) : List UInt8 := [x / 16777216, x / 65536, x / 256, x].map fun x => UInt8.ofNat (x % 256)
def bytesOf (v : V8) : List UInt8 := v.list.flatMap four
theorem bytesOf_len (v : V8) : (bytesOf v).length = 32 := rfl
/-- The digest. -/
def shaOf (l : List UInt8) : List UInt8 := bytesOf (through (padded l) ((padded l).length / 64))
theorem shaOf_len (l : List UInt8) : (shaOf l).length = 32 := rfl
end Go.Proofs.YtbcldknecdbemaaDoor

/-
  Contracts of sha.turned (bits.RotateLeft32) and of the reference's turn, word and roots.
-/
namespace Go.Proofs.YtbcldknecdbemaaDoor
open Go.RowKit
set_option linter.unusedVariables false
set_option maxRecDepth 20000

theorem ret_uv {a b : Int} (h : a = b) : Ending.returned (.int .u32 a) = .returned (.int .u32 b) := by rw [h]
theorem and31 : ∀ n : Fin 32, 0 < n.val → bits .and .u64 (IntKind.u64.wrap (-(n.val : Int))) 31 = ((32 - n.val : Nat) : Int) := by decide +kernel
theorem wrap32 (a : Nat) : IntKind.u32.wrap (a : Int) = ((a % 4294967296 : Nat) : Int) := by
  simp [IntKind.wrap, IntKind.signed, IntKind.bits]
theorem pow_split {n : Nat} (hn : n ≤ 32) : 2 ^ n * 2 ^ (32 - n) = 4294967296 := by
  rw [← Nat.pow_add, show n + (32 - n) = 32 by omega]
theorem ror_lt {n x : Nat} (hn : n ≤ 32) (hx : x < 4294967296) : ror n x < 4294967296 := by
  unfold ror
  have hp := pow_split hn
  have h1 : 0 < 2 ^ n := Nat.two_pow_pos n
  have h2 : x / 2 ^ n < 2 ^ (32 - n) := Nat.div_lt_of_lt_mul (by rw [hp]; exact hx)
  have h3 : x % 2 ^ n < 2 ^ n := Nat.mod_lt _ h1
  calc x / 2 ^ n + x % 2 ^ n * 2 ^ (32 - n) < 2 ^ (32 - n) + x % 2 ^ n * 2 ^ (32 - n) := by omega
    _ = (x % 2 ^ n + 1) * 2 ^ (32 - n) := by rw [Nat.add_mul]; omega
    _ ≤ 2 ^ n * 2 ^ (32 - n) := Nat.mul_le_mul_right _ h3
    _ = 4294967296 := hp
theorem or_ror {n x : Nat} (h0 : 0 < n) (hn : n < 32) (hx : x < 4294967296) : bits .or .u32 (IntKind.u32.wrap ((x : Int) * 2 ^ (32 - n))) ((x : Int) / 2 ^ n) = (ror n x : Int) := by
  have hp := pow_split (n := n) (by omega)
  have e1 : IntKind.u32.wrap ((x : Int) * 2 ^ (32 - n)) = ((x % 2 ^ n * 2 ^ (32 - n) : Nat) : Int) := by
    have : ((x : Int) * 2 ^ (32 - n)) = ((x * 2 ^ (32 - n) : Nat) : Int) := by simp
    rw [this, wrap32, ← hp, Nat.mul_mod_mul_right]
  have e2 : (x : Int) / 2 ^ n = ((x / 2 ^ n : Nat) : Int) := by simp
  have h1 : 0 < 2 ^ n := Nat.two_pow_pos n
  have h2 : x / 2 ^ n < 2 ^ (32 - n) := Nat.div_lt_of_lt_mul (by rw [hp]; exact hx)
  have h3 : x % 2 ^ n < 2 ^ n := Nat.mod_lt _ h1
  have h4 : x % 2 ^ n * 2 ^ (32 - n) < 4294967296 := by
    rw [← hp]
    exact Nat.mul_lt_mul_of_pos_right h3 (Nat.two_pow_pos _)
  have h5 : x / 2 ^ n < 4294967296 := Nat.lt_of_le_of_lt (Nat.div_le_self _ _) hx
  rw [e1, e2, u32_or_nat _ _ h4 h5]
  congr 1
  rw [← Nat.shiftLeft_eq, ← Nat.shiftLeft_add_eq_or_of_lt h2, Nat.shiftLeft_eq]
  unfold ror
  omega

set_option maxHeartbeats 400000 in
theorem rotl_any (x n : Nat) (w : World) (hx : x < 4294967296) (h0 : 0 < n) (hn : n < 32) :
    Calls Tryd.prog 150 #[uv x, .int .i64 (-(n : Int))] w fun e w' => e = .returned (uv (ror n x)) ∧ w = w' := by
  have hor := Lib.hid (or_ror h0 hn hx)
  have h31 := and31 ⟨n, hn⟩ h0
  simp only [] at h31
  obtain ⟨m, hm⟩ : ∃ m, m = 32 - n := ⟨_, rfl⟩
  rw [← hm] at h31 hor
  have hm0 : m ≤ 32 := by omega
  have hm1 : IntKind.u64.wrap (32 - (m : Int)) = (n : Int) := by
    rw [show 32 - (m : Int) = (n : Int) by omega]
    exact IntWalk.u64_in _ (by omega)
  clear hm
  go_enter Tryd.func150, Tryd.ntmps150
  go_wp2
  go_ret
  exact ⟨ret_uv hor.out, rfl⟩

theorem ror_zero {x : Nat} : ror 0 x = x := by simp [ror, Nat.mod_one]
theorem ror_step {k x : Nat} (hk : k < 32) : ror k x / 2 + ror k x % 2 * 2147483648 = ror (k + 1) x := by
  unfold ror
  obtain ⟨j, hj⟩ : ∃ j, 32 - k = j + 1 := ⟨31 - k, by omega⟩
  rw [hj, show 32 - (k + 1) = j by omega, Nat.pow_succ 2 j, Nat.pow_succ 2 k]
  have hp : 2 ^ k * 2 ^ j = 2147483648 := by rw [← Nat.pow_add, show k + j = 31 by omega]
  have e1 : x / (2 ^ k * 2) = x / 2 ^ k / 2 := by rw [Nat.div_div_eq_div_mul]
  have e2 : x % (2 ^ k * 2) = x % 2 ^ k + 2 ^ k * (x / 2 ^ k % 2) := by rw [Nat.mod_mul]
  rw [e1, e2]
  generalize x / 2 ^ k = q
  generalize x % 2 ^ k = r
  have e3 : r * (2 ^ j * 2) = 2 * (r * 2 ^ j) := by rw [← Nat.mul_assoc, Nat.mul_comm]
  have e4 : 2 ^ k * (q % 2) * 2 ^ j = 2147483648 * (q % 2) := by rw [Nat.mul_assoc, Nat.mul_comm (q % 2), ← Nat.mul_assoc, hp]
  rw [e3, Nat.add_mul, e4]
  generalize r * 2 ^ j = s
  omega

set_option maxHeartbeats 400000 in
theorem turned_any (x n : Nat) (w : World) (hx : x < 4294967296) (h0 : 0 < n) (hn : n < 32) :
    Calls Tryd.prog 152 #[uv x, .int .i64 (n : Int)] w fun e w' => e = .returned (uv (ror n x)) ∧ w = w' := by
  go_enter Tryd.func152, Tryd.ntmps152
  go_wp2_with fail
  refine (rotl_any x n _ hx h0 hn).mono ?_
  rintro e w' ⟨rfl, rfl⟩
  go_wp2_with fail
  go_ret
  exact ⟨rfl, rfl⟩

theorem byte_at {w : World} {b o : Nat} {l : List UInt8} (h : w.rangeAt b o (l.map bv)) (i : Nat) (hi : i < l.length) : w.cell? ⟨b, o + i, none⟩ = some (.int .u8 ((l.getD i 0).toNat : Int)) :=
  h i _ (by rw [List.getElem?_map]; simp [hi])

theorem u32_info : (Tryd.prog.info? 62).map (fun i => (i.zero, i.size, i.bytes)) = some (some (.int .u32 0), 1, 4) := by kernel_rfl

theorem turned_quiet {x m : Nat} {z : Int} {w : World} (n : Nat) (hz : z = (n : Int)) (hx : x < 4294967296) (h0 : 0 < n) (hn : n < 32) :
    Calls Tryd.prog 152 #[.int .u32 (x : Int), .int .i64 z] (w.drewN m) fun e w'' => e = .returned (.int .u32 ((ror n x : Nat) : Int)) ∧ ∃ m, w'' = w.drewN m := by
  subst hz
  exact (turned_any x n _ hx h0 hn).mono fun _ _ ⟨he, hw⟩ => ⟨he, m, hw.symm⟩
end Go.Proofs.YtbcldknecdbemaaDoor

/-
  Contract of the reference's block (layer 2): what 64 bytes make of eight words.
-/
namespace Go.Proofs.YtbcldknecdbemaaDoor
open Go.RowKit
set_option linter.unusedVariables false
set_option maxRecDepth 20000

theorem uv_at {w : World} {b o : Nat} {l : List Nat} (h : w.rangeAt b o (l.map uv)) (i : Nat) (hi : i < l.length) : w.cell? ⟨b, o + i, none⟩ = some (.int .u32 ((l.getD i 0 : Nat) : Int)) :=
  h i _ (by rw [List.getElem?_map]; simp [hi])
theorem uv_has {w : World} {b : Nat} {l : List Nat} (h : Has w b (l.map uv)) (i : Nat) (hi : i < l.length) : w.cell? ⟨b, i, none⟩ = some (.int .u32 ((l.getD i 0 : Nat) : Int)) :=
  h.cell (by rw [List.getElem?_map]; simp [hi])
theorem wrap_add (a b : Nat) : IntKind.u32.wrap ((a : Int) + (b : Int)) = (((a + b) % 4294967296 : Nat) : Int) := by
  rw [← Int.natCast_add]
  exact wrap32 _
theorem and_sub (e g : Nat) (he : e < 4294967296) (hg : g < 4294967296) : bits .and .u32 (4294967295 - (e : Int)) (g : Int) = (((4294967295 - e) &&& g : Nat) : Int) := by
  rw [show 4294967295 - (e : Int) = ((4294967295 - e : Nat) : Int) by omega]
  exact u32_and_nat _ _ (by omega) hg
theorem and_lt {a b : Nat} (ha : a < 4294967296) : a &&& b < 4294967296 := Nat.lt_of_le_of_lt Nat.and_le_left ha
theorem xor_lt {a b : Nat} (ha : a < 4294967296) (hb : b < 4294967296) : a ^^^ b < 4294967296 := Nat.xor_lt_two_pow (n := 32) ha hb
theorem bigE_lt {e : Nat} (he : e < 4294967296) : bigE e < 4294967296 := xor_lt (xor_lt (ror_lt (by omega) he) (ror_lt (by omega) he)) (ror_lt (by omega) he)
theorem bigA_lt {e : Nat} (he : e < 4294967296) : bigA e < 4294967296 := xor_lt (xor_lt (ror_lt (by omega) he) (ror_lt (by omega) he)) (ror_lt (by omega) he)
theorem choose_lt {e f g : Nat} (he : e < 4294967296) : choose e f g < 4294967296 := xor_lt (and_lt he) (and_lt (by omega))
theorem most_lt {a b c : Nat} (ha : a < 4294967296) (hb : b < 4294967296) : most a b c < 4294967296 := xor_lt (xor_lt (and_lt ha) (and_lt ha)) (and_lt hb)
theorem add8_at (x y : V8) (k : Nat) (hk : k < 8) : (add8 x y).list.getD k 0 = (y.list.getD k 0 + x.list.getD k 0) % 4294967296 := by
  match k, hk with
  | 0, _ => simp [add8, V8.list, Nat.add_comm]
  | 1, _ => simp [add8, V8.list, Nat.add_comm]
  | 2, _ => simp [add8, V8.list, Nat.add_comm]
  | 3, _ => simp [add8, V8.list, Nat.add_comm]
  | 4, _ => simp [add8, V8.list, Nat.add_comm]
  | 5, _ => simp [add8, V8.list, Nat.add_comm]
  | 6, _ => simp [add8, V8.list, Nat.add_comm]
  | 7, _ => simp [add8, V8.list, Nat.add_comm]
theorem getD_some {l : List Nat} {k : Nat} (h : k < l.length) : l[k]? = some (l.getD k 0) := by simp [h]
theorem mid_getD (l z : List Nat) (k : Nat) (hl : k ≤ l.length) (hz : k < z.length) : (l.take k ++ z.drop k).getD k 0 = z.getD k 0 := by
  simp [List.getElem?_append_right, List.getElem?_drop, Nat.min_eq_left hl]
theorem own_range {w : World} {base : Nat} {e : TypeId} {v : Value} {n : Nat} {vs : List Value} (h : w.ownsRow base e 1 v n vs) (hn : 0 < n) : ∃ g c, v = .slice (some ⟨g, 0, none⟩) n c ∧ n ≤ c ∧ base ≤ g ∧ Has w g vs := by
  have h0 := h
  rcases h.2 with ⟨_, h'⟩ | ⟨g, cap, cur, rfl, hb, hg, hnc, _⟩
  · omega
  · refine ⟨g, cap, rfl, hnc, hb, ?_, fun j u hu => ?_, fun j => frozen_of_row w g j cur e hg⟩
    · rcases Nat.lt_or_ge g w.heap.size with hlt | hge
      · exact hlt
      · rw [Array.getElem?_eq_none hge] at hg; cases hg
    · obtain ⟨ad, e, _, hc⟩ := Lies.of_own h0 j u hu
      injection e with e
      subst e
      rwa [add_plain] at hc
theorem spread_snoc (blk : List UInt8) (k : Nat) (x : Nat) (hx : x = if k < 16 then wordAt blk (4 * k) else nextW (spreadTo blk k) k) : (spreadTo blk (k + 1)).map uv = (spreadTo blk k).map uv ++ [uv x] := by
  rw [spreadTo, List.map_append, hx]
  rfl

end Go.Proofs.YtbcldknecdbemaaDoor
