/-
  SHA-256 as functions of lists and numbers (of no program), and what the walks ask of them.
-/
namespace Go.Proofs.YtfpgnihibgmeeaaDoor
set_option linter.unusedVariables false

/-- x turned round to the right by n. -/
def ror (n x : Nat) : Nat := x / 2 ^ n + x % 2 ^ n * 2 ^ (32 - n)
def bigE (e : Nat) : Nat := ror 6 e ^^^ ror 11 e ^^^ ror 25 e
def bigA (a : Nat) : Nat := ror 2 a ^^^ ror 13 a ^^^ ror 22 a
def choose (e f g : Nat) : Nat := (e &&& f) ^^^ ((4294967295 - e) &&& g)
def most (a b c : Nat) : Nat := (a &&& b) ^^^ (a &&& c) ^^^ (b &&& c)
def smallX (x : Nat) : Nat := ror 7 x ^^^ ror 18 x ^^^ x / 8
def smallY (y : Nat) : Nat := ror 17 y ^^^ ror 19 y ^^^ y / 1024

structure V8 where
  (a b c d e f g h : Nat)
def V8.list (v : V8) : List Nat := [v.a, v.b, v.c, v.d, v.e, v.f, v.g, v.h]
structure V8.Ok (v : V8) : Prop where
  a : v.a < 4294967296
  b : v.b < 4294967296
  c : v.c < 4294967296
  d : v.d < 4294967296
  e : v.e < 4294967296
  f : v.f < 4294967296
  g : v.g < 4294967296
  h : v.h < 4294967296
def tee (v : V8) (k w : Nat) : Nat := ((((v.h + bigE v.e) % 4294967296 + choose v.e v.f v.g) % 4294967296 + k) % 4294967296 + w) % 4294967296
def you (v : V8) : Nat := (bigA v.a + most v.a v.b v.c) % 4294967296
def rnd (v : V8) (k w : Nat) : V8 := ⟨(tee v k w + you v) % 4294967296, v.a, v.b, v.c, (v.d + tee v k w) % 4294967296, v.e, v.f, v.g⟩
def rounds (ks ws : List Nat) : Nat → V8 → V8
  | 0, v => v
  | i + 1, v => rnd (rounds ks ws i v) (ks.getD i 0) (ws.getD i 0)
def add8 (x y : V8) : V8 := ⟨(x.a + y.a) % 4294967296, (x.b + y.b) % 4294967296, (x.c + y.c) % 4294967296, (x.d + y.d) % 4294967296, (x.e + y.e) % 4294967296, (x.f + y.f) % 4294967296, (x.g + y.g) % 4294967296, (x.h + y.h) % 4294967296⟩

/-- Four bytes' word. -/
def wordAt (l : List UInt8) (i : Nat) : Nat := (l.getD i 0).toNat * 16777216 + (l.getD (i + 1) 0).toNat * 65536 + (l.getD (i + 2) 0).toNat * 256 + (l.getD (i + 3) 0).toNat
theorem wordAt_lt (l : List UInt8) (i : Nat) : wordAt l i < 4294967296 := by
  unfold wordAt
  have := (l.getD i 0).toNat_lt
  have := (l.getD (i + 1) 0).toNat_lt
  have := (l.getD (i + 2) 0).toNat_lt
  have := (l.getD (i + 3) 0).toNat_lt
  omega
def nextW (ws : List Nat) (i : Nat) : Nat := (((ws.getD (i - 16) 0 + smallX (ws.getD (i - 15) 0)) % 4294967296 + ws.getD (i - 7) 0) % 4294967296 + smallY (ws.getD (i - 2) 0)) % 4294967296
def spreadTo (blk : List UInt8) : Nat → List Nat
  | 0 => []
  | i + 1 => spreadTo blk i ++ [if i < 16 then wordAt blk (4 * i) else nextW (spreadTo blk i) i]
def spreadL (blk : List UInt8) : List Nat := spreadTo blk 64

theorem spreadTo_len (blk : List UInt8) : ∀ i, (spreadTo blk i).length = i
  | 0 => rfl
  | i + 1 => by simp [spreadTo, spreadTo_len blk i]
theorem spreadTo_take (blk : List UInt8) : ∀ n i, i ≤ n → (spreadTo blk n).take i = spreadTo blk i
  | 0, i, h => by
    obtain rfl : i = 0 := by omega
    rfl
  | n + 1, i, h => by
    by_cases hi : i = n + 1
    · subst hi
      exact List.take_of_length_le (by rw [spreadTo_len]; omega)
    · rw [spreadTo, List.take_append_of_le_length (by rw [spreadTo_len]; omega)]
      exact spreadTo_take blk n i (by omega)
theorem spreadL_len (blk : List UInt8) : (spreadL blk).length = 64 := spreadTo_len blk 64
theorem spreadL_take (blk : List UInt8) (i : Nat) (h : i ≤ 64) : (spreadL blk).take i = spreadTo blk i := spreadTo_take blk 64 i h
theorem spreadTo_getD (blk : List UInt8) (i j : Nat) (hj : j < i) (hi : i ≤ 64) : (spreadTo blk i).getD j 0 = (spreadL blk).getD j 0 := by
  rw [← spreadL_take blk i hi]
  simp [hj]
theorem spreadL_at (blk : List UInt8) (i : Nat) (h : i < 64) : (spreadL blk)[i]? = some (if i < 16 then wordAt blk (4 * i) else nextW (spreadL blk) i) := by
  have h1 : (spreadTo blk (i + 1))[i]? = some (if i < 16 then wordAt blk (4 * i) else nextW (spreadTo blk i) i) := by
    rw [spreadTo, List.getElem?_append_right (by rw [spreadTo_len]; omega), spreadTo_len, Nat.sub_self]
    rfl
  rw [← spreadL_take blk (i + 1) (by omega), List.getElem?_take] at h1
  rw [if_pos (by omega)] at h1
  rw [h1]
  by_cases h16 : i < 16
  · rw [if_pos h16, if_pos h16]
  · rw [if_neg h16, if_neg h16]
    refine congrArg some ?_
    unfold nextW
    rw [spreadTo_getD blk i (i - 16) (by omega) (by omega), spreadTo_getD blk i (i - 15) (by omega) (by omega), spreadTo_getD blk i (i - 7) (by omega) (by omega), spreadTo_getD blk i (i - 2) (by omega) (by omega)]
theorem spreadL_lt (blk : List UInt8) : ∀ x ∈ spreadL blk, x < 4294967296 := by
  intro x hx
  obtain ⟨i, hi⟩ := List.getElem?_of_mem hx
  have hl : i < 64 := by
    have := (List.getElem?_eq_some_iff.1 hi).1
    rwa [spreadL_len] at this
  rw [spreadL_at blk i hl] at hi
  injection hi with hi
  rw [← hi]
  split
  · exact wordAt_lt _ _
  · exact Nat.mod_lt _ (by decide)

theorem getD_lt {l : List Nat} {m : Nat} (h : ∀ x ∈ l, x < m) (hm : 0 < m) (i : Nat) : l.getD i 0 < m := by
  rcases Nat.lt_or_ge i l.length with hi | hi
  · have : l.getD i 0 = l[i] := by simp [hi]
    rw [this]
    exact h _ (List.getElem_mem hi)
  · have : l.getD i 0 = 0 := by simp [hi]
    omega
theorem spreadTo_lt (blk : List UInt8) (k i : Nat) (hk : k ≤ 64) : (spreadTo blk k).getD i 0 < 4294967296 :=
  getD_lt (fun x hx => spreadL_lt blk x (by rw [← spreadL_take blk k hk] at hx; exact List.mem_of_mem_take hx)) (by decide) i

def roots64 : List Nat := [1116352408, 1899447441, 3049323471, 3921009573, 961987163, 1508970993, 2453635748, 2870763221,
  3624381080, 310598401, 607225278, 1426881987, 1925078388, 2162078206, 2614888103, 3248222580,
  3835390401, 4022224774, 264347078, 604807628, 770255983, 1249150122, 1555081692, 1996064986,
  2554220882, 2821834349, 2952996808, 3210313671, 3336571891, 3584528711, 113926993, 338241895,
  666307205, 773529912, 1294757372, 1396182291, 1695183700, 1986661051, 2177026350, 2456956037,
  2730485921, 2820302411, 3259730800, 3345764771, 3516065817, 3600352804, 4094571909, 275423344,
  430227734, 506948616, 659060556, 883997877, 958139571, 1322822218, 1537002063, 1747873779,
  1955562222, 2024104815, 2227730452, 2361852424, 2428436474, 2756734187, 3204031479, 3329325298]
theorem roots64_len : roots64.length = 64 := rfl
theorem roots64_lt : ∀ x ∈ roots64, x < 4294967296 := by decide
def start8 : V8 := ⟨1779033703, 3144134277, 1013904242, 2773480762, 1359893119, 2600822924, 528734635, 1541459225⟩
theorem start8_ok : start8.Ok := by constructor <;> decide

/-- What 64 bytes make of the words. -/
def mix (v : V8) (blk : List UInt8) : V8 := add8 v (rounds roots64 (spreadL blk) 64 v)

theorem rnd_ok {v : V8} (h : v.Ok) (k w : Nat) : (rnd v k w).Ok :=
  ⟨Nat.mod_lt _ (by decide), h.a, h.b, h.c, Nat.mod_lt _ (by decide), h.e, h.f, h.g⟩
theorem rounds_ok {v : V8} (h : v.Ok) (ks ws : List Nat) : ∀ i, (rounds ks ws i v).Ok
  | 0 => h
  | i + 1 => rnd_ok (rounds_ok h ks ws i) _ _
theorem add8_ok (x y : V8) : (add8 x y).Ok := by constructor <;> exact Nat.mod_lt _ (by decide)
theorem mix_ok (v : V8) (blk : List UInt8) : (mix v blk).Ok := add8_ok _ _

/-- The words behind the first k times 64 bytes. -/
def through (l : List UInt8) : Nat → V8
  | 0 => start8
  | k + 1 => mix (through l k) ((l.drop (64 * k)).take 64)
theorem through_ok (l : List UInt8) : ∀ k, (through l k).Ok
  | 0 => start8_ok
  | k + 1 => mix_ok _ _
theorem through_append (l r : List UInt8) : ∀ k, 64 * k ≤ l.length → through (l ++ r) k = through l k
  | 0, _ => rfl
  | k + 1, h => by
    rw [through, through, through_append l r k (by omega), List.drop_append_of_le_length (by omega), List.take_append_of_le_length (by rw [List.length_drop]; omega)]

/-- A number's eight bytes, the greatest part first. -/
def eight (n : Nat) : List UInt8 := [n / 72057594037927936, n / 281474976710656, n / 1099511627776, n / 4294967296, n / 16777216, n / 65536, n / 256, n].map fun x => UInt8.ofNat (x % 256)
/-- How many bytes 0 there are. -/
def gap (n : Nat) : Nat := (119 - n % 64) % 64
def padded (l : List UInt8) : List UInt8 := l ++ [128] ++ List.replicate (gap l.length) 0 ++ eight (8 * l.length)
theorem eight_len (n : Nat) : (eight n).length = 8 := rfl
theorem padded_len (l : List UInt8) : (padded l).length = l.length + 9 + gap l.length := by
  simp [padded, eight_len]; omega
theorem padded_mod (l : List UInt8) : (padded l).length % 64 = 0 := by
  rw [padded_len]; unfold gap; omega
def four (x : Nat) : List UInt8 := [x / 16777216, x / 65536, x / 256, x].map fun x => UInt8.ofNat (x % 256)
def bytesOf (v : V8) : List UInt8 := v.list.flatMap four
theorem bytesOf_len (v : V8) : (bytesOf v).length = 32 := rfl
/-- The digest. -/
def shaOf (l : List UInt8) : List UInt8 := bytesOf (through (padded l) ((padded l).length / 64))
theorem shaOf_len (l : List UInt8) : (shaOf l).length = 32 := rfl
end Go.Proofs.YtfpgnihibgmeeaaDoor
