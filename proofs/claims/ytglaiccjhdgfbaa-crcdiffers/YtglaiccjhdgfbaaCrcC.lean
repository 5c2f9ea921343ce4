/-
  Contracts of crc's Put, number and Take, and of the reference's Put and Take.
-/
import Derived.Test.YtglaiccjhdgfbaaCrcA
import Derived.Test.YtglaiccjhdgfbaaMak
import Derived.Test.YtglaiccjhdgfbaaCut
import Derived.Test.YtglaiccjhdgfbaaRFew
namespace Go.Proofs.Ytglaiccjhdgfbaa
open Go.RowKit
set_option linter.unusedVariables false

/-- Four bytes of a number, the lowest one first. -/
def four (s : Nat) : List UInt8 := (List.range 4).map fun k => UInt8.ofNat (s / 2 ^ (8 * k))
theorem four_len (s : Nat) : (four s).length = 4 := by simp [four]
theorem four_take (s k : Nat) (hk : k < 4) : (four s).take (k + 1) = (four s).take k ++ [UInt8.ofNat (s / 2 ^ (8 * k))] := by
  rw [List.take_add_one]
  simp [four, hk]

set_option maxHeartbeats 1000000 in
theorem put_any (A : Option Addr) (n c : Nat) (bs : List UInt8) (w : World) (hl : bs.length = n) (hr : Lies w w.heap.size A (bs.map bv)) (hn : n ≤ 1000000000000) :
    Calls Try.prog 15 #[.slice A n c] w fun e w' => ∃ v, e = .returned v ∧ w'.ownsRow w.heap.size 5 1 v (n + 4) ((bs ++ four (crcOf bs)).map bv) ∧ Grows w w' := by
  obtain ⟨i0, hi0, hz0, hz1, hz2⟩ := info_parts byte_info
  have HL := Lib.hid hl
  clear hl
  have hs := cmore_lt (s := 0) (by omega) bs
  go_enter Try.func15, Try.ntmps15
  go_wp2_with (first
    | (at_make; refine wpList_make_room _ rfl _ _ _ rfl w.heap.size 5 i0 _ Try.underlying22 hi0 hz0 hz1 rfl .i64 .i64 _ _ n (n + 4) rfl rfl (by omega) (by omega) (by omega) (by rw [hz2]; omega) (by unfold maxLen; omega) (Nat.le_refl _) ?_; intro w1 hown1 hg1 hsz1)
    | (refine wpList_copy_row rfl (.tmp 12) (.tmp 13) 22 22 rfl 5 Try.underlying22 (by rw [hi0]; exact congrArg some hz1) w.heap.size (.slice (some ⟨w.heap.size, 0, none⟩) n (n + 4)) n _ rfl hown1 w.heap.size A n c (bs.map bv) rfl (by rw [List.length_map]; exact HL.out) (hr.below hg1) (bv_one bs) w hg1 ?_; intro w2 hown2 hg2 hsz2))
  have e1 : (bs.map bv).take n ++ (List.replicate n (Value.int .u8 0)).drop n = bs.map bv := by
    rw [List.take_of_length_le (by rw [List.length_map, HL.out]; exact Nat.le_refl _)]; simp
  rw [e1] at hown2
  clear e1
  refine (crcsum_any A n c bs w2 HL.out (hr.later hg2) hn).mono ?_
  rintro e w3 ⟨rfl, hg3⟩
  have hown3 := own_later hown2 hg3
  have hg13 := Grows.trans hg2 hg3
  clear hown1 hown2 hg1 hg2 hg3 hsz1 hsz2 hr
  have hs' : crcOf bs < 4294967296 := hs
  generalize hsx : crcOf bs = s at *
  have HSX := Lib.hid hsx
  clear hsx
  go_wp2_with fail
  go_loopw [3, 17] (fun v i wr => ∃ k : Nat, k ≤ 4 ∧ i = .int .i64 k ∧ wr.ownsRow w.heap.size 5 1 v (n + k) ((bs ++ (four s).take k).map bv) ∧ Grows w wr) (fun _ i _ => 4 - (intOf i).toNat)
  case atStart => exact ⟨0, by omega, rfl, by simpa using hown3, hg13⟩
  case round =>
    clear hown3 hg13
    obtain ⟨k, hk, rfl, hown, hgr⟩ := hrel
    by_cases hlt : k < 4
    · have HF := Lib.hid (four_take s k hlt)
      have hnew := Lies.new wr 5 [bv (UInt8.ofNat (s / 2 ^ (8 * k)))]
      go_wp2_with (at_builtin; refine wpList_append_src _ rfl (.tmp 20) (.tmp 26) _ rfl w.heap.size 5 i0 _ 1 Try.underlying22 hi0 hz0 hz1 hz2 rfl _ (n + k) _ rfl (hown.alloc _) _ _ 1 1 [bv (UInt8.ofNat (s / 2 ^ (8 * k)))] rfl rfl hnew (by simp [Value.oneCell']) (by unfold maxLen; omega) (by omega) (by rw [World.size_alloc]; have := hgr.size; omega) ?_; intro v' w' hown' hg' hat')
      have hb2 : Below w.heap.size wr w' := ((Below.refl _ wr).alloc hgr.size _).grown hg' (by rw [World.size_alloc]; have := hgr.size; omega) (own_ge hown)
      rw [show [bv (UInt8.ofNat (s / 2 ^ (8 * k)))] = [UInt8.ofNat (s / 2 ^ (8 * k))].map bv from rfl, ← List.map_append, List.append_assoc, ← HF.out] at hown'
      go_roundw
      case rel => exact ⟨k + 1, by omega, by go_num, hown', Below.trans hgr hb2⟩
      case measure => simp [intOf]; omega
    · obtain rfl : k = 4 := by omega
      go_wp2
      go_ret
      rw [List.take_of_length_le (by rw [four_len]; exact Nat.le_refl _)] at hown
      exact ⟨_, rfl, by rw [HSX.out]; exact hown, hgr⟩

/-- What four bytes tell, as far as k. -/
def numTo (l : List UInt8) : Nat → Nat
  | 0 => 0
  | k + 1 => numTo l k + (l.getD k 0).toNat * 2 ^ (8 * k)
theorem numTo_lt (l : List UInt8) : ∀ k, numTo l k < 2 ^ (8 * k)
  | 0 => by simp [numTo]
  | k + 1 => by
    have ih := numTo_lt l k
    have hb := (l.getD k 0).toNat_lt
    rw [numTo, show 8 * (k + 1) = 8 * k + 8 by omega, Nat.pow_add]
    generalize (l.getD k 0).toNat = b at *
    generalize 2 ^ (8 * k) = p at *
    have : b * p ≤ 255 * p := Nat.mul_le_mul_right _ (by omega)
    omega

theorem or_place (x b k : Nat) (hk : k < 4) (hx : x < 2 ^ (8 * k)) (hb : b < 256) : bits .or .u32 (x : Int) ((b : Int) * 2 ^ (8 * k) % 4294967296) = ((x + b * 2 ^ (8 * k) : Nat) : Int) := by
  have hp : 2 ^ (8 * k) * 256 ≤ 4294967296 := by
    have : 2 ^ (8 * k) * 256 = 2 ^ (8 * k + 8) := by rw [Nat.pow_add]
    rw [this]
    exact Nat.pow_le_pow_right (n := 2) (by omega) (show 8 * k + 8 ≤ 32 by omega)
  have h1 : b * 2 ^ (8 * k) < 4294967296 := by
    have : b * 2 ^ (8 * k) ≤ 255 * 2 ^ (8 * k) := Nat.mul_le_mul_right _ (by omega)
    have : 0 < 2 ^ (8 * k) := Nat.two_pow_pos _
    omega
  have e1 : (b : Int) * 2 ^ (8 * k) % 4294967296 = ((b * 2 ^ (8 * k) : Nat) : Int) := by
    have : (b : Int) * 2 ^ (8 * k) = ((b * 2 ^ (8 * k) : Nat) : Int) := by simp
    rw [this]
    omega
  have h2 : x < 4294967296 := by omega
  rw [e1, u32_or_nat _ _ h2 h1]
  congr 1
  rw [Nat.or_comm, ← Nat.shiftLeft_eq, ← Nat.shiftLeft_add_eq_or_of_lt hx, Nat.add_comm]

set_option maxHeartbeats 1000000 in
theorem number_any (A : Option Addr) (c : Nat) (l : List UInt8) (w : World) (hl : l.length = 4) (hr : Lies w w.heap.size A (l.map bv)) :
    Calls Try.prog 23 #[.slice A 4 c] w fun e w' => e = .returned (uv (numTo l 4)) ∧ w = w' := by
  have HL := Lib.hid hl
  clear hl
  go_enter Try.func23, Try.ntmps23
  go_wp2
  go_loop [3, 5] (fun x i => ∃ k : Nat, k ≤ 4 ∧ i = .int .i64 k ∧ x = uv (numTo l k)) (fun _ i => 4 - (intOf i).toNat)
  case atStart => exact ⟨0, by omega, rfl, rfl⟩
  case round =>
    obtain ⟨k, hk, rfl, rfl⟩ := hrel
    by_cases hlt : k < 4
    · obtain ⟨b, hbk⟩ : ∃ b, l[k]? = some b := ⟨_, List.getElem?_eq_getElem (by rw [HL.out]; exact hlt)⟩
      obtain ⟨ad, rfl, _, cx⟩ := hr.at_ (j := k) (u := bv b) (by rw [List.getElem?_map, hbk]; rfl)
      have HS : Hid (numTo l (k + 1) = numTo l k + b.toNat * 2 ^ (8 * k)) := by show _ = _; rw [numTo, List.getD, hbk]; rfl
      have hx := numTo_lt l k
      clear hbk
      generalize numTo l k = x at *
      have hb8 := b.toNat_lt
      go_wp2
      go_round
      case rel => exact ⟨k + 1, by omega, by go_num, by rw [HS.out, or_place x b.toNat k hlt hx hb8]⟩
      case measure => simp [intOf]; omega
    · obtain rfl : k = 4 := by omega
      go_wp2
      go_ret
      exact ⟨rfl, rfl⟩

theorem num_inj (l : List UInt8) (s : Nat) (hl : l.length = 4) (hs : s < 4294967296) : numTo l 4 = s ↔ l = four s := by
  match l, hl with
  | [a, b, c, d], _ =>
    have ha := a.toNat_lt
    have hb := b.toNat_lt
    have hc := c.toNat_lt
    have hd := d.toNat_lt
    have e1 : numTo [a, b, c, d] 4 = a.toNat + b.toNat * 256 + c.toNat * 65536 + d.toNat * 16777216 := by simp [numTo]
    have e2 : four s = [UInt8.ofNat s, UInt8.ofNat (s / 256), UInt8.ofNat (s / 65536), UInt8.ofNat (s / 16777216)] := by simp [four, List.range, List.range.loop]
    rw [e1, e2]
    constructor
    · intro h
      have g1 : a = UInt8.ofNat s := by apply UInt8.toNat_inj.1; rw [UInt8.toNat_ofNat']; omega
      have g2 : b = UInt8.ofNat (s / 256) := by apply UInt8.toNat_inj.1; rw [UInt8.toNat_ofNat']; omega
      have g3 : c = UInt8.ofNat (s / 65536) := by apply UInt8.toNat_inj.1; rw [UInt8.toNat_ofNat']; omega
      have g4 : d = UInt8.ofNat (s / 16777216) := by apply UInt8.toNat_inj.1; rw [UInt8.toNat_ofNat']; omega
      rw [g1, g2, g3, g4]
    · intro h
      injection h with h1 h
      injection h with h2 h
      injection h with h3 h
      injection h with h4 h
      subst h1 h2 h3 h4
      simp only [UInt8.toNat_ofNat']
      omega

theorem number_g (A : Option Addr) (c : Nat) {x : Nat} {l : List UInt8} (hx : Hid (numTo l 4 = x)) (w : World) (hl : l.length = 4) (hr : Lies w w.heap.size A (l.map bv)) :
    Calls Try.prog 23 #[.slice A 4 c] w fun e w' => e = .returned (uv x) ∧ Grows w w' := by
  have h := hx.out
  subst h
  exact (number_any A c l w hl hr).mono fun e w' ⟨he, hw⟩ => ⟨he, by subst hw; exact Grows.refl _⟩
theorem sum_g (A : Option Addr) (n c : Nat) {s : Nat} {l : List UInt8} (hx : Hid (crcOf l = s)) (w : World) (hl : l.length = n) (hr : Lies w w.heap.size A (l.map bv)) (hn : n ≤ 1000000000000) :
    Calls Try.prog 10 #[.slice A n c] w fun e w' => e = .returned (uv s) ∧ Grows w w' := by
  have h := hx.out
  subst h
  exact crcsum_any A n c l w hl hr hn

/-- What Take answers: the bytes, and the error's number. -/
def takeOf (l : List UInt8) : List UInt8 × Nat :=
  if l.length < 4 then ([], 2) else if l.drop (l.length - 4) = four (crcOf (l.take (l.length - 4))) then (l.take (l.length - 4), 0) else ([], 7)

theorem byte_one : (Try.prog.info? 5).map (·.size) = some 1 := by kernel_rfl

set_option maxHeartbeats 1000000 in
theorem take_any (A : Option Addr) (n c : Nat) (bs : List UInt8) (w : World) (hl : bs.length = n) (hr : Lies w w.heap.size A (bs.map bv)) (hc : n ≤ c) (hn : n ≤ 1000000000000) :
    Calls Try.prog 18 #[.slice A n c] w fun e w' => ∃ A' c', e = .returned (.tuple #[.slice A' (takeOf bs).1.length c', .int .i64 ((takeOf bs).2 : Int)]) ∧ Lies w' w'.heap.size A' ((takeOf bs).1.map bv) ∧ Grows w w' := by
  obtain ⟨i0, hi0, hz0, hz1, hz2⟩ := info_parts byte_info
  by_cases h4 : n < 4
  · have ht : takeOf bs = ([], 2) := by unfold takeOf; rw [if_pos (by omega)]
    rw [ht]
    clear ht
    go_enter Try.func18, Try.ntmps18
    go_wp2
    go_ret2
    exact ⟨none, 0, rfl, Lies.empty, Grows.refl _⟩
  · obtain ⟨m, rfl⟩ : ∃ m, n = m + 4 := ⟨n - 4, by omega⟩
    have HB := Lib.hid hl
    clear hl h4
    have hm4 : ((m + 4 : Nat) : Int) - 4 = (m : Int) := by omega
    have ct := run_cut_to (P := Try.prog) Try.underlying22 byte_one A (m + 4) c m .i64 (by omega)
    have cf := run_cut_from (P := Try.prog) Try.underlying22 byte_one A (m + 4) c m .i64 (by omega) (by omega)
    rw [show m + 4 - m = 4 by omega] at cf
    have hrt : Lies w w.heap.size A ((bs.take m).map bv) := by rw [List.map_take]; exact hr.take m
    have hrf : Lies w w.heap.size (A.map (·.add m)) ((bs.drop m).map bv) := by rw [List.map_drop]; exact hr.from_ m
    have HT : Hid ((bs.take m).length = m) := by show _ = _; rw [List.length_take, HB.out]; omega
    have HF : Hid ((bs.drop m).length = 4) := by show _ = _; rw [List.length_drop, HB.out]; omega
    have hs : crcOf (bs.take m) < 4294967296 := cmore_lt (s := 0) (by omega) _
    have HN := Lib.hid (num_inj (bs.drop m) (crcOf (bs.take m)) HF.out hs)
    have HTK : Hid (takeOf bs = if bs.drop m = four (crcOf (bs.take m)) then (bs.take m, 0) else ([], 7)) := by
      show _ = _
      unfold takeOf
      rw [HB.out, if_neg (by omega), show m + 4 - 4 = m by omega]
    have HCT := Lib.hid ct
    have HCF := Lib.hid cf
    clear ct cf
    go_enter Try.func18, Try.ntmps18
    go_wp2_with fail
    refine wp_region_ord 9 [(0, true), (1, true), (2, true), (3, true), (4, true), (5, true), (6, true), (7, true), (8, true)] (by kernel_rfl) (by kernel_rfl) ?_
    have hgd : Grows w w.drew := (Grows.refl w).drew
    have hLT := Lib.hid (hrt.later hgd)
    have hLF := Lib.hid (hrf.later hgd)
    have HGD := Lib.hid hgd
    have ct := HCT.out
    have cf := HCF.out
    have hO := Grows.refl w.drew
    clear hrt hrf hgd
    generalize hs0 : crcOf (bs.take m) = s at *
    have HS0 := Lib.hid hs0
    clear hs0
    generalize hx0 : numTo (bs.drop m) 4 = x at *
    have HX0 := Lib.hid hx0
    clear hx0
    repeat (first | (refine ord_cut hO _ _ (by simp only [List.getElem?_cons_succ, List.getElem?_cons_zero]; rfl) (by rfl) 22 (.tmp 15) none (some (.tmp 16)) none (by rfl) ct ?_; try simp only [Act.put, List.setIfInBounds_toArray, List.set_cons_zero, List.set_cons_succ]) | (refine ord_cut hO _ _ (by simp only [List.getElem?_cons_succ, List.getElem?_cons_zero]; rfl) (by rfl) 22 (.tmp 11) (some (.tmp 12)) none none (by rfl) cf ?_; try simp only [Act.put, List.setIfInBounds_toArray, List.set_cons_zero, List.set_cons_succ]) | (refine ord_take hO _ ?_ (by simp only [List.getElem?_cons_succ, List.getElem?_cons_zero]; rfl) (by rfl) ?_ ?_; rotate_left; (· (intro u hu0 hu; (try go_simp); (try with_reducible rfl))); try simp only [Act.put, List.setIfInBounds_toArray, List.set_cons_zero, List.set_cons_succ]) | (refine ord_skip _ (by simp only [List.getElem?_cons_succ, List.getElem?_cons_zero]; rfl) (by rfl) ?_; try simp only [Act.put, List.setIfInBounds_toArray, List.set_cons_zero, List.set_cons_succ]) | (refine ord_call hO _ ?_ (by simp only [List.getElem?_cons_succ, List.getElem?_cons_zero]; rfl) (by rfl) ?_ ?_; rotate_left; (· (intro u hu0 hu; go_simp; (try refine quiet_enter ?_); (first | exact number_g _ _ HX0 _ HF.out (hLF.out.later hu0) | exact sum_g _ _ _ HS0 _ HT.out (hLT.out.later hu0) (by omega)))); try simp only [Act.put, List.setIfInBounds_toArray, List.set_cons_zero, List.set_cons_succ]))
    clear hO ct cf HCT HCF
    (refine ord_done (fun u hu => ?_); simp only [List.drop_succ_cons, List.drop_zero])
    have hgu := Grows.trans HGD.out hu
    have hru := hr.later hgu
    clear hLT hLF HGD hr hu
    by_cases hxs : x = s
    · have HK : Hid (takeOf bs = (bs.take m, 0)) := by show _ = _; rw [HTK.out, if_pos (HN.out.1 hxs)]
      have hq : ((x : Int) != (s : Int)) = false := by simp [hxs]
      clear HTK HN HX0 HS0 hxs
      refine NoPanic.normal ?_
      go_wp2_with (first
        | (at_make; refine wpList_make_room _ rfl _ _ _ rfl u.heap.size 5 i0 _ Try.underlying22 hi0 hz0 hz1 rfl .i64 .i64 _ _ m m rfl rfl (by omega) (by omega) (Nat.le_refl _) (by rw [hz2]; omega) (by unfold maxLen; omega) (Nat.le_refl _) ?_; intro w1 hown1 hg1 hsz1)
        | (refine wpList_copy_row rfl (.tmp 22) (.tmp 23) 22 22 rfl 5 Try.underlying22 byte_one u.heap.size (.slice (some ⟨u.heap.size, 0, none⟩) m m) m _ rfl hown1 u.heap.size A (m + 4) c (bs.map bv) rfl (by rw [List.length_map]; exact HB.out) (hru.below hg1) (bv_one bs) u hg1 ?_; intro w2 hown2 hg2 hsz2))
      have e1 : (bs.map bv).take m ++ (List.replicate m (Value.int .u8 0)).drop (m + 4) = (bs.take m).map bv := by
        rw [List.drop_eq_nil_of_le (by simp), List.append_nil, List.map_take]
      rw [e1] at hown2
      have hg02 := Grows.trans hgu hg2
      have hL2 := Lies.of_own hown2
      go_ret2
      rw [HK.out]
      exact ⟨_, m, by rw [HT.out]; rfl, hL2, hg02⟩
    · have HK : Hid (takeOf bs = ([], 7)) := by show _ = _; rw [HTK.out, if_neg (fun h => hxs (HN.out.2 h))]
      have hq : ((x : Int) != (s : Int)) = true := by simp; omega
      clear HTK HN HX0 HS0 hxs
      refine NoPanic.normal ?_
      go_wp2_with fail
      go_ret2
      rw [HK.out]
      exact ⟨none, 0, rfl, Lies.empty, hgu⟩
end Go.Proofs.Ytglaiccjhdgfbaa
