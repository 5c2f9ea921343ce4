/-
  The walk of FrameOthers.
-/
import Derived.Test.YthnjbmaiebiehaaL6A
import Derived.Test.YthnjbmaiebiehaaFrF
import Derived.Test.YthnjbmaiebiehaaFrI
import Derived.Test.YthnjbmaiebiehaaCut2
namespace Go.Proofs.Ythnjbmaiebiehaa
open Go.RowKit
set_option linter.unusedVariables false

theorem own_cap {w : World} {base : Nat} {e : TypeId} {size : Nat} {A : Option Addr} {c n : Nat} {xs : List Value} (h : w.ownsRow base e size (.slice A n c) n xs) : c ≤ maxLen := by
  rcases h.2 with ⟨hv, _⟩ | ⟨g', cap, cur, hv, _, _, _, hm, _⟩
  · injection hv with _ _ h3; subst h3; exact Nat.zero_le _
  · injection hv with _ _ h3; subst h3; exact hm
/-- Bytes as literals of one byte each. -/
def lit1 (b : List UInt8) : List UInt8 := b.flatMap fun x => [0, x]
theorem lit1_len (b : List UInt8) : (lit1 b).length = 2 * b.length := by induction b with
  | nil => rfl
  | cons x r ih => simp only [lit1, List.flatMap_cons, List.length_append, List.length_cons, List.length_nil] at *; omega
theorem lit1_take {b : List UInt8} {i : Nat} {x : UInt8} (h : b[i]? = some x) : lit1 (b.take (i + 1)) = lit1 (b.take i) ++ [0, x] := by
  unfold lit1
  rw [List.take_add_one, h]
  simp
theorem unp_lit1 (most : Int) : ∀ (b out : List UInt8), (out.length : Int) + b.length ≤ most → unp most (lit1 b) out = (out ++ b, 0)
  | [], out, _ => by show unp most [] out = _; rw [unp_nil, List.append_nil]
  | x :: r, out, h => by
    have h1 := unp_piece (most := most) (l := [x]) (r := lit1 r) (out := out) (k := 0) rfl (by omega) (by simp only [List.length_cons] at h; omega)
    have h2 : lit1 (x :: r) = UInt8.ofNat 0 :: ([x] ++ lit1 r) := rfl
    rw [h2, h1, unp_lit1 most r (out ++ [x]) (by simp only [List.length_append, List.length_cons, List.length_nil] at *; omega)]
    simp
theorem unpack_lit1 (b : List UInt8) : unpackOf (lit1 b) b.length = (b, 0) := by
  have := unp_lit1 b.length b [] (by simp)
  rwa [List.nil_append] at this
theorem seal_tail (b : List UInt8) : (sealOf b).drop ((sealOf b).length - 4) = four (crcOf b) := by
  have key : ∀ (t : UInt8) (k : Nat) (mid : List UInt8) (s : Nat), (frameOf t k mid s).drop ((frameOf t k mid s).length - 4) = four s := fun t k mid s => by
    rw [frame_len, show mid.length + 10 - 4 = mid.length + 6 by omega, frame_cons]
    show List.drop mid.length (mid ++ four s) = _
    rw [List.drop_left]
  unfold sealOf
  split <;> exact key _ _ _ _
theorem pkVal_frame (t : UInt8) (k : Nat) (mid : List UInt8) (s : Nat) (h : t = 0 ∨ t = 1) : pkVal (frameOf t k mid s) = .bool (t == 1) := by
  unfold pkVal; rw [frame_form _ _ _ _ h, frame_pk]; rfl

/-- The three frames of the same bytes. -/
def Three (w : World) (g : Nat) (b : List UInt8) : Prop := ∀ r, r < 3 → ∃ (A : Option Addr) (n c : Nat) (f : List UInt8), w.cell? ⟨g, r, none⟩ = some (.slice A n c) ∧ Hid (f.length = n) ∧ Lies w w.heap.size A (f.map bv) ∧ n ≤ c ∧ n ≤ 1000 ∧ Hid (openOf f 100 = (b, 0)) ∧ Hid (pkVal f = .bool (decide (0 < r)))
theorem Three.later {w w' : World} {g : Nat} {b : List UInt8} (h : Three w g b) (hg : Grows w w') : Three w' g b := fun r hr => by
  obtain ⟨A, n, c, f, h1, h2, h3, h4⟩ := h r hr
  exact ⟨A, n, c, f, hcell_later h1 hg, h2, h3.later hg, h4⟩

set_option maxRecDepth 20000 in
set_option maxHeartbeats 8000000 in
theorem frameothers_walk (A : Option Addr) (n c : Nat) (zs : List Int) (w : World) (hl : zs.length = n) (hr : Lies w w.heap.size A (zs.map zv)) (hc : n ≤ maxLen) (hz : ∀ z ∈ zs, -9223372036854775808 ≤ z ∧ z ≤ 9223372036854775807) :
    Calls Try.prog 5 #[.slice A n c] w fun e w' => e = .returned (.bool true) ∧ Grows w w' := by
  obtain ⟨i0, hi0, hz0, hz1, hz2⟩ := info_parts byte_info
  go_enter Try.func5, Try.ntmps5
  go_wp2_with fail
  refine (made_any A n c zs w hl hr hc hz).mono ?_
  rintro e w1 ⟨l, m, c1, A1, HLm, hm, rfl, hc1, hown1, hg1⟩
  have hL1 := Lies.of_own hown1
  have hcm1 := own_cap hown1
  clear hown1 hr hl hz
  go_wp2_with fail
  refine (few_bytes A1 m c1 100 l w1 HLm.out hL1 hc1 (by omega) hcm1).mono ?_
  rintro e w2 ⟨A2, c2, rfl, hc2, _, hL2, hg2⟩
  have HLb : Hid ((l.take 100).length = min m 100) := by show _ = _; rw [List.length_take, HLm.out, Nat.min_comm]
  have hn1 : min m 100 ≤ 100 := Nat.min_le_right _ _
  have hg02 := Grows.trans hg1 hg2
  clear hL1 hcm1 hg1 hg2 hc1
  generalize min m 100 = n1 at *
  generalize l.take 100 = b at *
  go_wp2_with fail
  refine (rseal_out A2 n1 c2 b w2 HLb.out hL2 hc2 (by omega)).mono ?_
  rintro e w3 ⟨f, fn, c3, A3, HS, HFn, h10, hfn, rfl, hc3, _, _, hL3, hg3⟩
  obtain ⟨q, hq⟩ : ∃ q, fn = q + 4 := ⟨fn - 4, by omega⟩
  have HE : Hid ((fn : Int) - 4 = (q : Int)) := by show _ = _; omega
  obtain ⟨At, hct, hLt⟩ := cut_from (P := Try.prog) Try.underlying22 byte_one A3 fn c3 .i64 ((fn : Int) - 4) q HE.out (by omega) hc3
  rw [show fn - q = 4 by omega] at hct
  have hLt3 := hLt _ _ _ (by rw [List.length_map]; exact HFn.out) hL3
  rw [← List.map_drop, show f.drop q = four (crcOf b) by rw [← seal_tail b, HS.out, HFn.out, show fn - 4 = q by omega]] at hLt3
  have HCT := Lib.hid hct
  have hL23 := hL2.later hg3
  have hg03 := Grows.trans hg02 hg3
  have hC := crcOf_lt b
  clear hct hLt hL3 hq HS hL2 hg3 hg02
  have HP1 := Lib.hid (open_frame 0 b b 100 (.inl rfl) (by rw [HLb.out]; omega) (were_plain b))
  have HP2 := Lib.hid (open_frame 1 b (packOf b) 100 (.inr rfl) (by rw [HLb.out]; omega) (were_packed (unpack_own b)))
  have HP3 := Lib.hid (open_frame 1 b (lit1 b) 100 (.inr rfl) (by rw [HLb.out]; omega) (were_packed (unpack_lit1 b)))
  rw [HLb.out, if_neg (by omega)] at HP1 HP2 HP3
  generalize crcOf b = s at *
  go_wp2_with (refine wpList_cut rfl 22 (.tmp 20) (some (.tmp 23)) none none rfl ?_ ?_ ?_; rotate_left; (· (exact HCT.out _)))
  refine (rnumber_any n1 w3 (by omega)).mono ?_
  rintro e w4 ⟨Ah, ch, rfl, hch, hownh, hg4⟩
  have hLh4 := Lies.of_own hownh
  have hLb4 := hL23.later hg4
  have hLt4 := hLt3.later hg4
  have hg04 := Grows.trans hg03 hg4
  clear HCT hownh hL23 hLt3 hg4 hg03
  have hp0 := own_new w4 5 [.int .u8 76, .int .u8 0] 2 rfl (by unfold maxLen; omega)
  have hga4 := grows_alloc w4 (.cells #[.int .u8 76, .int .u8 0] 5)
  go_wp2_with (first
    | (at_builtin; refine wpList_append_src _ rfl (.tmp 28) (.tmp 29) _ rfl w4.heap.size 5 i0 _ 1 Try.underlying22 hi0 hz0 hz1 hz2 rfl _ 2 _ rfl hp0 _ _ 4 _ ((four n1).map bv) rfl (by rw [List.length_map]; exact four_len n1) (hLh4.later hga4) (bv_one (four n1)) (by unfold maxLen; omega) (by omega) (by rw [World.size_alloc]; omega) ?_; intro v5 w5 ho5 hg5 _; have hB5 := hga4.grown hg5 (by rw [World.size_alloc]; omega) (own_ge hp0); have hs5 := hB5.size; have hb5 := hLb4.below hB5)
    | (at_builtin; refine wpList_append_src _ rfl (.tmp 31) (.tmp 32) _ rfl w4.heap.size 5 i0 _ 1 Try.underlying22 hi0 hz0 hz1 hz2 rfl _ (2 + 4) _ rfl ho5 _ _ n1 _ (b.map bv) rfl (by rw [List.length_map]; exact HLb.out) hb5 (bv_one b) (by unfold maxLen; omega) (by omega) hs5 ?_; intro v6 w6 ho6 hg6 _; have hB6 := hB5.grown hg6 hs5 (own_ge ho5); have hs6 := hB6.size; have ht6 := hLt4.below hB6)
    | (at_builtin; refine wpList_append_src _ rfl (.tmp 34) (.tmp 35) _ rfl w4.heap.size 5 i0 _ 1 Try.underlying22 hi0 hz0 hz1 hz2 rfl _ (2 + 4 + n1) _ rfl ho6 _ _ 4 _ ((four s).map bv) rfl (by rw [List.length_map]; exact four_len s) ht6 (bv_one (four s)) (by unfold maxLen; omega) (by omega) hs6 ?_; intro v7 w7 ho7 hg7 _; have hB7 := hB6.grown hg7 hs6 (own_ge ho6); have hs7 := hB7.size; obtain ⟨Ap, cp, rfl, hcp⟩ := own_form ho7; have hq0 := own_new w7 5 [.int .u8 76, .int .u8 1] 2 rfl (by unfold maxLen; omega); have hga7 := grows_alloc w7 (.cells #[.int .u8 76, .int .u8 1] 5); have hh7 := (hLh4.later hB7).later hga7)
    | (at_builtin; refine wpList_append_src _ rfl (.tmp 37) (.tmp 38) _ rfl w7.heap.size 5 i0 _ 1 Try.underlying22 hi0 hz0 hz1 hz2 rfl _ 2 _ rfl hq0 _ _ 4 _ ((four n1).map bv) rfl (by rw [List.length_map]; exact four_len n1) hh7 (bv_one (four n1)) (by unfold maxLen; omega) (by omega) (by rw [World.size_alloc]; omega) ?_; intro v8 w8 ho8 hg8 _; have hB8 := hga7.grown hg8 (by rw [World.size_alloc]; omega) (own_ge hq0)))
  have hLp7 := Lies.of_own ho7
  have hg78 : Grows w7 w8 := hB8
  have hLb8 := (hLb4.later hB7).later hg78
  have hLh7 := hLh4.later hB7
  have hLt7 := hLt4.later hB7
  have hg07 := Grows.trans hg04 hB7
  have he1 : [Value.int .u8 76, Value.int .u8 0] ++ (four n1).map bv ++ b.map bv ++ (four s).map bv = (frameOf 0 n1 b s).map bv := by unfold frameOf; simp
  rw [he1] at hLp7
  clear he1 ho5 ho6 ho7 hg5 hg6 hg7 hB5 hB6 hs5 hs6 hb5 ht6 hp0 hga4 hq0 hga7 hh7 hg8 hLh4 hLt4 hg04
  refine (rpack_out A2 n1 c2 b w8 HLb.out hLb8 hc2 (by omega)).mono ?_
  rintro e w9 ⟨p, pn, c9, A9, HP, HPN, hpn, rfl, hc9, _, hLp9, hg9⟩
  have ho9 := own_later ho8 hg9
  have hB9 : Below w7.heap.size w7 w9 := Below.trans hB8 (hg9.mono hB8.size)
  have hs9 := hB9.size
  have hpn2 : pn ≤ 200 := by omega
  rw [HP.out] at HP2
  clear ho8 hg9 hB8 HP hpn
  go_wp2_with (first
    | (at_builtin; refine wpList_append_src _ rfl (.tmp 40) (.tmp 42) _ rfl w7.heap.size 5 i0 _ 1 Try.underlying22 hi0 hz0 hz1 hz2 rfl _ (2 + 4) _ rfl ho9 _ _ pn _ (p.map bv) rfl (by rw [List.length_map]; exact HPN.out) hLp9 (bv_one p) (by unfold maxLen; omega) (by omega) hs9 ?_; intro v10 w10 ho10 hg10 _; have hB10 := hB9.grown hg10 hs9 (own_ge ho9); have hs10 := hB10.size; have ht10 := hLt7.below hB10)
    | (at_builtin; refine wpList_append_src _ rfl (.tmp 44) (.tmp 45) _ rfl w7.heap.size 5 i0 _ 1 Try.underlying22 hi0 hz0 hz1 hz2 rfl _ (2 + 4 + pn) _ rfl ho10 _ _ 4 _ ((four s).map bv) rfl (by rw [List.length_map]; exact four_len s) ht10 (bv_one (four s)) (by unfold maxLen; omega) (by omega) hs10 ?_; intro v11 w11 ho11 hg11 _; have hB11 := hB10.grown hg11 hs10 (own_ge ho10); have hs11 := hB11.size; obtain ⟨Ak, ck, rfl, hck⟩ := own_form ho11; have hr0 := own_new w11 5 [.int .u8 76, .int .u8 1] 2 rfl (by unfold maxLen; omega); have hga11 := grows_alloc w11 (.cells #[.int .u8 76, .int .u8 1] 5); have hh11 := (hLh7.later hB11).later hga11)
    | (at_builtin; refine wpList_append_src _ rfl (.tmp 47) (.tmp 48) _ rfl w11.heap.size 5 i0 _ 1 Try.underlying22 hi0 hz0 hz1 hz2 rfl _ 2 _ rfl hr0 _ _ 4 _ ((four n1).map bv) rfl (by rw [List.length_map]; exact four_len n1) hh11 (bv_one (four n1)) (by unfold maxLen; omega) (by omega) (by rw [World.size_alloc]; omega) ?_; intro v12 w12 ho12 hg12 _; have hB12 := hga11.grown hg12 (by rw [World.size_alloc]; omega) (own_ge hr0)))
  have hLk11 := Lies.of_own ho11
  have hLp11 := hLp7.later hB11
  have hLb7 := hLb4.later hB7
  have hB11' := hB11
  have hLb11 := hLb7.later hB11
  have hLt11 := hLt7.later hB11
  have hg011 := Grows.trans hg07 hB11
  have he2 : [Value.int .u8 76, Value.int .u8 1] ++ (four n1).map bv ++ p.map bv ++ (four s).map bv = (frameOf 1 n1 p s).map bv := by unfold frameOf; simp
  rw [he2] at hLk11
  have he3 : [Value.int .u8 76, Value.int .u8 1] ++ (four n1).map bv = ([76, 1] ++ four n1 ++ lit1 (b.take 0)).map bv := by simp [lit1]
  rw [he3] at ho12
  have hL12 := hB12.size
  clear he2 he3 ho9 ho10 ho11 hg10 hg11 hB9 hB10 hB11 hs9 hs10 hs11 ht10 hr0 hga11 hh11 hg12 hLp7 hLh7 hLt7 hg07 hg78 hLb8 hLb4 hB7 hs7 hLp9
  go_loopw [9, 10] (fun v q wr => ∃ i : Nat, i ≤ n1 ∧ q = iv i ∧ wr.ownsRow w11.heap.size 5 1 v (6 + 2 * i) (([76, 1] ++ four n1 ++ lit1 (b.take i)).map bv) ∧ Below w11.heap.size w11 wr) (fun _ q _ => n1 - (intOf q).toNat)
  case atStart => exact ⟨0, Nat.zero_le _, rfl, ho12, hB12⟩
  case round =>
    clear ho12 hB12 hL12
    obtain ⟨i, hi, rfl, hown, hgr⟩ := hrel
    have hsr := hgr.size
    by_cases hin : i < n1
    · have hin' : (i : Int) < (n1 : Int) := by omega
      obtain ⟨x, hx⟩ : ∃ x, b[i]? = some x := ⟨_, List.getElem?_eq_getElem (by rw [HLb.out]; exact hin)⟩
      have HT := Lib.hid (lit1_take hx)
      obtain ⟨ad, rfl, _, cx⟩ := (hLb11.later hgr).at_ (j := i) (u := bv x) (by rw [List.getElem?_map, hx]; rfl)
      clear hx
      have hnew : Lies (wr.alloc (.cells #[.int .u8 0, bv x] 5)) (wr.heap.size + 1) (some ⟨wr.heap.size, 0, none⟩) (([0, x] : List UInt8).map bv) := Lies.new wr 5 [.int .u8 0, bv x]
      go_wp2_with (at_builtin; refine wpList_append_src _ rfl (.tmp 56) (.tmp 61) _ rfl w11.heap.size 5 i0 _ 1 Try.underlying22 hi0 hz0 hz1 hz2 rfl _ (6 + 2 * i) _ rfl (hown.alloc _) _ _ 2 _ ([0, x].map bv) rfl (by rw [List.length_map]; exact rfl) (hnew) (bv_one [0, x]) (by unfold maxLen; omega) (by omega) (by rw [World.size_alloc]; omega) ?_; intro v' w' hown' hg' _)
      have hb2 : Below w11.heap.size wr w' := ((Below.refl _ wr).alloc hsr _).grown hg' (by rw [World.size_alloc]; omega) (own_ge hown)
      rw [← List.map_append, List.append_assoc, ← HT.out] at hown'
      go_roundw
      case rel => exact ⟨i + 1, by omega, by go_num, by rw [show 6 + 2 * (i + 1) = 6 + 2 * i + 2 by omega]; exact hown', Below.trans hgr hb2⟩
      case measure => simp [intOf]; omega
    · obtain rfl : i = n1 := by omega
      rw [List.take_of_length_le (by rw [HLb.out]; exact Nat.le_refl _)] at hown
      have ht13 := hLt11.below hgr
      have hs13 := hsr
      clear hLb11
      go_wp2_with (at_builtin; refine wpList_append_src _ rfl (.tmp 63) (.tmp 64) _ rfl w11.heap.size 5 i0 _ 1 Try.underlying22 hi0 hz0 hz1 hz2 rfl _ (6 + 2 * i) _ rfl hown _ _ 4 _ ((four s).map bv) rfl (by rw [List.length_map]; exact four_len s) ht13 (bv_one (four s)) (by unfold maxLen; omega) (by omega) hs13 ?_; intro v14 w14 ho14 hg14 _; have hB14 := hgr.grown hg14 hs13 (own_ge hown); obtain ⟨Al, cl, rfl, hcl⟩ := own_form ho14)
      have hLl14 := Lies.of_own ho14
      have he4 : (([76, 1] ++ four i ++ lit1 b).map bv ++ (four s).map bv) = (frameOf 1 i (lit1 b) s).map bv := by unfold frameOf; simp
      rw [he4] at hLl14
      have hLp14 := hLp11.later hB14
      have hLk14 := hLk11.later hB14
      have hg014 := Grows.trans hg011 hB14
      have hbx := Has.new w14 22 [.slice Ap (2 + 4 + i + 4) cp, .slice Ak (2 + 4 + pn + 4) ck, .slice Al (6 + 2 * i + 4) cl]
      have hga := grows_alloc w14 (.cells #[.slice Ap (2 + 4 + i + 4) cp, .slice Ak (2 + 4 + pn + 4) ck, .slice Al (6 + 2 * i + 4) cl] 22)
      have TH : Three (w14.alloc (.cells #[.slice Ap (2 + 4 + i + 4) cp, .slice Ak (2 + 4 + pn + 4) ck, .slice Al (6 + 2 * i + 4) cl] 22)) w14.heap.size b := fun r hr => by
        match r, hr with
        | 0, _ => exact ⟨Ap, _, cp, frameOf 0 i b s, hbx.cell rfl, by show _ = _; rw [frame_len, HLb.out]; omega, hLp14.later hga, hcp, by omega, HP1, pkVal_frame 0 i b s (.inl rfl)⟩
        | 1, _ => exact ⟨Ak, _, ck, frameOf 1 i p s, hbx.cell rfl, by show _ = _; rw [frame_len, HPN.out]; omega, hLk14.later hga, hck, by omega, HP2, pkVal_frame 1 i p s (.inr rfl)⟩
        | 2, _ => exact ⟨Al, _, cl, frameOf 1 i (lit1 b) s, hbx.cell rfl, by show _ = _; rw [frame_len, lit1_len, HLb.out]; omega, hLl14.later hga, hcl, by omega, HP3, pkVal_frame 1 i (lit1 b) s (.inr rfl)⟩
      have hLb15 := ((hLb7.later hB11').later hB14).later hga
      have hg015 := Grows.trans hg014 hga
      clear hbx hga hLp14 hLk14 hLl14 he4 ho14 hg14 hB14 hLp11 hLk11 hLt11 hown hgr hsr ht13 hs13 HP1 HP2 HP3 hg011 hg014 hLb7 hB11'
      change Code.wp _ _ _ _ (w14.alloc (.cells #[.slice Ap (2 + 4 + i + 4) cp, .slice Ak (2 + 4 + pn + 4) ck, .slice Al (6 + 2 * i + 4) cl] 22))
      generalize w14.alloc (.cells #[.slice Ap (2 + 4 + i + 4) cp, .slice Ak (2 + 4 + pn + 4) ck, .slice Al (6 + 2 * i + 4) cl] 22) = w15 at *
      generalize w14.heap.size = g at *
      go_loopw [12, 13, 14] (fun q _ _ wr => ∃ r : Nat, r ≤ 3 ∧ q = iv r ∧ Grows w15 wr) (fun q _ _ _ => 3 - (intOf q).toNat)
      case atStart => exact ⟨0, by omega, rfl, Grows.refl _⟩
      case round =>
        obtain ⟨r, hr3, rfl, hgr⟩ := hrel
        by_cases hr : r < 3
        · have hr' : (r : Int) < 3 := by omega
          obtain ⟨Ar, nr, cr, fr, hcell, HNr, hLr, hcr, hnr, HOr, HPr⟩ := (TH.later hgr) r hr
          have hLbr := hLb15.later hgr
          go_wp2_with fail
          refine (open_any Ar nr cr fr 100 wr HNr.out hLr hcr (by omega)).mono ?_
          rintro e w16 ⟨x, er, xn, c16, A16, HO, HXn, rfl, hc16, hL16, hg16⟩
          have hO := HO.out
          rw [HOr.out] at hO
          injection hO with h1 h2
          subst h1 h2
          have hcell16 := hcell_later hcell hg16
          have hLr16 := hLr.later hg16
          have cv1 := run_string_of (P := Try.prog) w16 22 5 Try.underlying22 Try.underlying5 9 Try.underlying9 _ A16 xn c16 b HXn.out hL16
          have cv2 := run_string_of (P := Try.prog) w16 22 5 Try.underlying22 Try.underlying5 9 Try.underlying9 _ A2 i c2 b HLb.out (hLbr.later hg16)
          have PK := packed_any Ar nr cr fr w16 HNr.out hLr16 hcr (by omega)
          rw [HPr.out] at PK
          have PK := Lib.hid PK
          clear HO hcell hLr hLr16 HPr
          by_cases hr0 : r = 0
          · subst hr0
            go_wp2_with fail
            refine PK.out.mono ?_
            rintro e w17 ⟨rfl, hg17⟩
            go_wp2_with fail
            go_roundw
            case rel => exact ⟨0 + 1, by omega, by go_num, Grows.trans hgr (Grows.trans hg16 hg17)⟩
            case measure => simp [intOf]
          · have hd1 : decide (0 < r) = true := by simp; omega
            have hd2 : decide ((0 : Int) < (r : Int)) = true := by simp; omega
            rw [hd1] at PK
            go_wp2_with fail
            refine PK.out.mono ?_
            rintro e w17 ⟨rfl, hg17⟩
            go_wp2_with fail
            go_roundw
            case rel => exact ⟨r + 1, by omega, by go_num, Grows.trans hgr (Grows.trans hg16 hg17)⟩
            case measure => simp [intOf]; omega
        · obtain rfl : r = 3 := by omega
          go_wp2_with fail
          refine (lives6_any _).mono ?_
          rintro e w17 ⟨rfl, hg17⟩
          go_wp2_with fail
          go_ret
          exact ⟨rfl, Grows.trans hg015 (Grows.trans hgr hg17)⟩
end Go.Proofs.Ythnjbmaiebiehaa
