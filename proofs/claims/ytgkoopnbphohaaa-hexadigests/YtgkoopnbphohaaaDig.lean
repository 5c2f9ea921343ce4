/-
  Contracts of hexa.Digest and of the reference's Digest, Of, Bytes, Name and Fill. Condition: texts of at most a million bytes.
-/
import Derived.Test.YtgkoopnbphohaaaRef
import Derived.Test.YtgkoopnbphohaaaNameC
import Derived.Laws.Cover3
namespace Go.Proofs.Ytgkoopnbphohaaa
open Go.RowKit
set_option linter.unusedVariables false

def zeros : List UInt8 := List.replicate 32 0
/-- The digest of a text, and the error. -/
def digOf (s : List UInt8) : List UInt8 × Int := match unhex s with
  | none => (zeros, 2)
  | some l => if l.length = 32 then (l, 0) else (zeros, 3)
theorem digOf_len (s : List UInt8) : (digOf s).1.length = 32 := by
  unfold digOf
  split
  · rfl
  · split
    · assumption
    · rfl

theorem zeros_len : zeros.length = 32 := rfl

set_option maxHeartbeats 1000000 in
theorem digest_any (s : List UInt8) (w : World) (hs : s.length ≤ 1000000) :
    Calls Try.prog 17 #[.string ⟨s.toArray⟩] w fun e w' => e = .returned (.tuple #[dv (digOf s).1, .int .i64 (digOf s).2]) ∧ Below w.heap.size w w' := by
  have hbox := Box.new w 35 zeros
  have hg : Grows w (w.alloc (.cells (zeros.map bv).toArray 35)) := (Grows.refl w).alloc (Nat.le_refl _) _
  cases hu : unhex s with
  | none =>
    have hd : digOf s = (zeros, 2) := by simp [digOf, hu]
    rw [hd]
    have HU := Lib.hid hu
    clear hu hd
    go_enter Try.func17, Try.ntmps17
    go_wp2_with fail
    change Calls _ _ _ (w.alloc (.cells (zeros.map bv).toArray 35)) _
    generalize w.alloc (.cells (zeros.map bv).toArray 35) = w0 at *
    refine (parse_any s w0 hs).mono ?_
    rw [HU.out]
    rintro e w1 ⟨hb1, rfl⟩
    have hbox1 := hbox.later hb1
    go_wp2_with fail
    refine (is_true 2 _).mono ?_
    rintro e w' ⟨rfl, rfl⟩
    go_wp2_with (refine wpList_stores rfl 35 (.tmp 2) (.tmp 15) rfl w.heap.size zeros zeros 32 rfl rfl hbox1 zeros_len zeros_len dig_size ?_; intro w2 hbox2 hbel2)
    refine bodyPost_ret (v := .tuple #[dv zeros, .int .i64 2]) (res_arr_tmp (u := 3) Try.results17 _ rfl Try.underlying35 dig_size zeros_len hbox2.lies) rfl ⟨rfl, hbel2 _ _ (Nat.le_refl _) (grow_trans hg hb1)⟩
  | some l =>
    by_cases hl : l.length = 32
    · have hd : digOf s = (l, 0) := by simp [digOf, hu, hl]
      rw [hd]
      have HU := Lib.hid hu
      have HL := Lib.hid hl
      clear hu hd hl
      go_enter Try.func17, Try.ntmps17
      go_wp2_with fail
      change Calls _ _ _ (w.alloc (.cells (zeros.map bv).toArray 35)) _
      generalize w.alloc (.cells (zeros.map bv).toArray 35) = w0 at *
      refine (parse_any s w0 hs).mono ?_
      rw [HU.out]
      rintro e w1 ⟨hb1, v1, rfl, hown1⟩
      have hbox1 := hbox.later hb1
      rw [HL.out] at hown1
      obtain ⟨g1, c1, rfl, hk1, hg1, hboxl⟩ := own_box hown1 (by omega)
      have hat := run_arrayAt (P := Try.prog) w1 35 5 32 (some ⟨g1, 0, none⟩) 32 c1 Try.underlying35 (Nat.le_refl _)
      have hld := hboxl.load Try.underlying35 dig_size HL.out
      clear hown1
      go_wp2_with fail
      refine (is_false 0 2 _ (by omega)).mono ?_
      rintro e w' ⟨rfl, rfl⟩
      go_wp2_with (first | (with_reducible refine wpList_loads rfl 35 (.tmp 21) rfl _ rfl _ hld ?_) | (refine wpList_stores rfl 35 (.tmp 2) (.tmp 22) rfl w.heap.size zeros l 32 rfl rfl hbox1 zeros_len HL.out dig_size ?_; intro w2 hbox2 hbel2))
      refine bodyPost_ret (v := .tuple #[dv l, .int .i64 0]) (res_arr_tmp (u := 3) Try.results17 _ rfl Try.underlying35 dig_size HL.out hbox2.lies) rfl ⟨rfl, hbel2 _ _ (Nat.le_refl _) (grow_trans hg hb1)⟩
    · have hd : digOf s = (zeros, 3) := by simp [digOf, hu, hl]
      rw [hd]
      have HU := Lib.hid hu
      have hne : ((l.length : Int) == 32) = false := by simp; omega
      have hne' : ((l.length : Int) != 32) = true := by simp; omega
      clear hu hd hl
      go_enter Try.func17, Try.ntmps17
      go_wp2_with fail
      change Calls _ _ _ (w.alloc (.cells (zeros.map bv).toArray 35)) _
      generalize w.alloc (.cells (zeros.map bv).toArray 35) = w0 at *
      refine (parse_any s w0 hs).mono ?_
      rw [HU.out]
      rintro e w1 ⟨hb1, v1, rfl, hown1⟩
      have hbox1 := hbox.later hb1
      obtain ⟨A1, c1, rfl, hk1⟩ := own_form hown1
      clear hown1
      go_wp2_with fail
      refine (is_false 0 2 _ (by omega)).mono ?_
      rintro e w' ⟨rfl, rfl⟩
      go_wp2_with (refine wpList_stores rfl 35 (.tmp 2) (.tmp 19) rfl w.heap.size zeros zeros 32 rfl rfl hbox1 zeros_len zeros_len dig_size ?_; intro w2 hbox2 hbel2)
      refine bodyPost_ret (v := .tuple #[dv zeros, .int .i64 3]) (res_arr_tmp (u := 3) Try.results17 _ rfl Try.underlying35 dig_size zeros_len hbox2.lies) rfl ⟨rfl, hbel2 _ _ (Nat.le_refl _) (grow_trans hg hb1)⟩

set_option maxHeartbeats 1000000 in
theorem rbytes_any (l : List UInt8) (w : World) (hl : l.length = 32) :
    Calls Try.prog 20 #[dv l] w fun e w' => ∃ A c, e = .returned (.slice A 32 c) ∧ 32 ≤ c ∧ Lies w' w'.heap.size A (l.map bv) ∧ Below w.heap.size w w' := by
  obtain ⟨i0, hi0, hz0, hz1, hz2⟩ := info_parts byte_info
  have hbox := Box.new w 35 l
  have hg : Grows w (w.alloc (.cells (l.map bv).toArray 35)) := (Grows.refl w).alloc (Nat.le_refl _) _
  have HL := Lib.hid hl
  clear hl
  go_enter Try.func20, Try.ntmps20
  go_wp2
  have h01 : w.heap.size + 1 = (w.alloc (.cells (l.map bv).toArray 35)).heap.size := by simp
  generalize w.alloc (.cells (l.map bv).toArray 35) = w0 at *
  have H01 := Lib.hid h01
  clear h01
  go_loopw [3, 4] (fun v i wr => ∃ k : Nat, k ≤ 32 ∧ i = .int .i64 k ∧ wr.ownsRow w0.heap.size 5 1 v k ((l.take k).map bv) ∧ Grows w0 wr) (fun _ i _ => 32 - (intOf i).toNat)
  case atStart => exact ⟨0, Nat.zero_le _, rfl, World.ownsRow_nil _ _ _ _, Grows.refl _⟩
  case round =>
    obtain ⟨k, hk, rfl, hown, hgr⟩ := hrel
    by_cases hlt : k < 32
    · obtain ⟨x, hx⟩ : ∃ x, l[k]? = some x := ⟨_, List.getElem?_eq_getElem (by rw [HL.out]; exact hlt)⟩
      have cx := (hbox.later hgr).cell hx
      have htk : l.take (k + 1) = l.take k ++ [x] := by rw [List.take_add_one, hx]; rfl
      have HT := Lib.hid htk
      have hnew := Lies.new wr 5 [bv x]
      clear hx htk
      have k1 : (k : Int) < 32 := by omega
      go_wp2_with (at_builtin; refine wpList_append_src _ rfl (.tmp 9) (.tmp 13) _ rfl w0.heap.size 5 i0 _ 1 Try.underlying22 hi0 hz0 hz1 hz2 rfl u3 k _ rfl (hown.alloc _) _ _ 1 1 [bv x] rfl rfl hnew (by simp [Value.oneCell']) (by unfold maxLen; omega) (by omega) (by rw [World.size_alloc]; have := hgr.size; omega) ?_; intro v' w' hown' hg' hat')
      have hb2 : Below w0.heap.size wr w' := ((Below.refl _ wr).alloc hgr.size _).grown hg' (by rw [World.size_alloc]; have := hgr.size; omega) (own_ge hown)
      rw [show [bv x] = [x].map bv from rfl, ← List.map_append, ← HT.out] at hown'
      go_roundw
      case rel => exact ⟨k + 1, by omega, by go_num, hown', Below.trans hgr hb2⟩
      case measure => simp [intOf]; omega
    · obtain rfl : k = 32 := by omega
      obtain ⟨A, c, rfl, hc⟩ := own_form hown
      rw [List.take_of_length_le (by rw [HL.out]; omega)] at hown
      go_wp2
      go_ret
      exact ⟨A, c, rfl, hc, Lies.of_own hown, grow_trans hg hgr⟩

set_option maxHeartbeats 400000 in
theorem rname_any (l : List UInt8) (w : World) (hl : l.length = 32) :
    Calls Try.prog 18 #[dv l] w fun e w' => e = .returned (.string ⟨(hexOf l).toArray⟩) ∧ Below w.heap.size w w' := by
  have hbox := Box.new w 35 l
  have hg : Grows w (w.alloc (.cells (l.map bv).toArray 35)) := (Grows.refl w).alloc (Nat.le_refl _) _
  have hld := hbox.load Try.underlying35 dig_size hl
  have HL := Lib.hid hl
  clear hl
  go_enter Try.func18, Try.ntmps18
  go_wp2_with (with_reducible refine wpList_loads rfl 35 (.tmp 1) rfl _ rfl _ hld ?_)
  refine (rbytes_any l _ HL.out).mono ?_
  rintro e w1 ⟨A, c, rfl, hc, hL, hb1⟩
  go_wp2_with fail
  refine (rtext_any A 32 c l _ HL.out hL (by omega)).mono ?_
  rintro e w2 ⟨rfl, hb2⟩
  go_wp2_with fail
  go_ret
  exact ⟨rfl, grow_trans hg (grow_trans hb1 hb2)⟩

set_option maxHeartbeats 1000000 in
theorem fill_any (A : Option Addr) (n c m : Nat) (bs : List UInt8) (w : World) (hl : bs.length = n) (hr : Lies w w.heap.size A (bs.map bv)) (hn0 : 0 < n) (hn : n ≤ 1000000) (hm : m ≤ 1000000) :
    Calls Try.prog 19 #[.slice A n c, .int .i64 (m : Int)] w fun e w' => ∃ (l : List UInt8) (A' : Option Addr) (c' : Nat), l.length = m ∧ e = .returned (.slice A' m c') ∧ Lies w' w'.heap.size A' (l.map bv) ∧ Below w.heap.size w w' := by
  obtain ⟨i0, hi0, hz0, hz1, hz2⟩ := info_parts byte_info
  have HL := Lib.hid hl
  clear hl
  have hnz : ((n : Int) == 0) = false := by simp; omega
  go_enter Try.func19, Try.ntmps19
  go_wp2
  go_loopw [5, 6] (fun v i wr => ∃ (k : Nat) (l : List UInt8), k ≤ m ∧ l.length = k ∧ i = .int .i64 k ∧ wr.ownsRow w.heap.size 5 1 v k (l.map bv) ∧ Grows w wr) (fun _ i _ => m - (intOf i).toNat)
  case atStart => exact ⟨0, [], Nat.zero_le _, rfl, rfl, World.ownsRow_nil _ _ _ _, Grows.refl _⟩
  case round =>
    obtain ⟨k, l, hk, hlk, rfl, hown, hgr⟩ := hrel
    have HK := Lib.hid hlk
    clear hlk
    by_cases hlt : k < m
    · have hkn : k % n < n := Nat.mod_lt _ hn0
      obtain ⟨x, hx⟩ : ∃ x, bs[k % n]? = some x := ⟨_, List.getElem?_eq_getElem (by rw [HL.out]; exact hkn)⟩
      obtain ⟨ad, rfl, _, cx⟩ := (hr.later hgr).at_ (j := k % n) (u := bv x) (by rw [List.getElem?_map, hx]; rfl)
      have hnew := Lies.new wr 5 [bv x]
      clear hx
      have r0 : (0 : Int) ≤ (k : Int) % (n : Int) := Int.emod_nonneg _ (by omega)
      have r1 : (k : Int) % (n : Int) < (n : Int) := Int.emod_lt_of_pos _ (by omega)
      have r2 : ((k : Int) % (n : Int)).toNat = k % n := by omega
      go_wp2_with (at_builtin; refine wpList_append_src _ rfl (.tmp 15) (.tmp 23) _ rfl w.heap.size 5 i0 _ 1 Try.underlying22 hi0 hz0 hz1 hz2 rfl u5 k _ rfl (hown.alloc _) _ _ 1 1 [bv x] rfl rfl hnew (by simp [Value.oneCell']) (by unfold maxLen; omega) (by omega) (by rw [World.size_alloc]; have := hgr.size; omega) ?_; intro v' w' hown' hg' hat')
      have hb2 : Below w.heap.size wr w' := ((Below.refl _ wr).alloc hgr.size _).grown hg' (by rw [World.size_alloc]; have := hgr.size; omega) (own_ge hown)
      rw [show [bv x] = [x].map bv from rfl, ← List.map_append] at hown'
      go_roundw
      case rel => exact ⟨k + 1, l ++ [x], by omega, by simp [HK.out], by go_num, hown', Below.trans hgr hb2⟩
      case measure => simp [intOf]; omega
    · obtain rfl : k = m := by omega
      obtain ⟨A', c', rfl, hc⟩ := own_form hown
      go_wp2
      go_ret
      exact ⟨l, A', c', HK.out, rfl, Lies.of_own hown, hgr⟩

set_option maxHeartbeats 1000000 in
theorem of_any (g c : Nat) (l : List UInt8) (w : World) (hl : l.length = 32) (hb : Box w g l) :
    Calls Try.prog 28 #[.slice (some ⟨g, 0, none⟩) 32 c] w fun e w' => e = .returned (dv l) ∧ Below w.heap.size w w' := by
  obtain ⟨w0, hw0, hg, hz, hb0, hb1⟩ : ∃ w0, w0 = (w.alloc (.cells (zeros.map bv).toArray 35)).alloc (.cells (zeros.map bv).toArray 35) ∧ Grows w w0 ∧ w0.heap.size = w.heap.size + 2 ∧ Box w0 w.heap.size zeros ∧ Box w0 (w.heap.size + 1) zeros := by
    refine ⟨_, rfl, ((Grows.refl w).alloc (Nat.le_refl _) _).alloc (by simp) _, by simp, (Box.new w 35 zeros).later ((Grows.refl _).alloc (Nat.le_refl _) _), ?_⟩
    have h := Box.new (w.alloc (.cells (zeros.map bv).toArray 35)) 35 zeros
    rwa [World.size_alloc] at h
  have HL := Lib.hid hl
  have HZ := Lib.hid hz
  have hlt := hb.lt
  clear hl hz
  go_enter Try.func28, Try.ntmps28
  go_wp2
  change Code.wp _ _ _ _ ((w.alloc (.cells (zeros.map bv).toArray 35)).alloc (.cells (zeros.map bv).toArray 35))
  rw [← hw0]
  clear hw0
  go_loopw [4] (fun i wr => ∃ k : Nat, k ≤ 32 ∧ i = .int .i64 k ∧ Below (w.heap.size + 1) w0 wr ∧ Box wr (w.heap.size + 1) (l.take k ++ zeros.drop k)) (fun i _ => 32 - (intOf i).toNat)
  case atStart => exact ⟨0, Nat.zero_le _, rfl, Below.refl _ _, hb1⟩
  case round =>
    obtain ⟨k, hk, rfl, hgr, hbk⟩ := hrel
    by_cases hlt' : k < 32
    · obtain ⟨x, hx⟩ : ∃ x, l[k]? = some x := ⟨_, List.getElem?_eq_getElem (by rw [HL.out]; exact hlt')⟩
      obtain ⟨y, hy⟩ : ∃ y, (l.take k ++ zeros.drop k)[k]? = some y := ⟨_, List.getElem?_eq_getElem (by simp [HL.out, zeros_len]; omega)⟩
      have cx := ((hb.later hg).below hgr (by omega)).cell hx
      have cy := hbk.cell hy
      have fy := hbk.free k
      have hset := hbk.set_ (k := k) (by simp [HL.out, zeros_len]; omega) x
      rw [mix_set l zeros k x hx (by rw [zeros_len]; omega)] at hset
      clear hx hy
      have k0 : (0 : Int) ≤ (k : Int) := Int.natCast_nonneg _
      have k1 : (k : Int) < 32 := by omega
      go_wp2
      go_roundw
      case rel => exact ⟨k + 1, by omega, by go_num, hgr.setCell (p := ⟨w.heap.size + 1, k, none⟩) (Nat.le_refl _) _, hset⟩
      case measure => simp [intOf]; omega
    · obtain rfl : k = 32 := by omega
      have e1 : l.take 32 ++ zeros.drop 32 = l := by
        rw [List.take_of_length_le (by rw [HL.out]; omega), List.drop_of_length_le (by rw [zeros_len]; omega), List.append_nil]
      rw [e1] at hbk
      have hld := hbk.load Try.underlying35 dig_size HL.out
      have hb0' := hb0.below hgr (by omega)
      clear e1
      go_wp2_with (first | (with_reducible refine wpList_loads rfl 35 (.tmp 3) rfl _ rfl _ hld ?_) | (refine wpList_stores rfl 35 (.tmp 2) (.tmp 15) rfl w.heap.size zeros l 32 rfl rfl hb0' zeros_len HL.out dig_size ?_; intro w2 hbox2 hbel2))
      refine bodyPost_ret (v := dv l) (res_arr Try.results28 _ rfl Try.underlying35 dig_size HL.out hbox2.lies) rfl ⟨rfl, hbel2 _ _ (Nat.le_refl _) (Below.trans hg (hgr.mono (by omega)))⟩

set_option maxHeartbeats 1000000 in
theorem rdigest_any (s : List UInt8) (w : World) (hs : s.length ≤ 1000000) :
    Calls Try.prog 21 #[.string ⟨s.toArray⟩] w fun e w' => e = .returned (.tuple #[dv (digOf s).1, .int .i64 (digOf s).2]) ∧ Below w.heap.size w w' := by
  have hbox := Box.new w 35 zeros
  have hg : Grows w (w.alloc (.cells (zeros.map bv).toArray 35)) := (Grows.refl w).alloc (Nat.le_refl _) _
  cases hu : unhex s with
  | none =>
    have hd : digOf s = (zeros, 2) := by simp [digOf, hu]
    rw [hd]
    have HU := Lib.hid hu
    clear hu hd
    go_enter Try.func21, Try.ntmps21
    go_wp2_with fail
    change Calls _ _ _ (w.alloc (.cells (zeros.map bv).toArray 35)) _
    generalize w.alloc (.cells (zeros.map bv).toArray 35) = w0 at *
    refine (rparse_any s w0 hs).mono ?_
    rw [HU.out]
    rintro e w1 ⟨hb1, rfl⟩
    have hbox1 := hbox.later hb1
    go_wp2_with (refine wpList_stores rfl 35 (.tmp 2) (.tmp 13) rfl w.heap.size zeros zeros 32 rfl rfl hbox1 zeros_len zeros_len dig_size ?_; intro w2 hbox2 hbel2)
    refine bodyPost_ret (v := .tuple #[dv zeros, .int .i64 2]) (res_arr_tmp (u := 3) Try.results21 _ rfl Try.underlying35 dig_size zeros_len hbox2.lies) rfl ⟨rfl, hbel2 _ _ (Nat.le_refl _) (grow_trans hg hb1)⟩
  | some l =>
    by_cases hl : l.length = 32
    · have hd : digOf s = (l, 0) := by simp [digOf, hu, hl]
      rw [hd]
      have HU := Lib.hid hu
      have HL := Lib.hid hl
      clear hu hd hl
      go_enter Try.func21, Try.ntmps21
      go_wp2_with fail
      change Calls _ _ _ (w.alloc (.cells (zeros.map bv).toArray 35)) _
      generalize w.alloc (.cells (zeros.map bv).toArray 35) = w0 at *
      refine (rparse_any s w0 hs).mono ?_
      rw [HU.out]
      rintro e w1 ⟨hb1, v1, rfl, hown1⟩
      have hbox1 := hbox.later hb1
      rw [HL.out] at hown1
      obtain ⟨g1, c1, rfl, hk1, hg1, hboxl⟩ := own_box hown1 (by omega)
      clear hown1
      go_wp2_with fail
      refine (of_any g1 c1 l _ HL.out hboxl).mono ?_
      rintro e w2 ⟨rfl, hb2⟩
      have hbox1' := hbox1.later hb2
      go_wp2_with (refine wpList_stores rfl 35 (.tmp 2) (.tmp 20) rfl w.heap.size zeros l 32 rfl rfl hbox1' zeros_len HL.out dig_size ?_; intro w3 hbox2 hbel2)
      refine bodyPost_ret (v := .tuple #[dv l, .int .i64 0]) (res_arr_tmp (u := 3) Try.results21 _ rfl Try.underlying35 dig_size HL.out hbox2.lies) rfl ⟨rfl, hbel2 _ _ (Nat.le_refl _) (grow_trans hg (grow_trans hb1 hb2))⟩
    · have hd : digOf s = (zeros, 3) := by simp [digOf, hu, hl]
      rw [hd]
      have HU := Lib.hid hu
      have hne : ((l.length : Int) == 32) = false := by simp; omega
      have hne' : ((l.length : Int) != 32) = true := by simp; omega
      clear hu hd hl
      go_enter Try.func21, Try.ntmps21
      go_wp2_with fail
      change Calls _ _ _ (w.alloc (.cells (zeros.map bv).toArray 35)) _
      generalize w.alloc (.cells (zeros.map bv).toArray 35) = w0 at *
      refine (rparse_any s w0 hs).mono ?_
      rw [HU.out]
      rintro e w1 ⟨hb1, v1, rfl, hown1⟩
      have hbox1 := hbox.later hb1
      obtain ⟨A1, c1, rfl, hk1⟩ := own_form hown1
      clear hown1
      go_wp2_with (refine wpList_stores rfl 35 (.tmp 2) (.tmp 18) rfl w.heap.size zeros zeros 32 rfl rfl hbox1 zeros_len zeros_len dig_size ?_; intro w2 hbox2 hbel2)
      refine bodyPost_ret (v := .tuple #[dv zeros, .int .i64 3]) (res_arr_tmp (u := 3) Try.results21 _ rfl Try.underlying35 dig_size zeros_len hbox2.lies) rfl ⟨rfl, hbel2 _ _ (Nat.le_refl _) (grow_trans hg hb1)⟩
end Go.Proofs.Ytgkoopnbphohaaa
