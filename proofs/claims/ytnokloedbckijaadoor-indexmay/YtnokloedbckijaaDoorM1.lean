/-
  Contracts, joined (IxY RTex RNam IxV IxW IxX).
-/
import Derived.Test.YtnokloedbckijaaDoorJ6
import Derived.Test.YtnokloedbckijaaDoorRows
import Derived.Test.YtnokloedbckijaaDoorJ1
import Derived.Deep.QuietTactic
import Derived.BigQuiet
import Derived.Outline
import Derived.Lib.Hide
import Derived.Test.YtnokloedbckijaaDoorJ3
import Derived.BigGuard

/-
  An index that lies in memory, in one word (as in L11B).
-/
namespace Go.Proofs.YtnokloedbckijaaDoor
open Go.RowKit
set_option linter.unusedVariables false
set_option maxRecDepth 20000

/-- An index that lies there: its data, where its items are, their room. -/
abbrev Ent3 := Ixd × Option Addr × Nat
def ent3 (t : Ent3) : List Value := xcells t.1 t.2.1 t.2.2
structure Lying (w : World) (t : Ent3) : Prop where
  ok : t.1.Ok
  few : t.1.its.length ≤ maxLen
  recs : Recs w t.2.1 33 (t.1.its.map icells)
theorem Lying.later {w w' : World} {t : Ent3} (h : Lying w t) (hg : Grows w w') : Lying w' t := ⟨h.ok, h.few, h.recs.later hg⟩
theorem goodX_few (x : Ixd) : (goodX x).its.length ≤ 6 := by show ((x.its.take 6).map _).length ≤ 6; simp; omega
end Go.Proofs.YtnokloedbckijaaDoor

/-
  Contract of the reference's Text: bytes' digits.
-/
namespace Go.Proofs.YtnokloedbckijaaDoor
open Go.RowKit
set_option linter.unusedVariables false

def hexD (n : Nat) : UInt8 := if n < 10 then UInt8.ofNat (48 + n) else UInt8.ofNat (87 + n)
def hexOf (l : List UInt8) : List UInt8 := l.flatMap fun b => [hexD (b.toNat / 16), hexD (b.toNat % 16)]

theorem hexOf_append (l r : List UInt8) : hexOf (l ++ r) = hexOf l ++ hexOf r := by simp [hexOf]
theorem hexOf_length (l : List UInt8) : (hexOf l).length = 2 * l.length := by
  induction l with
  | nil => rfl
  | cons b r ih => simp only [hexOf, List.flatMap_cons, List.length_append] at ih ⊢; simp only [List.length_cons, List.length_nil, ih]; omega
theorem hexOf_take (l : List UInt8) (k : Nat) (b : UInt8) (h : l[k]? = some b) : hexOf (l.take (k + 1)) = hexOf (l.take k) ++ [hexD (b.toNat / 16), hexD (b.toNat % 16)] := by
  rw [List.take_add_one, h, hexOf_append]
  rfl
theorem cut_dig : ∀ k : Fin 16, ((⟨#[48, 49, 50, 51, 52, 53, 54, 55, 56, 57, 97, 98, 99, 100, 101, 102]⟩ : ByteArray).extract k.val (k.val + 1)).data.toList = [hexD k.val] := by decide +kernel
theorem cut_one (k : Nat) (hk : k < 16) (X Y : Int) (hX : X = (k : Int)) (hY : Y = (k : Int) + 1) (w : World) :
    (Instr.slice 9 (.string ⟨#[48, 49, 50, 51, 52, 53, 54, 55, 56, 57, 97, 98, 99, 100, 101, 102]⟩) (some (.int .i64 X)) (some (.int .i64 Y)) none).run Tryd.prog w = .ok (.string ⟨[hexD k].toArray⟩) w := by
  subst hX hY
  have hs : (⟨#[48, 49, 50, 51, 52, 53, 54, 55, 56, 57, 97, 98, 99, 100, 101, 102]⟩ : ByteArray).size = 16 := rfl
  rw [run_slice_string w 9 _ .i64 .i64 (k : Int) ((k : Int) + 1) Tryd.underlying9 (by omega) (by omega) (by rw [hs]; omega)]
  have h := cut_dig ⟨k, hk⟩
  have e : ((k : Int) + 1).toNat = k + 1 := by omega
  rw [Int.toNat_natCast, e, ← h]

end Go.Proofs.YtnokloedbckijaaDoor

/-
  Contracts of the reference's Bytes and Name: a digest's bytes, and its text.
-/
namespace Go.Proofs.YtnokloedbckijaaDoor
open Go.RowKit
set_option linter.unusedVariables false

theorem dig_size : (Tryd.prog.info? 42).map (·.size) = some 32 := by kernel_rfl
set_option maxHeartbeats 1000000 in
theorem rbytes_any (l : List UInt8) (w : World) (hl : l.length = 32) :
    Calls Tryd.prog 56 #[dv l] w fun e w' => ∃ A c, e = .returned (.slice A 32 c) ∧ 32 ≤ c ∧ Lies w' w'.heap.size A (l.map bv) ∧ Below w.heap.size w w' := by
  obtain ⟨i0, hi0, hz0, hz1, hz2⟩ := info_parts byte_info
  have hbox := Box.new w 42 l
  have hg : Grows w (w.alloc (.cells (l.map bv).toArray 42)) := (Grows.refl w).alloc (Nat.le_refl _) _
  have HL := Lib.hid hl
  clear hl
  go_enter Tryd.func56, Tryd.ntmps56
  go_wp2
  have h01 : w.heap.size + 1 = (w.alloc (.cells (l.map bv).toArray 42)).heap.size := by simp
  generalize w.alloc (.cells (l.map bv).toArray 42) = w0 at *
  have H01 := Lib.hid h01
  clear h01
  go_loopw [3, 4] (fun v i wr => ∃ k : Nat, k ≤ 32 ∧ i = .int .i64 k ∧ wr.ownsRow w0.heap.size 5 1 v k ((l.take k).map bv) ∧ Grows w0 wr) (fun _ i _ => 32 - (intOf i).toNat)
  case atStart => exact ⟨0, Nat.zero_le _, rfl, World.ownsRow_nil _ _ _ _, Grows.refl _⟩
  case round =>
    obtain ⟨k, hk, rfl, hown, hgr⟩ := hrel
    by_cases hlt : k < 32
    · obtain ⟨x, hx⟩ : ∃ x, l[k]? = some x := ⟨_, List.getElem?_eq_getElem (by rw [HL.out]; exact hlt)⟩
      have cx := (hbox.later hgr).cell hx
      have htk : l.take (k + 1) = l.take k ++ [x] := by rw [List.take_add_one, hx]; rfl
      have HT := Lib.hid htk
      have hnew := Lies.new wr 5 [bv x]
      clear hx htk
      have k1 : (k : Int) < 32 := by omega
      go_wp2_with (at_builtin; refine wpList_append_src _ rfl (.tmp 9) (.tmp 13) _ rfl w0.heap.size 5 i0 _ 1 Tryd.underlying22 hi0 hz0 hz1 hz2 rfl u3 k _ rfl (hown.alloc _) _ _ 1 1 [bv x] rfl rfl hnew (by simp [Value.oneCell']) (by unfold maxLen; omega) (by omega) (by rw [World.size_alloc]; have := hgr.size; omega) ?_; intro v' w' hown' hg' hat')
      have hb2 : Below w0.heap.size wr w' := ((Below.refl _ wr).alloc hgr.size _).grown hg' (by rw [World.size_alloc]; have := hgr.size; omega) (own_ge hown)
      rw [show [bv x] = [x].map bv from rfl, ← List.map_append, ← HT.out] at hown'
      go_roundw
      case rel => exact ⟨k + 1, by omega, by go_num, hown', Below.trans hgr hb2⟩
      case measure => simp [intOf]; omega
    · obtain rfl : k = 32 := by omega
      obtain ⟨A, c, rfl, hc⟩ := own_form hown
      rw [List.take_of_length_le (by rw [HL.out]; omega)] at hown
      go_wp2
      go_ret
      exact ⟨A, c, rfl, hc, Lies.of_own hown, grow_trans hg hgr⟩

end Go.Proofs.YtnokloedbckijaaDoor

/-
  Contracts of the reference's Number and of its Bytes of an index.
-/
namespace Go.Proofs.YtnokloedbckijaaDoor
open Go.RowKit
set_option linter.unusedVariables false
set_option maxRecDepth 20000

theorem own_newx (w : World) (t : TypeId) (vs : List Value) (n : Nat) (h : vs.length = n) (hm : n ≤ maxLen) : (w.alloc (.cells vs.toArray t)).ownsRow w.heap.size t 1 (.slice (some ⟨w.heap.size, 0, none⟩) n n) n vs :=
  ⟨by omega, .inr ⟨w.heap.size, n, _, rfl, Nat.le_refl _, heap_alloc_new w _, Nat.le_refl _, hm, by simp [h], by simp [← h]⟩⟩
theorem four_eqx (s : Nat) : fourC s = [UInt8.ofNat s, UInt8.ofNat (s / 256), UInt8.ofNat (s / 65536), UInt8.ofNat (s / 16777216)] := by simp [fourC, List.range, List.range.loop]
theorem rnumx_any (k : Nat) (w : World) (hk : k < 4294967296) :
    Calls Tryd.prog 55 #[.int .i64 (k : Int)] w fun e w' => e = .returned (.slice (some ⟨w.heap.size, 0, none⟩) 4 4) ∧ Lies w' w'.heap.size (some ⟨w.heap.size, 0, none⟩) ((fourC k).map bv) ∧ Grows w w' := by
  have hwn : IntKind.u32.wrap (k : Int) = (k : Int) := by unfold IntKind.wrap; simp [IntKind.signed, IntKind.bits]; omega
  go_enter Tryd.func55, Tryd.ntmps55
  go_wp2
  have hcells : [Value.int IntKind.u8 ((k : Int) % 256), Value.int IntKind.u8 ((k : Int) / 256 % 256), Value.int IntKind.u8 ((k : Int) / 65536 % 256), Value.int IntKind.u8 ((k : Int) / 16777216)] = (fourC k).map bv := by
    rw [four_eqx]
    simp only [List.map_cons, List.map_nil, bv, UInt8.toNat_ofNat']
    simp
    omega
  have hown := own_newx w 5 [Value.int IntKind.u8 ((k : Int) % 256), Value.int IntKind.u8 ((k : Int) / 256 % 256), Value.int IntKind.u8 ((k : Int) / 65536 % 256), Value.int IntKind.u8 ((k : Int) / 16777216)] 4 rfl (by unfold maxLen; omega)
  go_ret
  exact ⟨rfl, by rw [← hcells]; exact Lies.of_own hown, grows_alloc _ _⟩

set_option maxHeartbeats 8000000 in
theorem rbytes11_any (x : Ixd) (A : Option Addr) (c : Nat) (w : World) (hx : x.Ok) (hI : Recs w A 33 (x.its.map icells)) (hM : IMay x) :
    Calls Tryd.prog 36 #[xval x A c] w fun e w' => ∃ v, e = .returned v ∧ w'.ownsRow w.heap.size 5 1 v (ixAll x).length ((ixAll x).map bv) ∧ Grows w w' := by
  have hb := Has.new w 49 (xcells x A c)
  have hg0 := grows_alloc w (.cells (xcells x A c).toArray 49)
  have hfew := hM.few
  have hp := mayZ_iff.1 hM.prm
  obtain ⟨na, hna⟩ : ∃ na : Nat, x.a = (na : Int) := ⟨x.a.toNat, by omega⟩
  obtain ⟨nb, hnb⟩ : ∃ nb : Nat, x.b = (nb : Int) := ⟨x.b.toNat, by omega⟩
  obtain ⟨nc, hnc⟩ : ∃ nc : Nat, x.c = (nc : Int) := ⟨x.c.toNat, by omega⟩
  have h35 := xc_its hx.im A c
  have h0 : (xcells x A c)[0]? = some (.int .i64 (na : Int)) := by rw [← hna]; rfl
  have h1 : (xcells x A c)[1]? = some (.int .i64 (nb : Int)) := by rw [← hnb]; rfl
  have h2 : (xcells x A c)[2]? = some (.int .i64 (nc : Int)) := by rw [← hnc]; rfl
  have hLI : ∀ {u : World} {b : Nat}, Has u b (xcells x A c) → (Instr.loadAt 42 (.pointer (some ⟨b, 3, none⟩))).run Tryd.prog u = .ok (dv x.im) u := fun h => img_load h hx.im
  have hsz := hM.sizes
  have hits := hx.its
  have himl := hx.im
  have hHead : Hid (headBytes x = [76, 84, 73, 49] ++ fourC na ++ fourC nb ++ fourC nc ++ x.im ++ fourC x.its.length) := by show _ = _; unfold headBytes; rw [hna, hnb, hnc]; rfl
  have hHL : (headBytes x).length = 52 := headBytes_len himl
  unfold ixAll ixBytes
  have hb1 : na < 4294967296 := by omega
  have hb2 : nb < 4294967296 := by omega
  have hb3 : nc < 4294967296 := by omega
  have hcc : x.c ≤ 4096 := by omega
  have haa : 1 ≤ x.a := by omega
  unfold xval at *
  generalize xcells x A c = vs at *
  generalize headBytes x = hd at *
  generalize x.im = im at *
  generalize x.its = l at *
  obtain ⟨N, hN⟩ : ∃ N, N = l.length := ⟨_, rfl⟩
  rw [← hN] at hfew h35 hHead
  have HN := Lib.hid hN
  have hsz : ∀ it ∈ l, 1 ≤ it.2 ∧ it.2 ≤ 4096 := fun it hi => by
    obtain ⟨j, hj⟩ := List.mem_iff_getElem?.1 hi
    obtain ⟨u1, u2, _⟩ := hsz j it hj
    exact ⟨u1, by omega⟩
  clear hN hna hnb hnc hp hcc haa hM
  have hIl := hI.lies
  have hszw : (w.alloc (.cells vs.toArray 49)).heap.size = w.heap.size + 1 := by simp
  have hcv := Lib.run_convert_bytes_const (P := Tryd.prog) (w.alloc (.cells vs.toArray 49)) 22 5 #[.int .u8 76, .int .u8 84, .int .u8 73, .int .u8 49] 4 4 Tryd.underlying22 Tryd.underlying5
  obtain ⟨i0, hi0, hz0, hz1, hz2⟩ := info_parts byte_info
  obtain ⟨hmk, hga⟩ := mark_bytes (w.alloc (.cells vs.toArray 49))
  have hb2' := hb.later hga
  have hg2 := Grows.trans hg0 hga
  have hmk2 := hmk.mono (B' := ((w.alloc (.cells vs.toArray 49)).alloc (.cells #[.int .u8 76, .int .u8 84, .int .u8 73, .int .u8 49] 5 (4, 5))).heap.size) (by simp)
  have P0 := hb2'.cell h0
  rw [hszw] at hmk2 hcv
  go_enter Tryd.func36, Tryd.ntmps36
  go_wp2_with fail
  clear hcv
  change Calls _ _ _ ((w.alloc (.cells vs.toArray 49)).alloc (.cells #[.int .u8 76, .int .u8 84, .int .u8 73, .int .u8 49] 5 (4, 5))) _
  generalize (w.alloc (.cells vs.toArray 49)).alloc (.cells #[.int .u8 76, .int .u8 84, .int .u8 73, .int .u8 49] 5 (4, 5)) = w2 at *
  clear hb hmk hga hg0 hszw
  refine (rnumx_any na w2 hb1).mono ?_
  rintro e w3 ⟨rfl, hLn, hg3⟩
  have hb3' := hb2'.later hg3
  have hg03 := Grows.trans hg2 hg3
  have hmk3 := hmk2.later hg3
  have P1 := hb3'.cell h1
  have hbase : w.heap.size < w3.heap.size := hb3'.lt
  have hnl : ∀ k : Nat, ((fourC k).map bv).length = 4 := fun k => by rw [List.length_map, four_len]
  go_wp2_with (at_builtin; refine wpList_append_grows _ rfl (.tmp 7) (.tmp 11) 22 rfl 5 i0 _ 1 1 Tryd.underlying22 hi0 hz0 hz1 hz2 rfl (by decide) (some ⟨w.heap.size + 1, 0, none⟩) 4 4 (([76, 84, 73, 49] : List UInt8).map bv) rfl (fun h => by cases h) rfl (fun b hb => by injection hb with hb; subst hb; exact hmk3.cells) _ 4 4 ((fourC na).map bv) rfl (hnl na) hLn.cells (bv_one _) (by omega) (by unfold maxLen; omega) (by omega) ?_; intro v4 w4 hown4 gq4; have hg4 : Grows w3 w4 := (Turns.of_by (S := fun _ => False) gq4 (fun g e _ => by cases e)).grows (fun _ _ h => h); have hbx4 := hb3'.later hg4; have Q1 := hbx4.cell h1)
  rw [← List.map_append] at hown4
  obtain ⟨S4, hS4⟩ : ∃ S4, S4 = [76, 84, 73, 49] ++ fourC na := ⟨_, rfl⟩
  rw [← hS4] at hown4
  obtain ⟨A4, c4, rfl, hc4⟩ := own_form hown4
  have HS4 := Lib.hid hS4
  have ht4 : Turns (fun q => w3.heap.size ≤ q) w3 w4 := Turns.of_grows hg4
  have hs4 : w3.heap.size ≤ w4.heap.size := hg4.size
  clear hS4 hb3' hb2' P0 P1 hLn hmk2 hmk3 gq4

  refine (rnumx_any nb w4 hb2).mono ?_
  rintro e w5a ⟨rfl, hL5, hq5⟩
  have hr5 := own_later hown4 hq5
  have ht5 := ht4.trans (Turns.of_grows (S := (fun q => w3.heap.size ≤ q)) hq5)
  have hsb5 := Nat.le_trans hs4 hq5.size
  have hbx5a := hbx4.later hq5
  have q0 := hbx5a.cell h0
  clear hown4 hbx4
  go_wp2_with (at_builtin; refine wpList_append_src _ rfl (.tmp 13) (.tmp 17) _ rfl w3.heap.size 5 i0 _ 1 Tryd.underlying22 hi0 hz0 hz1 hz2 rfl _ 8 _ rfl hr5 _ _ 4 4 ((fourC nb).map bv) rfl (hnl nb) hL5 (bv_one _) (by unfold maxLen; omega) (by omega) hsb5 ?_; intro v5 w5 hown5 gq5 hat5; have htt5 : Turns (fun q => w3.heap.size ≤ q) w5a w5 := Turns.of_by gq5 fun g e _ => own_ge hr5 g e; have hbx5 := hbx5a.turned htt5 (by omega); have Q2 := hbx5.cell h2)
  rw [← List.map_append] at hown5
  have ht5 := ht5.trans htt5
  have hs5 := Nat.le_trans hsb5 htt5.size
  obtain ⟨S5, hS5⟩ : ∃ S5, S5 = S4 ++ fourC nb := ⟨_, rfl⟩
  rw [← hS5] at hown5
  obtain ⟨A5, c5, rfl, hc5⟩ := own_form hown5
  have HS5 := Lib.hid hS5
  clear hS5

  refine (rnumx_any nc w5 hb3).mono ?_
  rintro e w6a ⟨rfl, hL6, hq6⟩
  have hr6 := own_later hown5 hq6
  have ht6 := ht5.trans (Turns.of_grows (S := (fun q => w3.heap.size ≤ q)) hq6)
  have hsb6 := Nat.le_trans hs5 hq6.size
  have hbx6a := hbx5.later hq6
  have q0 := hbx6a.cell h0
  clear hown5 hbx5
  go_wp2_with (first | (with_reducible refine wpList_loads rfl 42 (.tmp 26) rfl _ rfl _ li6 ?_) | (at_builtin; refine wpList_append_src _ rfl (.tmp 19) (.tmp 23) _ rfl w3.heap.size 5 i0 _ 1 Tryd.underlying22 hi0 hz0 hz1 hz2 rfl _ 12 _ rfl hr6 _ _ 4 4 ((fourC nc).map bv) rfl (hnl nc) hL6 (bv_one _) (by unfold maxLen; omega) (by omega) hsb6 ?_; intro v6 w6 hown6 gq6 hat6; have htt6 : Turns (fun q => w3.heap.size ≤ q) w6a w6 := Turns.of_by gq6 fun g e _ => own_ge hr6 g e; have hbx6 := hbx6a.turned htt6 (by omega); have li6 := hLI hbx6))
  rw [← List.map_append] at hown6
  have ht6 := ht6.trans htt6
  have hs6 := Nat.le_trans hsb6 htt6.size
  obtain ⟨S6, hS6⟩ : ∃ S6, S6 = S5 ++ fourC nc := ⟨_, rfl⟩
  rw [← hS6] at hown6
  obtain ⟨A6, c6, rfl, hc6⟩ := own_form hown6
  have HS6 := Lib.hid hS6
  clear hS6

  refine (rbytes_any im w6 himl).mono ?_
  rintro e w7a ⟨Ab, cb, rfl, hcb, hL7, hq7⟩
  have hr7 := own_later hown6 hq7
  have ht7a := ht6.trans (Turns.of_grows (S := (fun q => w3.heap.size ≤ q)) hq7)
  have hsb7 := Nat.le_trans hs6 hq7.size
  have hbx7a := hbx6.later hq7
  clear hown6 hbx6
  go_wp2_with (at_builtin; refine wpList_append_src _ rfl (.tmp 25) (.tmp 28) _ rfl w3.heap.size 5 i0 _ 1 Tryd.underlying22 hi0 hz0 hz1 hz2 rfl _ 16 _ rfl hr7 _ Ab 32 cb (im.map bv) rfl (by rw [List.length_map]; exact himl) hL7 (bv_one _) (by unfold maxLen; omega) (by omega) hsb7 ?_; intro v7 w7 hown7 gq7 hat7; have htt7 : Turns (fun q => w3.heap.size ≤ q) w7a w7 := Turns.of_by gq7 fun g e _ => own_ge hr7 g e; have hbx7 := hbx7a.turned htt7 (by omega); have Q35 := hbx7.cell h35)
  rw [← List.map_append] at hown7
  have ht7 := ht7a.trans htt7
  have hs7 := Nat.le_trans hsb7 htt7.size
  obtain ⟨S7, hS7⟩ : ∃ S7, S7 = S6 ++ im := ⟨_, rfl⟩
  rw [← hS7] at hown7
  obtain ⟨A7, c7, rfl, hc7⟩ := own_form hown7
  have HS7 := Lib.hid hS7
  clear hS7

  refine (rnumx_any N w7 (by omega)).mono ?_
  rintro e w8a ⟨rfl, hL8, hq8⟩
  have hr8 := own_later hown7 hq8
  have ht8 := ht7.trans (Turns.of_grows (S := (fun q => w3.heap.size ≤ q)) hq8)
  have hsb8 := Nat.le_trans hs7 hq8.size
  have hbx8a := hbx7.later hq8
  skip
  clear hown7 hbx7
  go_wp2_with (at_builtin; refine wpList_append_src _ rfl (.tmp 30) (.tmp 34) _ rfl w3.heap.size 5 i0 _ 1 Tryd.underlying22 hi0 hz0 hz1 hz2 rfl _ 48 _ rfl hr8 _ _ 4 4 ((fourC N).map bv) rfl (hnl N) hL8 (bv_one _) (by unfold maxLen; omega) (by omega) hsb8 ?_; intro v8 w8 hown8 gq8 hat8; have htt8 : Turns (fun q => w3.heap.size ≤ q) w8a w8 := Turns.of_by gq8 fun g e _ => own_ge hr8 g e; have hbx8 := hbx8a.turned htt8 (by omega); have R35 := hbx8.cell h35)
  rw [← List.map_append] at hown8
  have ht8 := ht8.trans htt8
  have hs8 := Nat.le_trans hsb8 htt8.size
  obtain ⟨S8, hS8⟩ : ∃ S8, S8 = S7 ++ fourC N := ⟨_, rfl⟩
  rw [← hS8] at hown8
  obtain ⟨A8, c8, rfl, hc8⟩ := own_form hown8
  have HS8 := Lib.hid hS8
  clear hS8

  have hS9 : S8 = hd := by rw [hHead.out, HS8.out, HS7.out, HS6.out, HS5.out, HS4.out]
  rw [hS9] at hown8
  have hg03' := hg03
  have hI8 := (hI.later hg03).turned (hIl.below hg03) ht8 (fun k h => by omega)
  clear hS9 HS8 HS7 HS6 HS5 HS4 hHead
  go_wp2_with fail
  go_loopw [3, 4] (fun v i wr => ∃ k : Nat, k ≤ N ∧ i = .int .i64 (k : Int) ∧ wr.ownsRow w3.heap.size 5 1 v (52 + 36 * k) ((hd ++ ((l.take k).map itemBytes).flatten).map bv) ∧ Turns (fun q => w3.heap.size ≤ q) w8 wr) (fun _ i _ => N - (intOf i).toNat)
  case atStart => exact ⟨0, Nat.zero_le _, rfl, by simpa using hown8, Turns.refl _ _⟩
  case round =>
    clear hown8
    obtain ⟨k, hk, rfl, hown, htr⟩ := hrel
    obtain ⟨A9, c9, rfl, hc9⟩ := own_form hown
    have hbr := hbx8.turned htr (by omega)
    have hsr := Nat.le_trans hs8 htr.size
    have X35 := hbr.cell h35
    have htA := ht8.trans htr
    by_cases hlt : k < N
    · obtain ⟨it, hit⟩ : ∃ it, l[k]? = some it := ⟨_, List.getElem?_eq_getElem (by rw [← HN.out]; exact hlt)⟩
      have hmem := List.mem_of_getElem? hit
      have hIr := (hI.later hg03).turned (hIl.below hg03) htA (fun k h => by omega)
      obtain ⟨ad, rfl, _, cx⟩ := hIr.at_ (by decide) (i := k) (r := icells it) (by rw [List.getElem?_map, hit]; rfl)
      obtain ⟨lx, _⟩ := hits it hmem
      obtain ⟨z1, z2⟩ := hsz it hmem
      have HF : Hid ((hd ++ ((l.take (k + 1)).map itemBytes).flatten) = (hd ++ ((l.take k).map itemBytes).flatten) ++ it.1 ++ fourC it.2.toNat) := by show _ = _; rw [flats_take hit, itemBytes]; simp only [List.append_assoc]
      have hc32 := ic_size lx
      have ldn : (Instr.loadAt 42 (.pointer (some (ad.add (k * 33))))).run Tryd.prog wr = .ok (dv it.1) wr :=
        load_any wr _ _ (it.1.map bv) _ (fun j v hv => by rw [add_add_addr]; exact cx j v (ic_name hv)) Tryd.underlying42 rfl (by rw [List.length_map, lx]; exact dig_size2)
      have hki : (k : Int) < (N : Int) := by omega
      have hk2 : k < 4096 := by omega
      have hdl : (hd ++ ((l.take k).map itemBytes).flatten).length = 52 + 36 * k := by rw [List.length_append, hHL, flats_len (fun y hy => (hits y (List.mem_of_mem_take hy)).1), List.length_take, ← HN.out, Nat.min_eq_left hk]
      obtain ⟨z, hzz⟩ : ∃ z : Nat, it.2 = (z : Int) := ⟨it.2.toNat, by omega⟩
      have hz4 : z < 4294967296 := by omega
      rw [hzz] at hc32
      rw [hzz, Int.toNat_natCast] at HF
      have c32 : ∀ u, Turns (fun q => w3.heap.size ≤ q) wr u → u.cell? ⟨(ad.add (k * 33)).block, (ad.add (k * 33)).off + 32, none⟩ = some (.int .i64 (z : Int)) := fun u hu => by
        obtain ⟨ad', e, hbl, _⟩ := (hIl.below hg03) 0 _ (List.getElem?_eq_getElem (show 0 < ((l.map icells).flatten).length by rw [flat_len (k := 33) (fun r hr => by obtain ⟨y, hy, rfl⟩ := List.mem_map.1 hr; exact icells_len (hits y hy).1)]; rw [List.length_map, ← HN.out]; omega))
        injection e with e
        subst e
        exact hu.cell (cell_off (j := 31) (by rw [add_add_addr]; exact cx 32 _ hc32)) (by show ¬ w3.heap.size ≤ (ad.add (k * 33)).block; rw [add_block]; omega)
      generalize hd ++ ((l.take k).map itemBytes).flatten = cur at *
      generalize it.1 = nm at *
      have HDL := Lib.hid hdl
      generalize hP : 52 + 36 * k = P at *
      have HP := Lib.hid hP
      have hPb : P ≤ 200000 := by omega
      clear hit hmem cx hzz hdl hP htA
      go_wp2_with (with_reducible refine wpList_loads rfl 42 (.tmp 48) rfl _ rfl _ ldn ?_)
      refine (rbytes_any nm wr lx).mono ?_
      rintro e wa ⟨Ab, cb, rfl, hcb, hLa, hqa⟩
      have hra := own_later hown hqa
      have hsa := Nat.le_trans hsr hqa.size
      have hta : Turns (fun q => w3.heap.size ≤ q) wr wa := Turns.of_grows hqa
      have hbxa := hbr.later hqa
      have Xa := hbxa.cell h35
      clear hown ldn
      go_wp2_with (at_builtin; refine wpList_append_src _ rfl (.tmp 43) (.tmp 50) _ rfl w3.heap.size 5 i0 _ 1 Tryd.underlying22 hi0 hz0 hz1 hz2 rfl _ P _ rfl hra _ Ab 32 cb (nm.map bv) rfl (by rw [List.length_map]; exact lx) hLa (bv_one _) (by unfold maxLen; omega) (by omega) hsa ?_; intro vb wb hownb gqb hatb; have htb : Turns (fun q => w3.heap.size ≤ q) wa wb := Turns.of_by gqb fun g e _ => own_ge hra g e; have htrb := hta.trans htb; have hbxb := hbxa.turned htb (by omega); have Xb := hbxb.cell h35; have Zb := c32 wb htrb)
      rw [← List.map_append] at hownb
      have hsb := Nat.le_trans hsa htb.size
      obtain ⟨Abb, cbb, rfl, _⟩ := own_form hownb
      refine (rnumx_any z wb hz4).mono ?_
      rintro e wc ⟨rfl, hLc, hqc⟩
      have hrc := own_later hownb hqc
      have hsc := Nat.le_trans hsb hqc.size
      have hcl : (cur ++ nm).length = P + 32 := by rw [List.length_append, HDL.out, lx]
      clear hownb gqb hatb
      go_wp2_with (at_builtin; refine wpList_append_src _ rfl (.tmp 52) (.tmp 59) _ rfl w3.heap.size 5 i0 _ 1 Tryd.underlying22 hi0 hz0 hz1 hz2 rfl _ (P + 32) _ rfl hrc _ _ 4 4 ((fourC z).map bv) rfl (hnl z) hLc (bv_one _) (by unfold maxLen; omega) (by omega) hsc ?_; intro vd wd hownd gqd hatd; have htd : Turns (fun q => w3.heap.size ≤ q) wc wd := Turns.of_by gqd fun g e _ => own_ge hrc g e)
      rw [← List.map_append, ← HF.out] at hownd
      go_roundw
      case rel => first | exact ⟨k + 1, by omega, by go_num, by rw [show 52 + 36 * (k + 1) = P + 32 + 4 by rw [← HP.out]; omega]; exact hownd, ((htr.trans htrb).trans (Turns.of_grows hqc)).trans htd⟩ | exact ⟨_, _, _, _, _, _, _, _, _, _, _, _, _, _, _, _, _, _, _, _, _, _, _, _, ⟨k + 1, by omega, by go_num, by rw [show 52 + 36 * (k + 1) = P + 32 + 4 by rw [← HP.out]; omega]; exact hownd, ((htr.trans htrb).trans (Turns.of_grows hqc)).trans htd⟩, rfl⟩ | exact ⟨_, _, _, _, _, _, _, _, _, _, _, _, _, _, _, _, _, _, _, _, _, _, _, _, _, ⟨k + 1, by omega, by go_num, by rw [show 52 + 36 * (k + 1) = P + 32 + 4 by rw [← HP.out]; omega]; exact hownd, ((htr.trans htrb).trans (Turns.of_grows hqc)).trans htd⟩, rfl⟩ | exact ⟨_, _, _, _, _, _, _, _, _, _, _, _, _, _, _, _, _, _, _, _, _, _, _, _, _, _, ⟨k + 1, by omega, by go_num, by rw [show 52 + 36 * (k + 1) = P + 32 + 4 by rw [← HP.out]; omega]; exact hownd, ((htr.trans htrb).trans (Turns.of_grows hqc)).trans htd⟩, rfl⟩ | exact ⟨_, _, _, _, _, _, _, _, _, _, _, _, _, _, _, _, _, _, _, _, _, _, _, _, _, _, _, ⟨k + 1, by omega, by go_num, by rw [show 52 + 36 * (k + 1) = P + 32 + 4 by rw [← HP.out]; omega]; exact hownd, ((htr.trans htrb).trans (Turns.of_grows hqc)).trans htd⟩, rfl⟩ | exact ⟨_, _, _, _, _, _, _, _, _, _, _, _, _, _, _, _, _, _, _, _, _, _, ⟨k + 1, by omega, by go_num, by rw [show 52 + 36 * (k + 1) = P + 32 + 4 by rw [← HP.out]; omega]; exact hownd, ((htr.trans htrb).trans (Turns.of_grows hqc)).trans htd⟩, rfl⟩
      case measure => simp [intOf]; omega
    · obtain rfl : k = N := by omega
      have d1 : decide ((k : Int) < (k : Int)) = false := by simp
      have hall : (hd ++ ((l.take k).map itemBytes).flatten) = hd ++ (l.map itemBytes).flatten := by rw [List.take_of_length_le (by rw [← HN.out]; exact Nat.le_refl _)]
      rw [hall] at hown
      have hln : (hd ++ (l.map itemBytes).flatten).length = 52 + 36 * k := by rw [List.length_append, hHL, flats_len (fun y hy => (hits y hy).1), ← HN.out]
      have hLc := Lies.of_own hown
      have PU := Lib.hid (rput_any A9 (52 + 36 * k) c9 (hd ++ (l.map itemBytes).flatten) wr hln hLc (by omega))
      have hgr : Grows w wr := turns_then_grows hg03 htA (fun k h => by omega)
      have HLN := Lib.hid hln
      clear hall hln hLc
      go_wp2_with fail
      refine PU.out.mono ?_
      rintro e wz ⟨vz, rfl, hownz, hgz⟩
      go_wp2_with fail
      go_ret
      exact ⟨vz, rfl, by rw [List.length_append, HLN.out, four_len]; exact own_base hownz hgr.size, Grows.trans hgr hgz⟩
end Go.Proofs.YtnokloedbckijaaDoor

/-
  Contract of the reference's May of an index.
-/
namespace Go.Proofs.YtnokloedbckijaaDoor
open Go.RowKit
set_option linter.unusedVariables false
set_option maxRecDepth 20000

set_option maxHeartbeats 4000000 in
theorem rmay11_any (x : Ixd) (A : Option Addr) (c : Nat) (w : World) (hx : x.Ok) (hI : Recs w A 33 (x.its.map icells)) (hn : x.its.length ≤ maxLen) :
    Calls Tryd.prog 33 #[xval x A c] w fun e w' => e = .returned (.bool (mayI x)) ∧ Grows w w' := by
  unfold maxLen at hn
  obtain ⟨R, hR⟩ : ∃ R, R = mayI x := ⟨_, rfl⟩
  rw [← hR]
  have HR := Lib.hid hR
  clear hR
  have hb := Has.new w 49 (xcells x A c)
  have hg0 := grows_alloc w (.cells (xcells x A c).toArray 49)
  have h35 := xc_its hx.im A c
  have h0 : (xcells x A c)[0]? = some (.int .i64 x.a) := rfl
  have h1 : (xcells x A c)[1]? = some (.int .i64 x.b) := rfl
  have h2 : (xcells x A c)[2]? = some (.int .i64 x.c) := rfl
  have M0 := fun u => rmay_any x.a x.b x.c u
  unfold pz at M0
  unfold xval at *
  generalize xcells x A c = vs at *
  obtain ⟨N, hN⟩ : ∃ N, N = x.its.length := ⟨_, rfl⟩
  rw [← hN] at hn h35
  have HN := Lib.hid hN
  clear hN
  have P0 := hb.cell h0
  have P1 := hb.cell h1
  have P2 := hb.cell h2
  have P35 := hb.cell h35
  have hI1 := hI.later hg0
  have hxa := hx.a
  have hxb := hx.b
  have hxc := hx.c
  unfold I64 at hxa hxb hxc
  have M0 := Lib.hid M0
  by_cases hz : mayZ x.a x.b x.c = true
  · have hzi := mayZ_iff.1 hz
    rw [hz] at M0
    by_cases hbig : N > 4096
    · have hM : R = false := by rw [HR.out]; exact mayI_false (fun h => by have := h.few; rw [← HN.out] at this; omega)
      have HM := Lib.hid hM
      clear hM
      have e1 : decide ((N : Int) > 4096) = true := by simp; omega
      have e3 : (4096 : Int) < (N : Int) := by omega
      go_enter Tryd.func33, Tryd.ntmps33
      go_wp2_with fail
      change Calls _ _ _ (w.alloc (.cells vs.toArray 49)) _
      generalize w.alloc (.cells vs.toArray 49) = w0 at *
      refine (M0.out _).mono ?_
      rintro e w1 ⟨rfl, hg1⟩
      have P35' := hcell_later P35 hg1
      go_wp2_with fail
      go_ret
      exact ⟨by rw [HM.out]; rfl, Grows.trans hg0 hg1⟩
    · have e1 : decide ((N : Int) > 4096) = false := by simp; omega
      have e3 : (N : Int) ≤ 4096 := by omega
      go_enter Tryd.func33, Tryd.ntmps33
      go_wp2_with fail
      change Calls _ _ _ (w.alloc (.cells vs.toArray 49)) _
      generalize w.alloc (.cells vs.toArray 49) = w0 at *
      refine (M0.out _).mono ?_
      rintro e w1 ⟨rfl, hg1⟩
      replace hb := hb.later hg1
      replace hI1 := hI1.later hg1
      replace hg0 := Grows.trans hg0 hg1
      clear P0 P1 P2 P35 hg1 M0
      have P35 := hb.cell h35
      go_wp2_with fail
      go_loopw [4, 5] (fun s i wr => ∃ k : Nat, k ≤ N ∧ s = .int .i64 (total (x.its.take k)) ∧ i = .int .i64 (k : Int) ∧ Grows w1 wr ∧ Hid (∀ j it, j < k → x.its[j]? = some it → sizeOk x.a x.c N j it.2)) (fun _ i _ => N - (intOf i).toNat)
      case atStart => exact ⟨0, Nat.zero_le _, rfl, rfl, Grows.refl _, fun j it h => by omega⟩
      case round =>
        obtain ⟨k, hk, rfl, rfl, hg, HIN⟩ := hrel
        have hbr := hb.later hg
        have Q35 := hbr.cell h35
        have hall : ∀ it ∈ x.its.take k, 1 ≤ it.2 ∧ it.2 ≤ 4096 := fun it hi => by
          obtain ⟨j, hj⟩ := List.mem_iff_getElem?.1 hi
          have hjk := (List.getElem?_eq_some_iff.1 hj).1
          rw [List.length_take] at hjk
          rw [List.getElem?_take_of_lt (by omega)] at hj
          have := HIN.out j it (by omega) hj
          exact ⟨this.1, by have := this.2.1; omega⟩
        have htb := total_bounds hall
        have hlk : (x.its.take k).length = k := by rw [List.length_take, ← HN.out, Nat.min_eq_left hk]
        rw [hlk] at htb
        by_cases hlt : k < N
        · obtain ⟨it, hit⟩ : ∃ it, x.its[k]? = some it := ⟨_, List.getElem?_eq_getElem (by rw [← HN.out]; exact hlt)⟩
          have hmem := List.mem_of_getElem? hit
          obtain ⟨ad, rfl, _, cx⟩ := hI1.at_ (by decide) (i := k) (r := icells it) (by rw [List.getElem?_map, hit]; rfl)
          obtain ⟨lx, hzr⟩ := hx.its it hmem
          have hc32 := ic_size lx
          have HT : Hid (total (x.its.take (k + 1)) = total (x.its.take k) + it.2) := total_take hit
          have c32 : wr.cell? ⟨(ad.add (k * 33)).block, (ad.add (k * 33)).off + 32, none⟩ = some (.int .i64 it.2) := cell_off (j := 31) (by rw [add_add_addr]; exact hcell_later (cx 32 _ hc32) hg)
          have Q0 := hbr.cell h0
          have Q2 := hbr.cell h2
          have HIT := Lib.hid hit
          obtain ⟨z, hzz⟩ : ∃ z, it.2 = z := ⟨_, rfl⟩
          rw [hzz] at hzr c32 HT
          unfold I64 at hzr
          have HZ := Lib.hid hzz
          have hki : (k : Int) < (N : Int) := by omega
          generalize total (x.its.take k) = sm at *
          have hkw : IntKind.i64.wrap ((k : Int) + 1) = (k : Int) + 1 := IntWalk.i64_in _ (by omega)
          clear hit hmem cx lx hzz hc32 hall hlk
          by_cases hs : z < 1
          · have q3 : decide (z < 1) = true := by simp [hs]
            have hM : R = false := by rw [HR.out]; exact mayI_false (fun h => by have := h.sizes k it HIT.out; rw [HZ.out, ← HN.out] at this; obtain ⟨u1, u2, u3⟩ := this; omega)
            have HM := Lib.hid hM
            clear hM
            go_wp2_with (first | go_big_skip | fail)
            go_ret
            exact ⟨by rw [HM.out]; rfl, Grows.trans hg0 hg⟩
          · have q3 : decide (z < 1) = false := by simp; omega
            by_cases ht : z > x.c
            · have q4 : decide (z > x.c) = true := by simp; omega
              have q5 : x.c < z := by omega
              have hM : R = false := by rw [HR.out]; exact mayI_false (fun h => by have := h.sizes k it HIT.out; rw [HZ.out, ← HN.out] at this; obtain ⟨u1, u2, u3⟩ := this; omega)
              have HM := Lib.hid hM
              clear hM
              go_wp2_with (first | go_big_skip | fail)
              go_ret
              exact ⟨by rw [HM.out]; rfl, Grows.trans hg0 hg⟩
            · have q4 : decide (z > x.c) = false := by simp; omega
              have q5 : z ≤ x.c := by omega
              have hwz : IntKind.i64.wrap (sm + z) = sm + z := IntWalk.i64_in _ (by omega)
              by_cases hmn : z < x.a
              · have q6 : decide (z < x.a) = true := by simp; omega
                by_cases hlast : k + 1 < N
                · have q7 : (k : Int) + 1 < (N : Int) := by omega
                  have hM : R = false := by rw [HR.out]; exact mayI_false (fun h => by have := h.sizes k it HIT.out; rw [HZ.out, ← HN.out] at this; obtain ⟨u1, u2, u3⟩ := this; have := u3 (by omega); omega)
                  have HM := Lib.hid hM
                  clear hM
                  go_wp2_with (first | go_big_skip | fail)
                  go_ret
                  exact ⟨by rw [HM.out]; rfl, Grows.trans hg0 hg⟩
                · have q7 : decide ((k : Int) + 1 < (N : Int)) = false := by simp; omega
                  have HL := Lib.hid hlast
                  clear hlast
                  have hok : Hid (sizeOk x.a x.c N k z) := by have hlst := HL.out; show _; refine ⟨?_, ?_, ?_⟩ <;> first | omega | (intro _; omega)
                  go_wp2_with (first | go_big_skip | fail)
                  go_roundw
                  case rel => exact ⟨k + 1, by omega, by rw [HT.out], by go_num, hg, inv_step (z := z) HIN.out HIT.out (by rw [HZ.out]; exact hok.out)⟩
                  case measure => simp [intOf]; omega
              · have q6 : decide (z < x.a) = false := by simp; omega
                have HL : Hid (x.a ≤ z) := by show _ ≤ _; omega
                have hok : Hid (sizeOk x.a x.c N k z) := by have hlst := HL.out; show _; refine ⟨?_, ?_, ?_⟩ <;> first | omega | (intro _; omega)
                go_wp2_with (first | go_big_skip | fail)
                go_roundw
                case rel => exact ⟨k + 1, by omega, by rw [HT.out], by go_num, hg, inv_step (z := z) HIN.out HIT.out (by rw [HZ.out]; exact hok.out)⟩
                case measure => simp [intOf]; omega
        · obtain rfl : k = N := by omega
          have d1 : decide ((k : Int) < (k : Int)) = false := by simp
          have htk : x.its.take k = x.its := by rw [List.take_of_length_le (by rw [← HN.out]; exact Nat.le_refl _)]
          rw [htk] at *
          have HT : Hid (R = decide (total x.its ≤ 65536)) := by
            show _ = _
            rw [HR.out]
            by_cases ht : total x.its ≤ 65536
            · rw [mayI_true ⟨hz, by rw [← HN.out]; omega, fun i it hi => by rw [← HN.out]; exact HIN.out i it (by rw [HN.out]; exact (List.getElem?_eq_some_iff.1 hi).1) hi, ht⟩]; simp [ht]
            · rw [mayI_false (fun h => ht h.total)]; simp [ht]
          clear htk hall hlk
          generalize total x.its = tt at *
          go_wp2_with fail
          go_ret
          exact ⟨congrArg (fun q : Bool => Ending.returned (.bool q)) HT.out.symm, Grows.trans hg0 hg⟩
  · have hzf : mayZ x.a x.b x.c = false := by simpa using hz
    rw [hzf] at M0
    have hM : R = false := by rw [HR.out]; exact mayI_false (fun h => hz h.prm)
    have HM := Lib.hid hM
    clear hM
    go_enter Tryd.func33, Tryd.ntmps33
    go_wp2_with fail
    change Calls _ _ _ (w.alloc (.cells vs.toArray 49)) _
    generalize w.alloc (.cells vs.toArray 49) = w0 at *
    refine (M0.out _).mono ?_
    rintro e w1 ⟨rfl, hg1⟩
    go_wp2_with fail
    go_ret
    exact ⟨by rw [HM.out]; rfl, Grows.trans hg0 hg1⟩
end Go.Proofs.YtnokloedbckijaaDoor

/-
  The reference's Few of an index.
-/
namespace Go.Proofs.YtnokloedbckijaaDoor
open Go.RowKit
set_option linter.unusedVariables false
set_option maxRecDepth 20000

def fewX (x : Ixd) : Ixd := ⟨x.a, x.b, x.c, x.im, x.its.take 8⟩
theorem fewX_ok {x : Ixd} (hx : x.Ok) : (fewX x).Ok := ⟨hx.a, hx.b, hx.c, hx.im, fun it hi => hx.its it (List.mem_of_mem_take hi)⟩

theorem hset_size {vs : List Value} {v : Value} (h : vs.length = 36) : (Tryd.prog.info? 49).map (·.size) = some (vs.set 35 v).length := by rw [List.length_set, h]; exact rx_size
set_option maxHeartbeats 8000000 in
theorem few11_any (x : Ixd) (A : Option Addr) (c : Nat) (w : World) (hx : x.Ok) (hI : Recs w A 33 (x.its.map icells)) (hnc : x.its.length ≤ c) (hcm : c ≤ maxLen) :
    Calls Tryd.prog 32 #[xval x A c] w fun e w' => ∃ A' c', e = .returned (xval (fewX x) A' c') ∧ c' ≤ maxLen ∧ OwnIt w.heap.size w' (.slice A' (fewX x).its.length c') (fewX x).its ∧ Grows w w' := by
  unfold maxLen at hcm
  have hb := Has.new w 49 (xcells x A c)
  have g1 := grows_alloc w (.cells (xcells x A c).toArray 49)
  have hr := Has.new (w.alloc (.cells (xcells x A c).toArray 49)) 49 zcells
  have g2 := grows_alloc (w.alloc (.cells (xcells x A c).toArray 49)) (.cells zcells.toArray 49)
  rw [World.size_alloc] at hr
  have hb2 := hb.later g2
  have hg := Grows.trans g1 g2
  have hI2 := hI.later hg
  have h35 := xc_its hx.im A c
  have hvl := xcells_len hx.im A c
  have hset : ∀ (A3 : Option Addr) (c3 k : Nat), min x.its.length 8 = k → (xcells x A c).set 35 (.slice A3 k c3) = xcells (fewX x) A3 c3 := fun A3 c3 k hk => by
    have := xc_set x A c (x.its.take 8) A3 c3 hx.im
    rwa [show (x.its.take 8).length = k by rw [List.length_take]; omega] at this
  have hlen8 : (fewX x).its.length = min x.its.length 8 := by show (x.its.take 8).length = _; rw [List.length_take, Nat.min_comm]
  have hfi : (fewX x).its = x.its.take 8 := rfl
  have hits := hx.its
  unfold xval
  rw [hfi] at *
  generalize xcells x A c = vs at *
  generalize x.its = l at *
  obtain ⟨N, hN⟩ : ∃ N, N = l.length := ⟨_, rfl⟩
  rw [← hN] at hnc h35 hset hlen8
  have HN := Lib.hid hN
  clear hN hb g1 g2 hI hfi
  have P35 := hb2.cell h35
  have hflen : ∀ r ∈ (l.take 8).map icells, r.length = 33 := fun r hr => by obtain ⟨y, hy, rfl⟩ := List.mem_map.1 hr; exact icells_len (hits y (List.mem_of_mem_take hy)).1
  have hLl : Lies ((w.alloc (.cells vs.toArray 49)).alloc (.cells zcells.toArray 49)) ((w.alloc (.cells vs.toArray 49)).alloc (.cells zcells.toArray 49)).heap.size A ((l.take 8).map icells).flatten := by
    have h1 : (l.map icells).flatten = ((l.take 8).map icells).flatten ++ ((l.drop 8).map icells).flatten := by rw [← List.flatten_append, ← List.map_append, List.take_append_drop]
    have h2 := hI2.lies
    rw [h1] at h2
    exact fun j u hu => h2 j u (by rw [List.getElem?_append_left (List.getElem?_eq_some_iff.1 hu).1]; exact hu)
  have hone : ∀ u ∈ ((l.take 8).map icells).flatten, u.oneCell' = true := fun u hu => by
    obtain ⟨r, hr, hu⟩ := List.mem_flatten.1 hu
    obtain ⟨y, _, rfl⟩ := List.mem_map.1 hr
    exact icells_one y u hu
  obtain ⟨i0, hi0, hz0, hz1, hz2⟩ := info_parts item_infoz
  by_cases hbig : 8 < N
  · skip
    have q1 : (8 : Int) < (N : Int) := by omega
    have q2 : ¬ (N : Int) ≤ 8 := by omega
    have hm : min N 8 = 8 := by omega
    have hmc : 8 ≤ c := by omega
    have hlt : ((l.take 8).map icells).flatten.length = 8 * 33 := by rw [flat_len hflen, List.length_map, List.length_take, ← HN.out]; omega
    have hct := fun u => run_cutK_to (P := Tryd.prog) (t := 29) (e := 61) Tryd.underlying29 item_size A N c 8 .i64 hmc u
    go_enter Tryd.func32, Tryd.ntmps32
    go_wp2_with (first
      | (change wpList _ _ _ _ _ ((w.alloc (.cells vs.toArray 49)).alloc (.cells zcells.toArray 49)); generalize (w.alloc (.cells vs.toArray 49)).alloc (.cells zcells.toArray 49) = w2 at *)
      | (at_builtin; refine wpList_append_recs rfl (.tmp 4) (.tmp 11) 29 rfl w2.heap.size 61 i0 zitem 33 40 (by decide) Tryd.underlying29 hi0 hz0 hz1 hz2 zitem_size (.slice none 0 0) 0 [] rfl (World.ownsRow_nil _ _ _ _) _ A 8 c ((l.take 8).map icells).flatten rfl hlt hLl hone (by unfold maxLen; omega) (by omega) (Nat.le_refl _) ?_; intro v3 w3 hown3 gq3 hat3; have hg3 : Grows w2 w3 := (Turns.of_by (S := fun _ => False) gq3 (fun g e _ => by simp [Value.ownBlock] at e)).grows (fun _ _ h => h); have hlt2 := hb2.lt; have hlt3 := hr.lt; have hb3 := hb2.later hg3; have hr3 := hr.later hg3; have hc35 := hb3.cell h35; have hf35 := hb3.free 35; rw [Nat.zero_add, List.nil_append] at hown3; obtain ⟨A3, c3, rfl, hc3⟩ := own_form hown3; have hbs := hb3.set_ (k := 35) (by omega) (.slice A3 8 c3); have hts := Turns.of_set (S := fun q => q = w.heap.size) (b := w.heap.size) (o := 35) w3 (.slice A3 8 c3) rfl; have hr4 := hr3.turned hts (by omega); have hown4 := own_turned hown3 hts (fun g hg h => by have := own_ge hown3 g hg; omega); have hX4 := hset A3 c3 8 hm; have ldx := hbs.load Tryd.underlying49 rfl (hset_size hvl))
      | (with_reducible refine wpList_loads rfl 49 (.tmp 1) rfl _ rfl _ ldx ?_)
      | (refine wpList_storeT rfl 49 (.tmp 2) (.tmp 15) rfl (w.heap.size + 1) zcells _ 36 rfl rfl hr4 zcells_len (by rw [List.length_set]; exact hvl) rx_size (by rw [hX4]; exact xcells_one _ _ _) ?_; intro w5 hbox5 ht5))
    have hfin0 : Grows w (w3.setCell ⟨w.heap.size, 35, none⟩ (.slice A3 8 c3)) := turns_grow (Grows.trans hg hg3) hts (Nat.le_refl _)
    refine bodyPost_ret (res_has (vs := vs.set 35 (.slice A3 8 c3)) Tryd.results32 _ rfl Tryd.underlying49 rfl (hset_size hvl) hbox5) rfl ⟨A3, c3, ?_, ?_, ?_, turns_grow hfin0 ht5 (by omega)⟩
    · rw [hX4]
    · exact own_cap hown3
    · have h8 : min 8 l.length = 8 := by rw [← HN.out]; omega
      have h9 : (l.take 8).length = 8 := by rw [List.length_take]; exact h8
      show World.ownsRow _ _ _ _ _ _ _
      rw [h9]
      try rw [h8]
      exact own_base (own_turned hown4 ht5 (fun g hg h => by have := own_ge hown4 g hg; omega)) hg.size
  · skip
    have q1 : ¬ (8 : Int) < (N : Int) := by omega
    have q2 : (N : Int) ≤ 8 := by omega
    have hm : min N 8 = N := by omega
    have hmc : N ≤ c := by omega
    have hlt : ((l.take 8).map icells).flatten.length = N * 33 := by rw [flat_len hflen, List.length_map, List.length_take, ← HN.out]; omega
    have hct := fun u => run_cutK_to (P := Tryd.prog) (t := 29) (e := 61) Tryd.underlying29 item_size A N c N .i64 hmc u
    go_enter Tryd.func32, Tryd.ntmps32
    go_wp2_with (first
      | (change wpList _ _ _ _ _ ((w.alloc (.cells vs.toArray 49)).alloc (.cells zcells.toArray 49)); generalize (w.alloc (.cells vs.toArray 49)).alloc (.cells zcells.toArray 49) = w2 at *)
      | (at_builtin; refine wpList_append_recs rfl (.tmp 4) (.tmp 11) 29 rfl w2.heap.size 61 i0 zitem 33 40 (by decide) Tryd.underlying29 hi0 hz0 hz1 hz2 zitem_size (.slice none 0 0) 0 [] rfl (World.ownsRow_nil _ _ _ _) _ A N c ((l.take 8).map icells).flatten rfl hlt hLl hone (by unfold maxLen; omega) (by omega) (Nat.le_refl _) ?_; intro v3 w3 hown3 gq3 hat3; have hg3 : Grows w2 w3 := (Turns.of_by (S := fun _ => False) gq3 (fun g e _ => by simp [Value.ownBlock] at e)).grows (fun _ _ h => h); have hlt2 := hb2.lt; have hlt3 := hr.lt; have hb3 := hb2.later hg3; have hr3 := hr.later hg3; have hc35 := hb3.cell h35; have hf35 := hb3.free 35; rw [Nat.zero_add, List.nil_append] at hown3; obtain ⟨A3, c3, rfl, hc3⟩ := own_form hown3; have hbs := hb3.set_ (k := 35) (by omega) (.slice A3 N c3); have hts := Turns.of_set (S := fun q => q = w.heap.size) (b := w.heap.size) (o := 35) w3 (.slice A3 N c3) rfl; have hr4 := hr3.turned hts (by omega); have hown4 := own_turned hown3 hts (fun g hg h => by have := own_ge hown3 g hg; omega); have hX4 := hset A3 c3 N hm; have ldx := hbs.load Tryd.underlying49 rfl (hset_size hvl))
      | (with_reducible refine wpList_loads rfl 49 (.tmp 1) rfl _ rfl _ ldx ?_)
      | (refine wpList_storeT rfl 49 (.tmp 2) (.tmp 15) rfl (w.heap.size + 1) zcells _ 36 rfl rfl hr4 zcells_len (by rw [List.length_set]; exact hvl) rx_size (by rw [hX4]; exact xcells_one _ _ _) ?_; intro w5 hbox5 ht5))
    have hfin0 : Grows w (w3.setCell ⟨w.heap.size, 35, none⟩ (.slice A3 N c3)) := turns_grow (Grows.trans hg hg3) hts (Nat.le_refl _)
    refine bodyPost_ret (res_has (vs := vs.set 35 (.slice A3 N c3)) Tryd.results32 _ rfl Tryd.underlying49 rfl (hset_size hvl) hbox5) rfl ⟨A3, c3, ?_, ?_, ?_, turns_grow hfin0 ht5 (by omega)⟩
    · rw [hX4]
    · exact own_cap hown3
    · have h8 : min 8 l.length = N := by rw [← HN.out]; omega
      have h9 : (l.take 8).length = N := by rw [List.length_take]; exact h8
      show World.ownsRow _ _ _ _ _ _ _
      rw [h9]
      try rw [h8]
      exact own_base (own_turned hown4 ht5 (fun g hg h => by have := own_ge hown4 g hg; omega)) hg.size
end Go.Proofs.YtnokloedbckijaaDoor
