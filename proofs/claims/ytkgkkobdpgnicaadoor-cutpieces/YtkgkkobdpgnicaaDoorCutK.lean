/-
  Contract of (*Cutter).Write: the chunks that are known whatever comes behind are told.
-/
import Derived.Test.YtkgkkobdpgnicaaDoorCutJ
import Derived.Deep.RegionLaw
namespace Go.Proofs.YtkgkkobdpgnicaaDoor
open Go.RowKit
set_option linter.unusedVariables false

/-- Where the pieces that are told lie: in what was the cutter's row, or new; apart from the cutter, from its row, and from the list. -/
def TokP (n : Nat) (cb kb rb : Nat) (v v1 lv : Value) (k : Nat) : Prop := (n ≤ k ∨ v.ownBlock = some k) ∧ v1.ownBlock ≠ some k ∧ lv.ownBlock ≠ some k ∧ k ≠ cb ∧ k ≠ kb ∧ k ≠ rb
theorem oper_append_src {P : Program} {w : World} {o : Oper} {a : Act} {K : Act → World → Prop} {Q : Exit → Act → World → Prop} (s x : Operand) (t : TypeId)
    (ho : o.op = .call { callee := .builtin .append, args := #[s, x], argTypes := #[t, t] })
    (base : Nat) (e : TypeId) (i : TypeInfo) (z : Value) (bytes : Nat) (ht : P.underlying t = some (.slice e)) (hi : P.info? e = some i) (hz : i.zero = some z)
    (hsize : i.size = 1) (hby : i.bytes = bytes) (hzs : z.cells.size = 1)
    (v : Value) (n : Nat) (xs : List Value) (hs : a.eval s = v) (hown : w.ownsRow base e 1 v n xs)
    (B : Nat) (A : Option Addr) (m c : Nat) (news : List Value) (hx : a.eval x = .slice A m c) (hl : news.length = m) (hr : Lies w B A news) (h1 : ∀ u ∈ news, u.oneCell' = true)
    (h63 : n + m ≤ maxLen) (hbytes : (n + m) * bytes ≤ 140737488355328) (hbase : base ≤ w.heap.size)
    (h : ∀ v' w', w'.ownsRow base e 1 v' (n + m) (xs ++ news) → w.grownBy w' v.ownBlock → (v'.ownBlock = v.ownBlock ∨ v'.ownBlock = some w.heap.size) → K (a.put o.dst v') w') : Oper.wp P o a w K Q := by
  obtain ⟨v', w', hrun, h2, h3, h4⟩ := run_append_src (P := P) w base t o.type e i z bytes ht hi hz hsize hby hzs v n xs hown B A m c news hl hr h1 h63 hbytes hbase
  unfold Oper.wp execOp
  simp only [ho, resolve, invoke, builtin, Sem.run_bind, Sem.run_pure, Result.andThen_ok, List.map_toArray, List.map_cons, List.map_nil, hs, hx, hrun]
  exact h v' w' h2 h3 h4
theorem lies_own {w : World} {base : Nat} {e : TypeId} {A : Option Addr} {n c : Nat} {vs : List Value} (h : w.ownsRow base e 1 (.slice A n c) n vs) : LiesIn (fun k => (Value.slice A n c).ownBlock = some k) w A vs := fun j u hu => by
  obtain ⟨ad, e1, h1, h2⟩ := Lies.of_own h j u hu
  have hn : 0 < n := by
    have h3 := (List.getElem?_eq_some_iff.1 hu).1
    have h4 := h.1
    omega
  obtain ⟨g, c', e2, _, _, h5, _⟩ := own_has h hn
  subst e1
  injection e2 with e2
  injection e2 with e2
  subst e2
  exact ⟨_, rfl, rfl, h2⟩
theorem own_base0 {w : World} {base : Nat} {e : TypeId} {size : Nat} {v : Value} {n : Nat} {xs : List Value} (h : w.ownsRow 0 e size v n xs) (hb : ∀ g, v.ownBlock = some g → base ≤ g) : w.ownsRow base e size v n xs :=
  ⟨h.1, h.2.imp id fun ⟨g, cap, cur, h1, h2, h3⟩ => ⟨g, cap, cur, h1, hb g (by rw [h1]; rfl), h3⟩⟩
theorem lies_kept {w w' : World} {ok ok' S : Nat → Prop} {A : Option Addr} {vs : List Value} (h : LiesIn ok w A vs) (ht : Turns S w w') (hS : ∀ k, ok k → k < w.heap.size → ¬ S k ∧ ok' k) : LiesIn ok' w' A vs := fun j u hu => by
  obtain ⟨ad, e, ho, hc⟩ := h j u hu
  have hlt := World.block_lt_of_cell? w _ hc
  rw [add_block] at hlt
  exact ⟨ad, e, (hS _ ho hlt).2, ht.cell hc (by rw [add_block]; exact (hS _ ho hlt).1)⟩
theorem each_kept {w w' : World} {ok ok' S : Nat → Prop} {es : List Value} {l : List (List UInt8)} (h : Each ok w es l) (ht : Turns S w w') (hS : ∀ k, ok k → k < w.heap.size → ¬ S k ∧ ok' k) : Each ok' w' es l :=
  ⟨h.1, fun i x hx => let ⟨A, c, a, b, d⟩ := h.2 i x hx; ⟨A, c, a, b, lies_kept d ht hS⟩⟩

theorem shut_len (p : Prm) : ∀ (T : List (List UInt8)), (∀ x ∈ T, Shut p x) → T.length ≤ T.flatten.length
  | [], _ => by simp
  | x :: T, h => by
    have h2 := List.length_pos_iff.2 (h x (by simp)).ne
    have h3 := shut_len p T (fun y hy => h y (by simp [hy]))
    rw [List.flatten_cons, List.length_append, List.length_cons]
    omega
set_option maxRecDepth 20000 in
set_option maxHeartbeats 4000000 in
theorem write_any (cb kb rb B : Nat) (p : Prm) (hp : p.Ok) (v : Value) (rest : List UInt8) (A : Option Addr) (n c : Nat) (bs : List UInt8) (w : World) (K : Cutr w cb kb rb p v rest) (hs : Starts w) (hsB : 0 < B)
    (hl : bs.length = n) (hnc : n ≤ c) (hr : LiesIn (fun k => k < B) w A (bs.map bv)) (hcb : B ≤ cb) (hkb : B ≤ kb) (hrb : B ≤ rb) (hvB : ∀ g, v.ownBlock = some g → B ≤ g) (hn : rest.length + n ≤ 1000000) :
    Calls Tryd.prog 25 #[.pointer (some ⟨cb, 0, none⟩), .slice A n c] w fun e w' => ∃ (tv v' : Value) (T : List (List UInt8)) (es : List Value) (r' : List UInt8), e = .returned tv ∧ Cutr w' cb kb rb p v' r' ∧ (∀ g, v'.ownBlock = some g → v.ownBlock = some g ∨ w.heap.size ≤ g) ∧
      w'.ownsRow w.heap.size 35 1 tv T.length es ∧ Each (TokP w.heap.size cb kb rb v v' tv) w' es T ∧ (∀ g, tv.ownBlock = some g → v'.ownBlock ≠ some g) ∧ T.flatten ++ r' = rest ++ bs ∧ (∀ x ∈ T, Shut p x) ∧ Turns (CutS cb kb rb v) w w' := by
  have hlt := K.lt
  have hcl := hlt cb (.inl rfl)
  have hkl := hlt kb (.inr (.inl rfl))
  have hrl := hlt rb (.inr (.inr (.inl rfl)))
  have hne := K.knife.ne
  obtain ⟨i0, hi0, hz0, hz1, hz2⟩ := info_parts byte_info
  obtain ⟨i1, hi1, hy0, hy1, hy2⟩ := info_parts slc_info
  have HB0 := Lib.hid hn
  clear hlt
  go_enter Tryd.func25, Tryd.ntmps25
  go_wp2_with fail
  go_loopw [1, 5] (fun rv lv wr => ∃ (A' : Option Addr) (n' c' : Nat) (rb_ : List UInt8) (T : List (List UInt8)) (es : List Value) (v1 : Value) (r1 : List UInt8), rv = .slice A' n' c' ∧ rb_.length = n' ∧ n' ≤ c' ∧ LiesIn (fun k => k < B) wr A' (rb_.map bv) ∧
    wr.ownsRow w.heap.size 35 1 lv T.length es ∧ Each (TokP w.heap.size cb kb rb v v1 lv) wr es T ∧ (∀ g, lv.ownBlock = some g → v1.ownBlock ≠ some g) ∧ Cutr wr cb kb rb p v1 r1 ∧ (∀ g, v1.ownBlock = some g → v.ownBlock = some g ∨ w.heap.size ≤ g) ∧
    Hid (T.flatten ++ r1 ++ rb_ = rest ++ bs) ∧ (∀ x ∈ T, Shut p x) ∧ Turns (CutS cb kb rb v) w wr) (fun rv _ _ => slen rv)
  case atStart => exact ⟨A, n, c, bs, [], [], v, rest, rfl, hl, hnc, hr, World.ownsRow_nil _ _ _ _, Each.nil _ _, fun g hg => by simp [Value.ownBlock] at hg, K, fun g hg => .inl hg, rfl, fun x hx => by simp at hx, Turns.refl _ _⟩
  case round =>
    obtain ⟨A', n', c', bb, T, es, v1, r1, rfl, hl', hnc', hr', hown, hE, hlvv, K1, hv1, HC, hsh, TT⟩ := hrel
    obtain ⟨A5, c5, rfl, hc5⟩ := own_form hown
    by_cases hbb : bb = []
    · subst hbb
      obtain rfl : n' = 0 := by simpa using hl'.symm
      have HC' := HC.out
      rw [List.append_nil] at HC'
      go_wp2_with fail
      go_ret
      exact ⟨_, v1, T, es, r1, rfl, K1, hv1, hown, hE, hlvv, HC', hsh, TT⟩
    · have hpos : 0 < n' := by rw [← hl']; exact List.length_pos_iff.2 hbb
      have d1 : decide ((n' : Int) > 0) = true := by simp; omega
      have htot : T.flatten.length + r1.length + n' ≤ 1000000 := by
        have := congrArg List.length HC.out
        simp only [List.length_append] at this
        rw [hl', hl] at this
        have := HB0.out
        omega
      have hTl : T.length ≤ 1000000 := by
        have h1 := shut_len p T hsh
        omega
      have hswr := hs.turned TT (fun h => by
        rcases h with h | h | h | h
        · omega
        · omega
        · omega
        · have := hvB _ h; omega)
      have NX := Lib.hid (next_any kb rb B p r1 A' n' c' bb wr hp K1.knife hswr hl' (hr'.lies fun k hk => hk) hkb hrb (by omega))
      have hk1 := scan_pos p r1 hbb
      have hk2 := scan_le p bb r1
      have HF : Hid ((scan p r1 bb).2 = false → bb.drop (scan p r1 bb).1 = [] ∧ behind p r1 bb = r1 ++ bb.take (scan p r1 bb).1 ∧ (scan p [] (r1 ++ bb.take (scan p r1 bb).1)).2 = false) := fun h => by
        rw [scan_false p bb r1 h, List.drop_length, List.take_length]
        refine ⟨rfl, ?_, ?_⟩
        · unfold behind; rw [if_neg (by rw [h]; exact Bool.false_ne_true)]
        · rw [scan_false_append p r1 bb [] K1.opn]; exact h
      have HT : Hid ((scan p r1 bb).2 = true → behind p r1 bb = [] ∧ Shut p (r1 ++ bb.take (scan p r1 bb).1)) := fun h => ⟨by unfold behind; rw [if_pos h], scan_shut p K1.opn h⟩
      generalize (scan p r1 bb).1 = k at *
      generalize (scan p r1 bb).2 = cut at *
      generalize behind p r1 bb = bh at *
      have HLL := Lib.hid hl'
      have hkn : k ≤ n' := by rw [← hl']; exact hk2
      have hkl : (bb.take k).length = k := by rw [List.length_take, hl', Nat.min_eq_left hkn]
      have HKL := Lib.hid hkl
      have hc0 := K1.has.cell (k := 0) rfl
      have hct := fun u => run_cutK_to (P := Tryd.prog) (t := 35) (e := 5) Tryd.underlying35 byte_size A' n' c' k .i64 (by omega) u
      have hcf := fun u => run_cutK_from (P := Tryd.prog) (t := 35) (e := 5) Tryd.underlying35 byte_size A' n' c' k .i64 hkn hnc' u
      clear hk2 hl' hkl
      go_wp2_with fail
      refine NX.out.mono ?_
      rintro e w2 ⟨rfl, K2, T2⟩
      have hb2 := K1.has.turned T2 (fun h => h.elim K1.ck K1.cr)
      have hrow2 := own_turned K1.row T2 (fun g hg h => by have := K1.apart g hg; rcases h with h | h <;> omega)
      have hr2 := hr'.turned T2 (fun q hq h => by rcases h with h | h <;> omega)
      have hown2 := own_turned hown T2 (fun g hg h => by have := own_ge hown g hg; rcases h with h | h <;> omega)
      have hE2 := hE.turned T2 (fun q hq h => by have := hq.2.2.2; rcases h with h | h <;> omega)
      have TT2 : Turns (CutS cb kb rb v) w w2 := TT.trans (T2.mono fun q _ h => h.elim (fun h => .inr (.inl h)) (fun h => .inr (.inr (.inl h))))
      have hc1 := hb2.cell (k := 1) rfl
      have hv1f := own_form hrow2
      obtain ⟨Av, cv, rfl, hcv⟩ := hv1f
      have hg2d : Grows w2 w2.drew := (Grows.refl w2).drew
      have hc1d : w2.drew.cell? ⟨cb, 1, none⟩ = some (.slice Av r1.length cv) := hcell_later hc1 hg2d
      have hrow2d := own_later hrow2 hg2d
      have hr2d := hr2.later hg2d
      have hap := K1.apart
      have hSc : ¬ (Value.slice Av r1.length cv).ownBlock = some cb := fun e => (hap cb e).1 rfl
      have HF1 : Hid (∀ w3 : World, w2.drew.grownBy w3 (Value.slice Av r1.length cv).ownBlock → Has w3 cb [.pointer (some ⟨kb, 0, none⟩), .slice Av r1.length cv]) := fun w3 h => (hb2.later hg2d).turned (Turns.of_by (S := fun k => (Value.slice Av r1.length cv).ownBlock = some k) h fun g e _ => e) hSc
      go_wp2_with fail
      go_region_law
        ((refine step_append_src _ (by rfl) (.tmp 24) (.tmp 27) _ (by rfl) 0 5 i0 _ 1 Tryd.underlying35 hi0 hz0 hz1 hz2 rfl (.slice Av r1.length cv) r1.length _ (by rfl) hrow2d _ A' k c' ((bb.take k).map bv) (by rfl) (by rw [List.length_map, HKL.out]) (by rw [List.map_take]; exact (hr2d.lies fun q hq => hq).take k) (bv_one _) (by unfold maxLen; omega) (by omega) (Nat.zero_le _) ?_; intro v2 w3 hown3 hg3 hat3; have hb3 := HF1.out w3 hg3; have hc3 := hb3.cell (k := 1) rfl; have hf3 := hb3.free 1; obtain ⟨A3, c3, rfl, hc3l⟩ := own_form hown3))
      have hsz2 : w.heap.size ≤ w2.heap.size := TT2.size
      have hds : w2.drew.heap.size = w2.heap.size := rfl
      rw [hds] at hat3
      have T34 : Turns (fun q => q = cb ∨ (Value.slice Av r1.length cv).ownBlock = some q) w2 (w3.setCell ⟨cb, 1, none⟩ (.slice A3 (r1.length + k) c3)) :=
        ((Turns.of_grows hg2d).trans (Turns.of_by hg3 fun g e _ => .inr e)).trans (Turns.of_set w3 _ (.inl rfl))
      have hb4 := hb3.set_ (k := 1) (by simp) (.slice A3 (r1.length + k) c3)
      have hold : ∀ g, (Value.slice Av r1.length cv).ownBlock = some g → B ≤ g := fun g hg => by
        rcases hv1 g hg with h | h
        · exact hvB g h
        · omega
      have hap4 : ∀ g, (Value.slice A3 (r1.length + k) c3).ownBlock = some g → g ≠ cb ∧ g ≠ kb ∧ g ≠ rb ∧ g ≠ 0 := fun g hg => by
        rcases hat3 with h | h
        · exact hap g (by rw [← h]; exact hg)
        · rw [h] at hg
          injection hg with hg
          omega
      have hv4 : ∀ g, (Value.slice A3 (r1.length + k) c3).ownBlock = some g → v.ownBlock = some g ∨ w.heap.size ≤ g := fun g hg => by
        rcases hat3 with h | h
        · exact hv1 g (by rw [← h]; exact hg)
        · rw [h] at hg
          injection hg with hg
          exact .inr (by omega)
      have hlt5 := own_lt hown2
      have hge5 := own_ge hown2
      have hlv4 : ∀ g, (Value.slice A5 T.length c5).ownBlock = some g → (Value.slice A3 (r1.length + k) c3).ownBlock ≠ some g := fun g hg => by
        rcases hat3 with h | h
        · rw [h]; exact hlvv g hg
        · rw [h]; intro e; injection e with e; have := hlt5 g hg; omega
      have hrow4 : (w3.setCell ⟨cb, 1, none⟩ (.slice A3 (r1.length + k) c3)).ownsRow 0 5 1 (.slice A3 (r1.length + k) c3) (r1.length + k) ((r1 ++ bb.take k).map bv) := by
        rw [List.map_append]
        exact own_turned hown3 (Turns.of_set (S := fun q => q = cb) (b := cb) (o := 1) w3 _ rfl) (fun g hg h => (hap4 g hg).1 h)
      have K4 := K2.turned T34 (fun h => h.elim (fun h => K1.ck h.symm) (fun h => (hap kb h).2.1 rfl)) (fun h => h.elim (fun h => K1.cr h.symm) (fun h => (hap rb h).2.2.1 rfl))
      have hr4 := hr2.turned T34 (fun q hq h => h.elim (fun h => by omega) (fun h => by have := hold q h; omega))
      have hown4 := own_turned hown2 T34 (fun g hg h => h.elim (fun h => by have := hge5 g hg; omega) (fun h => hlvv g hg h))
      have hE4 : Each (TokP w.heap.size cb kb rb v (.slice A3 (r1.length + k) c3) (.slice A5 T.length c5)) (w3.setCell ⟨cb, 1, none⟩ (.slice A3 (r1.length + k) c3)) es T := each_kept hE2 T34 (fun q hq hqs => by
        obtain ⟨q1, q2, q3, q4⟩ := hq
        refine ⟨fun h => h.elim (fun h => by omega) q2, q1, ?_, q3, q4⟩
        rcases hat3 with h | h
        · rw [h]; exact q2
        · rw [h]; intro e; injection e with e; omega)
      have TT4 : Turns (CutS cb kb rb v) w (w3.setCell ⟨cb, 1, none⟩ (.slice A3 (r1.length + k) c3)) := TT2.then_ T34 (fun i hi h => by
        rcases h with h | h
        · exact .inl h
        · rcases hv1 i h with h | h
          · exact .inr (.inr (.inr h))
          · omega)
      have hck := K1.ck
      have hcr := K1.cr
      have hcs := K1.cs
      clear hE hE2 hown2 hr2 K2 hg3 hb3 hc3 hf3 hown3 HF1 hc1d hrow2d hr2d hg2d hc1 hb2 hrow2 TT2 hswr T34 K1
      generalize hw4 : w3.setCell ⟨cb, 1, none⟩ (.slice A3 (r1.length + k) c3) = w4 at *
      have HW4 := Lib.hid hw4
      clear hw4
      have hxl : (r1 ++ bb.take k).length = r1.length + k := by rw [List.length_append, HKL.out]
      have HXL := Lib.hid hxl
      have hrcut := hr4.cutA (c := c') (m := k) (by rw [List.length_map, HLL.out]; exact hnc')
      rw [← List.map_drop] at hrcut
      cases cut with
      | true =>
        obtain ⟨hbh, hshut⟩ := HT.out rfl
        subst hbh
        have TR := Lib.hid (takerest_any cb kb (.slice A3 (r1.length + k) c3) w4 hb4)
        go_wp2_with fail
        refine TR.out.mono ?_
        rintro e w5 ⟨rfl, hb5, T5⟩
        have hown5 := own_turned hown4 T5 (fun g hg h => by have := hge5 g hg; omega)
        have hrow5 := own_turned hrow4 T5 (fun g hg h => (hap4 g hg).1 h)
        have hE5 := hE4.turned T5 (fun q hq h => by have := hq.2.2.2.1; omega)
        have K5 := K4.turned T5 (fun h => hck h.symm) (fun h => hcr h.symm)
        have hr5 := hrcut.turned T5 (fun q hq h => by omega)
        have TT5 : Turns (CutS cb kb rb v) w w5 := TT4.trans (T5.mono fun q _ h => .inl h)
        have hL := (Lies.new w5 35 [.slice A3 (r1.length + k) c3]).mono (B' := (w5.alloc (.cells #[.slice A3 (r1.length + k) c3] 35)).heap.size) (by simp)
        have hszw := TT5.size
        go_wp2_with (at_builtin; refine wpList_append_src _ rfl (.tmp 35) (.tmp 38) _ rfl w.heap.size 35 i1 _ 24 Tryd.underlying42 hi1 hy0 hy1 hy2 rfl (.slice A5 T.length c5) T.length es rfl (hown5.alloc _) _ (some ⟨w5.heap.size, 0, none⟩) 1 1 [.slice A3 (r1.length + k) c3] rfl rfl hL (by simp [Value.oneCell']) (by unfold maxLen; omega) (by omega) (by rw [World.size_alloc]; omega) ?_; intro v6 w6 hown6 hg6 hat6)
        have T6 : Turns (fun q => (Value.slice A5 T.length c5).ownBlock = some q) w5 w6 := (Turns.of_grows (grows_alloc w5 _)).trans (Turns.of_by hg6 fun g e _ => e)
        have hlv6 : ∀ g, v6.ownBlock = some g → w.heap.size ≤ g := own_ge hown6
        have hno6 : ∀ q, q < w.heap.size → ¬ (Value.slice A5 T.length c5).ownBlock = some q := fun q hq h => by have := hge5 q h; omega
        have hE6 : Each (TokP w.heap.size cb kb rb v (.slice none 0 0) v6) w6 es T := each_kept hE5 T6 (fun q hq hqs => by
          obtain ⟨q1, q2, q3, q4⟩ := hq
          refine ⟨q3, q1, by simp [Value.ownBlock], ?_, q4⟩
          rcases hat6 with h | h
          · exact fun e => q3 (by rw [← e]; exact h.symm)
          · rw [h, World.size_alloc]; intro e; injection e with e; omega)
        have hx6 : LiesIn (TokP w.heap.size cb kb rb v (.slice none 0 0) v6) w6 A3 ((r1 ++ bb.take k).map bv) := lies_kept (lies_own hrow5) T6 (fun q hq hqs => by
          refine ⟨fun h => hlv4 q h hq, (hv4 q hq).symm, by simp [Value.ownBlock], ?_, (hap4 q hq).1, (hap4 q hq).2.1, (hap4 q hq).2.2.1⟩
          rcases hat6 with h | h
          · exact fun e => hlv4 q (by rw [← e]; exact h.symm) hq
          · rw [h, World.size_alloc]; intro e; injection e with e; omega)
        have hE7 := hE6.snoc (A := A3) (c := c3) (x := r1 ++ bb.take k) (by rw [HXL.out]; exact hc3l) hx6
        rw [HXL.out] at hE7
        have hr6 := hr5.turned T6 (fun q hq => hno6 q (by omega))
        have TT6 : Turns (CutS cb kb rb v) w w6 := TT5.then_ T6 (fun i hi h => absurd h (hno6 i hi))
        have K6 := K5.turned T6 (hno6 kb hkl) (hno6 rb hrl)
        have hb6 := hb5.turned T6 (hno6 cb hcl)
        exact ⟨⟨cutA A' c' k 1, n' - k, c' - k, bb.drop k, T ++ [r1 ++ bb.take k], _, .slice none 0 0, [], rfl, by rw [List.length_drop, HLL.out], by omega, hr6, by rw [List.length_append, List.length_singleton]; exact hown6, hE7,
          fun g hg => by simp [Value.ownBlock], ⟨hb6, K6, World.ownsRow_nil _ _ _ _, hck, hcr, hcs, fun g hg => by simp [Value.ownBlock] at hg, rfl⟩, fun g hg => by simp [Value.ownBlock] at hg,
          by show _ = _; rw [List.flatten_append, List.append_nil, ← HC.out]; simp [List.append_assoc], fun x hx => by
            rcases List.mem_append.1 hx with h | h
            · exact hsh x h
            · rw [List.mem_singleton.1 h]; exact hshut, TT6⟩, by simp only [slen]; omega⟩
      | false =>
        obtain ⟨hdrop, hbh, hopn⟩ := HF.out rfl
        subst hbh
        go_wp2_with fail
        go_roundw
        case rel => exact ⟨cutA A' c' k 1, n' - k, c' - k, bb.drop k, T, es, .slice A3 (r1.length + k) c3, r1 ++ bb.take k, rfl, by rw [List.length_drop, HLL.out], by omega, hrcut, hown4, hE4, hlv4,
          ⟨hb4, K4, by rw [HXL.out]; exact hrow4, hck, hcr, hcs, hap4, hopn⟩, hv4, by show _ = _; rw [← HC.out]; simp [List.append_assoc], hsh, TT4⟩
        case measure => simp only [slen]; omega
end Go.Proofs.YtkgkkobdpgnicaaDoor
