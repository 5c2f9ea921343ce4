/-
  strings.Join, as the library's shelf proves it, at this program's numbers: texts with one text between.
-/
import Derived.Shelf.Strings.OnBuilder
import Derived.Test.YtjdgdpofnpajmaaPaB
namespace Go.Proofs.Ytjdgdpofnpajmaa
open Go.RowKit
open Go.Shelf
set_option linter.unusedVariables false

def joinRen : Go.Shelf.Ren := ⟨fun | 156 => 29 | 165 => 32 | 166 => 33 | 169 => 34 | 240 => 36 | 241 => 37 | 276 => 39 | 277 => 40 | n => n, fun | 31 => 26 | 9 => 9 | 3 => 3 | 4 => 4 | 0 => 0 | 20 => 20 | 72 => 50 | 76 => 54 | 70 => 48 | 37 => 22 | 75 => 53 | 127 => 57 | 164 => 58 | 5 => 5 | 80 => 56 | n => n, fun | n => n⟩
theorem joinLays : Go.Proofs.Lays.n156 Try.prog joinRen := {
  mixed := by kernel_rfl
  f156 := Try.func29.trans (congrArg some (by kernel_rfl))
  f165 := Try.func32.trans (congrArg some (by kernel_rfl))
  f166 := Try.func33.trans (congrArg some (by kernel_rfl))
  f169 := Try.func34.trans (congrArg some (by kernel_rfl))
  f240 := Try.func36.trans (congrArg some (by kernel_rfl))
  f241 := Try.func37.trans (congrArg some (by kernel_rfl))
  f276 := Try.func39.trans (congrArg some (by kernel_rfl))
  f277 := Try.func40.trans (congrArg some (by kernel_rfl))
  t0 := Try.underlying0
  a0 := Try.isAgg0
  z0 := Try.sizeOf0
  v0 := Try.zeroValue0
  t3 := Try.underlying3
  a3 := Try.isAgg3
  z3 := Try.sizeOf3
  v3 := Try.zeroValue3
  t4 := Try.underlying4
  a4 := Try.isAgg4
  z4 := Try.sizeOf4
  v4 := Try.zeroValue4
  t9 := Try.underlying9
  a9 := Try.isAgg9
  z9 := Try.sizeOf9
  v9 := Try.zeroValue9
  t20 := Try.underlying20
  a20 := Try.isAgg20
  z20 := Try.sizeOf20
  v20 := Try.zeroValue20
  t31 := Try.underlying26
  a31 := Try.isAgg26
  z31 := Try.sizeOf26
  v31 := Try.zeroValue26
  t37 := Try.underlying22
  a37 := Try.isAgg22
  z37 := Try.sizeOf22
  v37 := Try.zeroValue22
  t70 := Try.underlying48
  a70 := Try.isAgg48
  z70 := Try.sizeOf48
  v70 := Try.zeroValue48
  t72 := Try.underlying50
  a72 := Try.isAgg50
  z72 := Try.sizeOf50
  v72 := Try.zeroValue50
  t75 := Try.underlying53
  a75 := Try.isAgg53
  z75 := Try.sizeOf53
  v75 := Try.zeroValue53
  t76 := Try.underlying54
  a76 := Try.isAgg54
  z76 := Try.sizeOf54
  v76 := Try.zeroValue54
  t127 := Try.underlying57
  a127 := Try.isAgg57
  z127 := Try.sizeOf57
  v127 := Try.zeroValue57
  t164 := Try.underlying58
  a164 := Try.isAgg58
  z164 := Try.sizeOf58
  v164 := Try.zeroValue58 }
theorem joinExtra : Builder.Extra Try.prog joinRen := {
  sizeBuilder := by kernel_rfl
  liesBuilder := by kernel_rfl
  t5 := Try.underlying5
  a5 := Try.isAgg5
  z5 := Try.sizeOf5
  v5 := Try.zeroValue5
  infoByte := by kernel_rfl
  cellsByte := by kernel_rfl
  sizeByte := by kernel_rfl
  neB5 := by decide }

theorem lib_join (sep : List UInt8) : ∀ ls : List (List UInt8), sep = [47] → Lib.join ls sep = joinOf ls
  | [], _ => rfl
  | [x], h => by simp [Lib.join, joinOf]
  | x :: y :: r, h => by
    have ih := lib_join sep (y :: r) h
    subst h
    rw [join_cons, ← ih]
    simp [Lib.join]
theorem map_data (ls : List (List UInt8)) : (ls.map fun l => (⟨l.toArray⟩ : ByteArray)).map (fun b => b.data.toList) = ls := by
  rw [List.map_map]
  conv => rhs; rw [← List.map_id ls]
  rfl
/-- strings.Join with / between, over texts that lie there. -/
theorem sjoin_any (A : Option Addr) (n c : Nat) (ls : List (List UInt8)) (w : World) (h : Texts w A n c ls) (hn : n ≤ 1000000) (hl : (joinOf ls).length ≤ 100000000) :
    Calls Try.prog 29 #[.slice A n c, .string ⟨#[47]⟩] w fun e w' => e = .returned (tv (joinOf ls)) ∧ Grows w w' := by
  obtain ⟨h1, h2, h3, h4, h5⟩ := h
  rcases h5 with rfl | ⟨b, o, rfl⟩
  · have he := h4.none_empty
    simp at he
    subst he
    simp at h1
    subst h1
    refine (Any.strings_Join_none joinLays joinExtra none c ⟨#[47]⟩ w).mono ?_
    rintro e w' ⟨rfl, rfl⟩
    exact ⟨rfl, Grows.refl _⟩
  · by_cases hz : ls = []
    · subst hz
      simp at h1
      subst h1
      refine (Any.strings_Join_none joinLays joinExtra _ c ⟨#[47]⟩ w).mono ?_
      rintro e w' ⟨rfl, rfl⟩
      exact ⟨rfl, Grows.refl _⟩
    · have hj : Lib.join ((ls.map fun l => (⟨l.toArray⟩ : ByteArray)).map (fun b => b.data.toList)) (⟨#[47]⟩ : ByteArray).data.toList = joinOf ls := by rw [map_data]; exact lib_join _ ls rfl
      have hb : b < w.heap.size := by
        obtain ⟨x, r, rfl⟩ := List.exists_cons_of_ne_nil hz
        obtain ⟨ad, e, hb, _⟩ := h4 0 (tv x) rfl
        injection e with e
        rw [← e] at hb
        exact hb
      have hc := Any.strings_Join joinLays joinExtra b o c (ls.map fun l => (⟨l.toArray⟩ : ByteArray)) ⟨#[47]⟩ w (fun j x hx => by
        rw [List.getElem?_map] at hx
        cases hq : ls[j]? with
        | none => rw [hq] at hx; cases hx
        | some y =>
          rw [hq] at hx
          injection hx with hx
          have := h4.cells j (tv y) (by rw [List.getElem?_map, hq]; rfl)
          rw [add_plain] at this
          rw [this, ← hx]) hb (by simp; omega) (by simp; omega) (by rw [hj]; omega)
      rw [hj, List.length_map, h1] at hc
      exact hc
end Go.Proofs.Ytjdgdpofnpajmaa
