/-
  strings.Join, as the library's shelf proves it, at this program's numbers: texts with one text between.
-/
import Derived.Shelf.Strings.OnBuilder
import Derived.Test.YtanofmejokgijaaPaB
namespace Go.Proofs.Ytanofmejokgijaa
open Go.RowKit
open Go.Shelf
set_option linter.unusedVariables false

def joinRen : Go.Shelf.Ren := ⟨fun | 156 => 66 | 165 => 84 | 166 => 85 | 169 => 86 | 240 => 103 | 241 => 104 | 276 => 109 | 277 => 110 | n => n, fun | 31 => 60 | 9 => 9 | 3 => 3 | 4 => 4 | 0 => 0 | 20 => 20 | 72 => 113 | 76 => 117 | 70 => 111 | 37 => 23 | 75 => 116 | 127 => 131 | 164 => 134 | 5 => 5 | 80 => 119 | n => n, fun | n => n⟩
theorem joinLays : Go.Proofs.Lays.n156 Try.prog joinRen := {
  mixed := by kernel_rfl
  f156 := Try.func66.trans (congrArg some (by kernel_rfl))
  f165 := Try.func84.trans (congrArg some (by kernel_rfl))
  f166 := Try.func85.trans (congrArg some (by kernel_rfl))
  f169 := Try.func86.trans (congrArg some (by kernel_rfl))
  f240 := Try.func103.trans (congrArg some (by kernel_rfl))
  f241 := Try.func104.trans (congrArg some (by kernel_rfl))
  f276 := Try.func109.trans (congrArg some (by kernel_rfl))
  f277 := Try.func110.trans (congrArg some (by kernel_rfl))
  t0 := Try.underlying0
  a0 := Try.isAgg0
  z0 := Try.sizeOf0
  v0 := Try.zeroValue0
  t3 := Try.underlying3
  a3 := Try.isAgg3
  z3 := Try.sizeOf3
  v3 := Try.zeroValue3
  t4 := Try.underlying4
  a4 := Try.isAgg4
  z4 := Try.sizeOf4
  v4 := Try.zeroValue4
  t9 := Try.underlying9
  a9 := Try.isAgg9
  z9 := Try.sizeOf9
  v9 := Try.zeroValue9
  t20 := Try.underlying20
  a20 := Try.isAgg20
  z20 := Try.sizeOf20
  v20 := Try.zeroValue20
  t31 := Try.underlying60
  a31 := Try.isAgg60
  z31 := Try.sizeOf60
  v31 := Try.zeroValue60
  t37 := Try.underlying23
  a37 := Try.isAgg23
  z37 := Try.sizeOf23
  v37 := Try.zeroValue23
  t70 := Try.underlying111
  a70 := Try.isAgg111
  z70 := Try.sizeOf111
  v70 := Try.zeroValue111
  t72 := Try.underlying113
  a72 := Try.isAgg113
  z72 := Try.sizeOf113
  v72 := Try.zeroValue113
  t75 := Try.underlying116
  a75 := Try.isAgg116
  z75 := Try.sizeOf116
  v75 := Try.zeroValue116
  t76 := Try.underlying117
  a76 := Try.isAgg117
  z76 := Try.sizeOf117
  v76 := Try.zeroValue117
  t127 := Try.underlying131
  a127 := Try.isAgg131
  z127 := Try.sizeOf131
  v127 := Try.zeroValue131
  t164 := Try.underlying134
  a164 := Try.isAgg134
  z164 := Try.sizeOf134
  v164 := Try.zeroValue134 }
theorem joinExtra : Builder.Extra Try.prog joinRen := {
  sizeBuilder := by kernel_rfl
  liesBuilder := by kernel_rfl
  t5 := Try.underlying5
  a5 := Try.isAgg5
  z5 := Try.sizeOf5
  v5 := Try.zeroValue5
  infoByte := by kernel_rfl
  cellsByte := by kernel_rfl
  sizeByte := by kernel_rfl
  neB5 := by decide }

theorem lib_join (sep : List UInt8) : ∀ ls : List (List UInt8), sep = [47] → Lib.join ls sep = joinOf ls
  | [], _ => rfl
  | [x], h => by simp [Lib.join, joinOf]
  | x :: y :: r, h => by
    have ih := lib_join sep (y :: r) h
    subst h
    rw [join_cons, ← ih]
    simp [Lib.join]
theorem map_data (ls : List (List UInt8)) : (ls.map fun l => (⟨l.toArray⟩ : ByteArray)).map (fun b => b.data.toList) = ls := by
  rw [List.map_map]
  conv => rhs; rw [← List.map_id ls]
  rfl
/-- strings.Join with / between, over texts that lie there. -/
theorem sjoin_any (A : Option Addr) (n c : Nat) (ls : List (List UInt8)) (w : World) (h : Texts w A n c ls) (hn : n ≤ 1000000) (hl : (joinOf ls).length ≤ 100000000) :
    Calls Try.prog 66 #[.slice A n c, .string ⟨#[47]⟩] w fun e w' => e = .returned (tv (joinOf ls)) ∧ Grows w w' := by
  obtain ⟨h1, h2, h3, h4, h5⟩ := h
  rcases h5 with rfl | ⟨b, o, rfl⟩
  · have he := h4.none_empty
    simp at he
    subst he
    simp at h1
    subst h1
    refine (Any.strings_Join_none joinLays joinExtra none c ⟨#[47]⟩ w).mono ?_
    rintro e w' ⟨rfl, rfl⟩
    exact ⟨rfl, Grows.refl _⟩
  · by_cases hz : ls = []
    · subst hz
      simp at h1
      subst h1
      refine (Any.strings_Join_none joinLays joinExtra _ c ⟨#[47]⟩ w).mono ?_
      rintro e w' ⟨rfl, rfl⟩
      exact ⟨rfl, Grows.refl _⟩
    · have hj : Lib.join ((ls.map fun l => (⟨l.toArray⟩ : ByteArray)).map (fun b => b.data.toList)) (⟨#[47]⟩ : ByteArray).data.toList = joinOf ls := by rw [map_data]; exact lib_join _ ls rfl
      have hb : b < w.heap.size := by
        obtain ⟨x, r, rfl⟩ := List.exists_cons_of_ne_nil hz
        obtain ⟨ad, e, hb, _⟩ := h4 0 (tv x) rfl
        injection e with e
        rw [← e] at hb
        exact hb
      have hc := Any.strings_Join joinLays joinExtra b o c (ls.map fun l => (⟨l.toArray⟩ : ByteArray)) ⟨#[47]⟩ w (fun j x hx => by
        rw [List.getElem?_map] at hx
        cases hq : ls[j]? with
        | none => rw [hq] at hx; cases hx
        | some y =>
          rw [hq] at hx
          injection hx with hx
          have := h4.cells j (tv y) (by rw [List.getElem?_map, hq]; rfl)
          rw [add_plain] at this
          rw [this, ← hx]) hb (by simp; omega) (by simp; omega) (by rw [hj]; omega)
      rw [hj, List.length_map, h1] at hc
      exact hc
end Go.Proofs.Ytanofmejokgijaa
