/-
  The digests of bytes 0 of other numbers are other ones; that of the text abc. (Of no program.)
-/
import Derived.Test.YtfpgnihibgmeeaaDoorShaT
namespace Go.Proofs.YtfpgnihibgmeeaaDoor
set_option maxRecDepth 100000
theorem firsts_back : ∀ i : Fin 132, firsts.idxOf (firsts.getD i.val 0) = i.val := by decide +kernel
theorem firstOf_inj (n m : Nat) (hn : n < 132) (hm : m < 132) (h : firstOf n = firstOf m) : n = m := by
  rw [firsts_at n hn, firsts_at m hm] at h
  have e1 := firsts_back ⟨n, hn⟩
  have e2 := firsts_back ⟨m, hm⟩
  simp only [] at e1 e2
  rw [← e1, h, e2]
theorem four_inj (x y : Nat) (hx : x < 4294967296) (hy : y < 4294967296) (h : four x = four y) : x = y := by
  simp only [four, List.map_cons, List.map_nil, List.cons.injEq, and_true] at h
  obtain ⟨h1, h2, h3, h4⟩ := h
  have e1 := congrArg UInt8.toNat h1
  have e2 := congrArg UInt8.toNat h2
  have e3 := congrArg UInt8.toNat h3
  have e4 := congrArg UInt8.toNat h4
  simp at e1 e2 e3 e4
  omega
theorem bytesOf_a (v u : V8) (hv : v.Ok) (hu : u.Ok) (h : bytesOf v = bytesOf u) : v.a = u.a := by
  have h4 : four v.a = four u.a := by
    have := congrArg (List.take 4) h
    simpa [bytesOf, V8.list, four] using this
  exact four_inj _ _ hv.a hu.a h4
theorem sha_zeros_inj (n m : Nat) (hn : n < 132) (hm : m < 132) (h : shaOf (List.replicate n 0) = shaOf (List.replicate m 0)) : n = m :=
  firstOf_inj n m hn hm (bytesOf_a _ _ (through_ok _ _) (through_ok _ _) h)
theorem sha_abc : shaOf [97, 98, 99] = [186,120,22,191,143,1,207,234,65,65,64,222,93,174,34,35,176,3,97,163,150,23,122,156,180,16,255,97,242,0,21,173] := by decide +kernel
end Go.Proofs.YtfpgnihibgmeeaaDoor
