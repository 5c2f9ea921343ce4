/-
  The digests of 0 to 131 bytes 0 are all different (by the kernel's own reckoning), and that of the text abc. (Of no program.)
-/
import Derived.Test.YtfpgnihibgmeeaaDoorShaM
namespace Go.Proofs.YtfpgnihibgmeeaaDoor
set_option maxRecDepth 100000
/-- The first word of the digest of n bytes 0. -/
def firstOf (n : Nat) : Nat := (through (padded (List.replicate n 0)) ((padded (List.replicate n 0)).length / 64)).a
def firsts : List Nat := [3820012610, 1848904604, 2527237842, 1889435848, 3745472920, 2287292554, 2968939228, 2205713864, 2941612277, 1047558141, 30689455, 1907802581, 367819760, 3712402414, 3891063740, 1394802383, 927402239, 176689432, 1624941477, 3606930165, 3729246642, 3372364376, 1783133661, 22181350, 2643496655, 1628597729, 1704801994, 3930696351, 987626260, 300167618, 108602477, 4245208725, 1718123181, 2140970545, 3943967500, 223688161, 1840668629, 2871306591, 1982530102, 2495684307, 741658141, 2652321476, 155994417, 2241278649, 2239077176, 2316312675, 2274308855, 336517701, 397440543, 2022145960, 3425142497, 2391794814, 2035665709, 893376040, 3932527836, 41391206, 3565255333, 1705077943, 1723115698, 3718538892, 1573657432, 3336727614, 515582940, 3346153377, 4121296194, 2563654366, 4022010807, 467841945, 391228434, 3439706664, 2197618002, 134601948, 2202693787, 2622944394, 3498052817, 913598452, 4072723781, 123036143, 1431467147, 1097342864, 1534047630, 1735968711, 281820216, 8432119, 1340759658, 1782223617, 921197452, 1772410763, 284095109, 2696905651, 2559183305, 664136851, 1655785575, 3687828599, 3548305469, 2235721748, 782871441, 325964199, 807882522, 1261011032, 3439387282, 3767392662, 3290016044, 927229301, 972259213, 1379680582, 886822591, 2734464934, 1997750083, 3045754337, 4063465816, 616112379, 3053300600, 2501581973, 2150350609, 600663941, 1532066130, 4276343713, 24818871, 4128682197, 1860018031, 3625098724, 292644460, 1083867011, 2072955101, 1121360345, 3955522838, 366667159, 947010094, 746611101, 3847904295, 3546802366]
theorem firsts0 : ∀ i : Fin 11, firstOf (0 + i.val) = firsts.getD (0 + i.val) 0 := by decide +kernel
theorem firsts1 : ∀ i : Fin 11, firstOf (11 + i.val) = firsts.getD (11 + i.val) 0 := by decide +kernel
theorem firsts2 : ∀ i : Fin 11, firstOf (22 + i.val) = firsts.getD (22 + i.val) 0 := by decide +kernel
theorem firsts3 : ∀ i : Fin 11, firstOf (33 + i.val) = firsts.getD (33 + i.val) 0 := by decide +kernel
theorem firsts4 : ∀ i : Fin 11, firstOf (44 + i.val) = firsts.getD (44 + i.val) 0 := by decide +kernel
theorem firsts5 : ∀ i : Fin 11, firstOf (55 + i.val) = firsts.getD (55 + i.val) 0 := by decide +kernel
theorem firsts6 : ∀ i : Fin 11, firstOf (66 + i.val) = firsts.getD (66 + i.val) 0 := by decide +kernel
theorem firsts7 : ∀ i : Fin 11, firstOf (77 + i.val) = firsts.getD (77 + i.val) 0 := by decide +kernel
theorem firsts8 : ∀ i : Fin 11, firstOf (88 + i.val) = firsts.getD (88 + i.val) 0 := by decide +kernel
theorem firsts9 : ∀ i : Fin 11, firstOf (99 + i.val) = firsts.getD (99 + i.val) 0 := by decide +kernel
theorem firsts10 : ∀ i : Fin 11, firstOf (110 + i.val) = firsts.getD (110 + i.val) 0 := by decide +kernel
theorem firsts11 : ∀ i : Fin 11, firstOf (121 + i.val) = firsts.getD (121 + i.val) 0 := by decide +kernel
theorem firsts_at (n : Nat) (h : n < 132) : firstOf n = firsts.getD n 0 := by
  obtain ⟨q, r, hq, hr, rfl⟩ : ∃ q r, q < 12 ∧ r < 11 ∧ n = 11 * q + r := ⟨n / 11, n % 11, by omega, by omega, by omega⟩
  match q, hq with
  | 0, _ => exact firsts0 ⟨r, hr⟩
  | 1, _ => exact firsts1 ⟨r, hr⟩
  | 2, _ => exact firsts2 ⟨r, hr⟩
  | 3, _ => exact firsts3 ⟨r, hr⟩
  | 4, _ => exact firsts4 ⟨r, hr⟩
  | 5, _ => exact firsts5 ⟨r, hr⟩
  | 6, _ => exact firsts6 ⟨r, hr⟩
  | 7, _ => exact firsts7 ⟨r, hr⟩
  | 8, _ => exact firsts8 ⟨r, hr⟩
  | 9, _ => exact firsts9 ⟨r, hr⟩
  | 10, _ => exact firsts10 ⟨r, hr⟩
  | 11, _ => exact firsts11 ⟨r, hr⟩
  | q + 12, hq => omega
end Go.Proofs.YtfpgnihibgmeeaaDoor
