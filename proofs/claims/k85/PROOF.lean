import PyProof.Rows.All
import Wide.All
import OpenK.AllK
import Wide.FinOn
import KE.OsRunLaw
import HandS.ForMost
import PyProof.ReprReads
import PyProof.ReprRoads
import HandS.Codes
import HandS.ForExc
import HandS.ExcInit
import HandS.ExcField
import HandS.ExcIs
import KE.KExcIs
import HandS.IsInst
import HandS.WrittenGet
import HandS.Star
import HandS.Conv
import HandS.More
import HandS.Property
import HandS.OwnEq
import HandS.ClsMeth
import HandS.TupAny
import HandS.DictComp
import HandS.DeepEq
import HandS.Strs
import HandS.ExcValue
import KE.KUnpackStar
import HandS.TupMul
import HandS.Style
import PyProof.DictUpdate
import HandS.TryMany
import HandS.Walk
import HandS.Zip
import HandS.Iter
import HandS.Small
import HandS.StrMore
import HandS.TupLe
import HandS.Defaults
import PySem.Challenge.RW_answersby_k85_entries_spread
set_option Elab.async false
set_option linter.all false
set_option maxRecDepth 100000
set_option maxHeartbeats 8000000
section
open PySem PySem.W PyProof.Rows
open Lean in
local macro_rules
  | `(tactic| first | $t:tacticSeq | fail $s:str) => do
    if s.getString.startsWith "open_kl: no head takes this row (the" then
      let (h, n) := (mkIdent `hl, mkIdent `no7)
      `(tactic| (($t:tacticSeq); (case $h:ident => (refine HeadRun.left_oneK (M := 14600) (False.elim $n) (False.elim $n) (fun s => False.elim $n) (False.elim $n) ?_; refine byRow2 "special-get-raises" ?_ ?_; (· exact False.elim $n); (· exact False.elim $n))); all_goals exact False.elim $n))
    else Macro.throwUnsupported
set_option maxRecDepth 100000 in
set_option maxHeartbeats 0 in
set_option pp.maxSteps 200000 in
set_option pp.deepTerms true in
theorem Head7.t0 (no7 : False) : PySem.Challenge.rw_answersby_k85_entries_spread.Holds := by
  w_on; o_law; k_headL
end
section
open PySem PySem.W PyProof.Rows
noncomputable abbrev Head7.view : Program := Head7.t0.view_39
noncomputable abbrev Head7.heap : Params → Frag := Head7.t0.heap_39
def Head7.as_ : List Addr := [2, 3, 15, 17, 18, 20, 21, 22, 29, 30, 31, 32, 35, 42, 44, 45, 47, 48, 49, 50, 51, 54, 61, 63, 64, 66, 67, 68, 69, 70, 73, 80, 82, 83, 85, 86, 87, 88, 89, 92, 99, 101, 102, 104, 105, 106, 107, 108, 111, 118, 120, 121, 123, 124, 125, 126, 127, 130, 137, 139, 140, 142, 143, 144, 145, 146, 149, 156, 158, 159, 161, 162, 163, 164, 165, 168, 175, 177, 178, 180, 181, 182, 183, 184, 185, 188, 195, 197, 198, 200, 201, 202, 203, 204, 205, 208, 215, 217, 218, 220, 221, 222, 223, 224, 225, 228, 235, 237, 238, 240, 241, 242, 243, 244, 245, 248, 250, 251, 253, 254, 255, 257, 258, 260, 261, 262, 264, 265, 267, 268, 269, 271, 272, 274, 275, 276, 277, 278, 279, 280, 281, 283, 284, 286, 287, 288, 290, 291, 293, 294, 295, 297, 298, 300, 301, 302, 304, 305, 307, 308, 309, 311, 312, 314, 315, 316, 318, 319, 321, 322, 323, 324, 325, 326, 327, 328, 329, 330, 331, 332, 333, 334, 335, 336, 337, 340, 341, 349, 352, 353, 354, 356, 357, 359, 360, 361, 362, 363, 364, 366, 367, 369, 370, 371, 372, 373, 374, 376, 377, 379, 380, 381, 383, 384, 386, 387, 388, 390, 391, 393, 394, 397, 399, 400, 402, 403, 404, 405, 407, 408, 410, 411, 414, 416, 417, 419, 420, 421, 422, 424, 425, 427, 428, 431, 433, 434, 436, 437, 438, 439, 441, 442, 444, 445, 446, 448, 449, 451, 452, 453, 455, 456, 458, 459, 460, 462, 463, 465, 466, 467, 469, 470, 472, 473, 474, 476, 477, 479, 480, 481, 482, 483, 484, 485, 488, 490, 491, 493, 494, 495, 496, 497, 498, 499, 500, 502, 503, 505, 506, 507, 509, 510, 512, 513, 514, 517, 518, 519, 521, 522, 524, 525, 526, 528, 529, 531, 532, 533, 535, 536, 538, 539, 540, 542, 543, 545, 546, 547, 550, 551, 552, 554, 555, 557, 558, 566, 568, 569, 571, 572, 573, 575, 576, 578, 579, 580, 582, 583, 585, 586, 587, 588, 589, 590, 591, 594, 597, 598, 599, 602, 603, 604, 607, 608, 609, 611, 612, 614, 615, 616, 617, 619, 620, 622, 623, 631, 633, 634, 636, 637, 638, 640, 641, 643, 644, 645, 647, 648, 650, 651, 652, 654, 655, 657, 658, 659, 661, 662, 664, 665, 666, 669, 670, 671, 673, 674, 676, 677, 678, 680, 681, 683, 684, 685, 687, 688, 690, 691, 692, 694, 695, 697, 698, 699, 701, 702, 704, 705, 706, 708, 709, 711, 712, 713, 716, 717, 718, 720, 721, 723, 724, 725, 727, 728, 730, 731, 732, 734, 735, 737, 738, 739, 741, 742, 744, 745, 746, 748, 749, 751, 752, 753, 754, 755, 756, 757, 760, 762, 763, 765, 766, 767, 768, 770, 771, 773, 774, 782, 783, 785, 786, 788, 789, 790, 792, 793, 795, 796, 797, 799, 800, 802, 803, 804, 806, 807, 809, 810, 811, 813, 814, 816, 817, 818, 820, 821, 823, 824, 825, 827, 828, 830, 831, 832, 834, 835, 837, 838, 839, 841, 842, 844, 845, 846, 848, 849, 851, 852, 853, 854, 856, 857, 859, 860, 861, 862, 864, 865, 867, 868, 869, 870, 871, 872, 873, 876, 877, 879, 880, 882, 883, 884, 886, 887, 889, 890, 891, 894, 895, 896, 898, 899, 901, 902, 903, 905, 906, 908, 909, 910, 912, 913, 915, 916, 917, 919, 920, 922, 923, 924, 926, 927, 929, 930, 931, 933, 934, 936, 937, 938, 940, 941, 943, 944, 945, 947, 948, 950, 951, 952, 954, 955, 957, 958, 959, 961, 962, 964, 965, 966, 968, 969, 971, 972, 973, 976, 977, 978, 980, 981, 983, 984]
theorem Hq.at_ {S A : Type} {x : Option S} {f : S → A} {a : A} {s : S} (hx : x = some s) (h : x.map f = some a) : f s = a := by
  rw [hx] at h
  exact Option.some.inj h
theorem Hq.some_ {S A : Type} {x : Option S} {f : S → A} {a : A} (h : x.map f = some a) : ∃ s, x = some s := by
  cases x with
  | none => cases h
  | some s => exact ⟨s, rfl⟩
theorem Hq.good5 (q : Program) (loose : List PySem.Str) : PySem.W.R.mapR (fun c => some c.withCmp.plainShape) (PySem.W.Fast.tw210736558901404530 q (PySem.W.Fast.tw821141287760084731 q loose)) = plainGoodE q (looseW q loose) := by
  rw [← PySem.W.Fast.te210736558901404530, ← PySem.W.Fast.te821141287760084731, ← PySem.W.R.mapR_eq]
  rfl

theorem Hq.fin {S A B C0 C1 C2 C3 C4 C5 C6 C7 C8 : Type} {x : Option S} (l : S → A) (g : S → B) (t : S → C0 × C1 × C2 × C3 × C4 × C5 × C6 × C7 × C8) {a : A} {b : B} {c0 : C0} {c1 : C1} {c2 : C2} {c3 : C3} {c4 : C4} {c5 : C5} {c6 : C6} {c7 : C7} {c8 : C8} {d5 : C5} (e5 : d5 = c5) (h0 : x.map (fun s => ((t s).2.2.2.2.2.1, (t s).2.1, (t s).2.2.2.2.2.2.1, (t s).2.2.2.2.2.2.2.2)) = some (d5, c1, c6, c8)) (h1 : x.map (fun s => ((t s).1, (t s).2.2.2.2.1)) = some (c0, c4)) (h2 : x.map (fun s => ((t s).2.2.1, g s)) = some (c2, b)) (h3 : x.map (fun s => ((t s).2.2.2.1, l s)) = some (c3, a)) (h4 : x.map (fun s => (t s).2.2.2.2.2.2.2.1) = some c7) : x.map (fun s => (l s, t s, g s)) = some (a, (c0, c1, c2, c3, c4, c5, c6, c7, c8), b) := by
  obtain ⟨s, hx⟩ := Hq.some_ h0
  have q0 := Hq.at_ hx h0
  simp only [Prod.mk.injEq] at q0
  obtain ⟨k5, k1, k6, k8⟩ := q0
  have q1 := Hq.at_ hx h1
  simp only [Prod.mk.injEq] at q1
  obtain ⟨k0, k4⟩ := q1
  have q2 := Hq.at_ hx h2
  simp only [Prod.mk.injEq] at q2
  obtain ⟨k2, kg⟩ := q2
  have q3 := Hq.at_ hx h3
  simp only [Prod.mk.injEq] at q3
  obtain ⟨k3, kl⟩ := q3
  have k7 := Hq.at_ hx h4
  rw [hx]
  exact congrArg some (Prod.ext kl (Prod.ext (Prod.ext k0 (Prod.ext k1 (Prod.ext k2 (Prod.ext k3 (Prod.ext k4 (Prod.ext (k5.trans e5) (Prod.ext k6 (Prod.ext k7 k8)))))))) kg))
set_option maxRecDepth 100000 in
set_option maxHeartbeats 0 in
theorem Hq.t0a : ∀ (w : World) (os : OsState), Option.map (fun s : SharedT => ((HeadRun.seenQ Head7.view [Str.ofString "KINDS", Str.ofString "MENUS", Str.ofString "Book", Str.ofString "PARTS"] (importedModules PySem.Challenge.rw_answersby_k85_entries_spread.row.prog.main.body) (fun s => xlAt Head7.view [] s && recOk PySem.Challenge.rw_answersby_k85_entries_spread.row.records s) s.abs).2.2.2.2.2.1, (HeadRun.seenQ Head7.view [Str.ofString "KINDS", Str.ofString "MENUS", Str.ofString "Book", Str.ofString "PARTS"] (importedModules PySem.Challenge.rw_answersby_k85_entries_spread.row.prog.main.body) (fun s => xlAt Head7.view [] s && recOk PySem.Challenge.rw_answersby_k85_entries_spread.row.records s) s.abs).2.1, (HeadRun.seenQ Head7.view [Str.ofString "KINDS", Str.ofString "MENUS", Str.ofString "Book", Str.ofString "PARTS"] (importedModules PySem.Challenge.rw_answersby_k85_entries_spread.row.prog.main.body) (fun s => xlAt Head7.view [] s && recOk PySem.Challenge.rw_answersby_k85_entries_spread.row.records s) s.abs).2.2.2.2.2.2.1, (HeadRun.seenQ Head7.view [Str.ofString "KINDS", Str.ofString "MENUS", Str.ofString "Book", Str.ofString "PARTS"] (importedModules PySem.Challenge.rw_answersby_k85_entries_spread.row.prog.main.body) (fun s => xlAt Head7.view [] s && recOk PySem.Challenge.rw_answersby_k85_entries_spread.row.records s) s.abs).2.2.2.2.2.2.2.2)) (HeadRun.endF (HeadRun.stepQ (HeadRun.denQ HeadRun.tabQ) PySem.Challenge.rw_answersby_k85_entries_spread.row.prog (w.withFollow "special-get-raises" false)) 14600 PySem.Challenge.rw_answersby_k85_entries_spread.row.prog (w.withFollow "special-get-raises" false) os) = some (PySem.W.R.mapR (fun c => some c.withCmp.plainShape) (PySem.W.Fast.tw210736558901404530 Head7.view (PySem.W.Fast.tw821141287760084731 Head7.view [Str.ofString "KINDS", Str.ofString "MENUS", Str.ofString "Book", Str.ofString "PARTS"])), bltViewBooted, plainGoodD Head7.view [Str.ofString "KINDS", Str.ofString "MENUS", Str.ofString "Book", Str.ofString "PARTS"], clsGoodW Head7.view [Str.ofString "KINDS", Str.ofString "MENUS", Str.ofString "Book", Str.ofString "PARTS"]) := by
  intro w os
  kernel_rfl
set_option maxRecDepth 100000 in
set_option maxHeartbeats 0 in
theorem Hq.t1a : ∀ (w : World) (os : OsState), Option.map (fun s : SharedT => ((HeadRun.seenQ Head7.view [Str.ofString "KINDS", Str.ofString "MENUS", Str.ofString "Book", Str.ofString "PARTS"] (importedModules PySem.Challenge.rw_answersby_k85_entries_spread.row.prog.main.body) (fun s => xlAt Head7.view [] s && recOk PySem.Challenge.rw_answersby_k85_entries_spread.row.records s) s.abs).1, (HeadRun.seenQ Head7.view [Str.ofString "KINDS", Str.ofString "MENUS", Str.ofString "Book", Str.ofString "PARTS"] (importedModules PySem.Challenge.rw_answersby_k85_entries_spread.row.prog.main.body) (fun s => xlAt Head7.view [] s && recOk PySem.Challenge.rw_answersby_k85_entries_spread.row.records s) s.abs).2.2.2.2.1)) (HeadRun.endF (HeadRun.stepQ (HeadRun.denQ HeadRun.tabQ) PySem.Challenge.rw_answersby_k85_entries_spread.row.prog (w.withFollow "special-get-raises" false)) 14600 PySem.Challenge.rw_answersby_k85_entries_spread.row.prog (w.withFollow "special-get-raises" false) os) = some (expectedOf Head7.view, pinGoodD (drecsOf Head7.view)) := by
  intro w os
  kernel_rfl
set_option maxRecDepth 100000 in
set_option maxHeartbeats 0 in
theorem Hq.t2a : ∀ (w : World) (os : OsState), Option.map (fun s : SharedT => ((HeadRun.seenQ Head7.view [Str.ofString "KINDS", Str.ofString "MENUS", Str.ofString "Book", Str.ofString "PARTS"] (importedModules PySem.Challenge.rw_answersby_k85_entries_spread.row.prog.main.body) (fun s => xlAt Head7.view [] s && recOk PySem.Challenge.rw_answersby_k85_entries_spread.row.records s) s.abs).2.2.1, List.map (HeadRun.getT s) Head7.as_)) (HeadRun.endF (HeadRun.stepQ (HeadRun.denQ HeadRun.tabQ) PySem.Challenge.rw_answersby_k85_entries_spread.row.prog (w.withFollow "special-get-raises" false)) 14600 PySem.Challenge.rw_answersby_k85_entries_spread.row.prog (w.withFollow "special-get-raises" false) os) = some (true, List.map (fun x => some x.snd) (Head7.heap (w.withFollow "special-get-raises" false).params)) := by
  intro w os
  kernel_rfl
set_option maxRecDepth 100000 in
set_option maxHeartbeats 0 in
theorem Hq.t3a : ∀ (w : World) (os : OsState), Option.map (fun s : SharedT => ((HeadRun.seenQ Head7.view [Str.ofString "KINDS", Str.ofString "MENUS", Str.ofString "Book", Str.ofString "PARTS"] (importedModules PySem.Challenge.rw_answersby_k85_entries_spread.row.prog.main.body) (fun s => xlAt Head7.view [] s && recOk PySem.Challenge.rw_answersby_k85_entries_spread.row.records s) s.abs).2.2.2.1, HeadRun.looksF PySem.Challenge.rw_answersby_k85_entries_spread.row.prog (boot_heap (w.withFollow "special-get-raises" false).params) s.abs)) (HeadRun.endF (HeadRun.stepQ (HeadRun.denQ HeadRun.tabQ) PySem.Challenge.rw_answersby_k85_entries_spread.row.prog (w.withFollow "special-get-raises" false)) 14600 PySem.Challenge.rw_answersby_k85_entries_spread.row.prog (w.withFollow "special-get-raises" false) os) = some (true, true) := by
  intro w os
  kernel_rfl
set_option maxRecDepth 100000 in
set_option maxHeartbeats 0 in
theorem Hq.t4a : ∀ (w : World) (os : OsState), Option.map (fun s : SharedT => (HeadRun.seenQ Head7.view [Str.ofString "KINDS", Str.ofString "MENUS", Str.ofString "Book", Str.ofString "PARTS"] (importedModules PySem.Challenge.rw_answersby_k85_entries_spread.row.prog.main.body) (fun s => xlAt Head7.view [] s && recOk PySem.Challenge.rw_answersby_k85_entries_spread.row.records s) s.abs).2.2.2.2.2.2.2.1) (HeadRun.endF (HeadRun.stepQ (HeadRun.denQ HeadRun.tabQ) PySem.Challenge.rw_answersby_k85_entries_spread.row.prog (w.withFollow "special-get-raises" false)) 14600 PySem.Challenge.rw_answersby_k85_entries_spread.row.prog (w.withFollow "special-get-raises" false) os) = some (wideGood Head7.view) := by
  intro w os
  kernel_rfl
theorem Head7.ra : ∀ (w : World) (os : OsState), Option.map (fun s : SharedT => (HeadRun.looksF PySem.Challenge.rw_answersby_k85_entries_spread.row.prog (boot_heap (w.withFollow "special-get-raises" false).params) s.abs, HeadRun.seenQ Head7.view [Str.ofString "KINDS", Str.ofString "MENUS", Str.ofString "Book", Str.ofString "PARTS"] (importedModules PySem.Challenge.rw_answersby_k85_entries_spread.row.prog.main.body) (fun s => xlAt Head7.view [] s && recOk PySem.Challenge.rw_answersby_k85_entries_spread.row.records s) s.abs, List.map (HeadRun.getT s) Head7.as_)) (HeadRun.endF (HeadRun.stepQ (HeadRun.denQ HeadRun.tabQ) PySem.Challenge.rw_answersby_k85_entries_spread.row.prog (w.withFollow "special-get-raises" false)) 14600 PySem.Challenge.rw_answersby_k85_entries_spread.row.prog (w.withFollow "special-get-raises" false) os) = some (true, openGood Head7.view [Str.ofString "KINDS", Str.ofString "MENUS", Str.ofString "Book", Str.ofString "PARTS"], List.map (fun x => some x.snd) (Head7.heap (w.withFollow "special-get-raises" false).params)) :=
  fun w os => Hq.fin _ _ (fun s : SharedT => (HeadRun.seenQ Head7.view [Str.ofString "KINDS", Str.ofString "MENUS", Str.ofString "Book", Str.ofString "PARTS"] (importedModules PySem.Challenge.rw_answersby_k85_entries_spread.row.prog.main.body) (fun s => xlAt Head7.view [] s && recOk PySem.Challenge.rw_answersby_k85_entries_spread.row.records s) s.abs)) (Hq.good5 _ _) (Hq.t0a w os) (Hq.t1a w os) (Hq.t2a w os) (Hq.t3a w os) (Hq.t4a w os)
set_option maxRecDepth 100000 in
set_option maxHeartbeats 0 in
theorem Hq.t0b : ∀ (w : World) (os : OsState), Option.map (fun s : SharedT => ((HeadRun.seenQ Head7.view [Str.ofString "KINDS", Str.ofString "MENUS", Str.ofString "Book", Str.ofString "PARTS"] (importedModules PySem.Challenge.rw_answersby_k85_entries_spread.row.prog.main.body) (fun s => xlAt Head7.view [] s && recOk PySem.Challenge.rw_answersby_k85_entries_spread.row.records s) s.abs).2.2.2.2.2.1, (HeadRun.seenQ Head7.view [Str.ofString "KINDS", Str.ofString "MENUS", Str.ofString "Book", Str.ofString "PARTS"] (importedModules PySem.Challenge.rw_answersby_k85_entries_spread.row.prog.main.body) (fun s => xlAt Head7.view [] s && recOk PySem.Challenge.rw_answersby_k85_entries_spread.row.records s) s.abs).2.1, (HeadRun.seenQ Head7.view [Str.ofString "KINDS", Str.ofString "MENUS", Str.ofString "Book", Str.ofString "PARTS"] (importedModules PySem.Challenge.rw_answersby_k85_entries_spread.row.prog.main.body) (fun s => xlAt Head7.view [] s && recOk PySem.Challenge.rw_answersby_k85_entries_spread.row.records s) s.abs).2.2.2.2.2.2.1, (HeadRun.seenQ Head7.view [Str.ofString "KINDS", Str.ofString "MENUS", Str.ofString "Book", Str.ofString "PARTS"] (importedModules PySem.Challenge.rw_answersby_k85_entries_spread.row.prog.main.body) (fun s => xlAt Head7.view [] s && recOk PySem.Challenge.rw_answersby_k85_entries_spread.row.records s) s.abs).2.2.2.2.2.2.2.2)) (HeadRun.endF (HeadRun.stepQ (HeadRun.denQ HeadRun.tabQ) PySem.Challenge.rw_answersby_k85_entries_spread.row.prog (w.withFollow "special-get-raises" true)) 14600 PySem.Challenge.rw_answersby_k85_entries_spread.row.prog (w.withFollow "special-get-raises" true) os) = some (PySem.W.R.mapR (fun c => some c.withCmp.plainShape) (PySem.W.Fast.tw210736558901404530 Head7.view (PySem.W.Fast.tw821141287760084731 Head7.view [Str.ofString "KINDS", Str.ofString "MENUS", Str.ofString "Book", Str.ofString "PARTS"])), bltViewBooted, plainGoodD Head7.view [Str.ofString "KINDS", Str.ofString "MENUS", Str.ofString "Book", Str.ofString "PARTS"], clsGoodW Head7.view [Str.ofString "KINDS", Str.ofString "MENUS", Str.ofString "Book", Str.ofString "PARTS"]) := by
  intro w os
  kernel_rfl
set_option maxRecDepth 100000 in
set_option maxHeartbeats 0 in
theorem Hq.t1b : ∀ (w : World) (os : OsState), Option.map (fun s : SharedT => ((HeadRun.seenQ Head7.view [Str.ofString "KINDS", Str.ofString "MENUS", Str.ofString "Book", Str.ofString "PARTS"] (importedModules PySem.Challenge.rw_answersby_k85_entries_spread.row.prog.main.body) (fun s => xlAt Head7.view [] s && recOk PySem.Challenge.rw_answersby_k85_entries_spread.row.records s) s.abs).1, (HeadRun.seenQ Head7.view [Str.ofString "KINDS", Str.ofString "MENUS", Str.ofString "Book", Str.ofString "PARTS"] (importedModules PySem.Challenge.rw_answersby_k85_entries_spread.row.prog.main.body) (fun s => xlAt Head7.view [] s && recOk PySem.Challenge.rw_answersby_k85_entries_spread.row.records s) s.abs).2.2.2.2.1)) (HeadRun.endF (HeadRun.stepQ (HeadRun.denQ HeadRun.tabQ) PySem.Challenge.rw_answersby_k85_entries_spread.row.prog (w.withFollow "special-get-raises" true)) 14600 PySem.Challenge.rw_answersby_k85_entries_spread.row.prog (w.withFollow "special-get-raises" true) os) = some (expectedOf Head7.view, pinGoodD (drecsOf Head7.view)) := by
  intro w os
  kernel_rfl
set_option maxRecDepth 100000 in
set_option maxHeartbeats 0 in
theorem Hq.t2b : ∀ (w : World) (os : OsState), Option.map (fun s : SharedT => ((HeadRun.seenQ Head7.view [Str.ofString "KINDS", Str.ofString "MENUS", Str.ofString "Book", Str.ofString "PARTS"] (importedModules PySem.Challenge.rw_answersby_k85_entries_spread.row.prog.main.body) (fun s => xlAt Head7.view [] s && recOk PySem.Challenge.rw_answersby_k85_entries_spread.row.records s) s.abs).2.2.1, List.map (HeadRun.getT s) Head7.as_)) (HeadRun.endF (HeadRun.stepQ (HeadRun.denQ HeadRun.tabQ) PySem.Challenge.rw_answersby_k85_entries_spread.row.prog (w.withFollow "special-get-raises" true)) 14600 PySem.Challenge.rw_answersby_k85_entries_spread.row.prog (w.withFollow "special-get-raises" true) os) = some (true, List.map (fun x => some x.snd) (Head7.heap (w.withFollow "special-get-raises" true).params)) := by
  intro w os
  kernel_rfl
set_option maxRecDepth 100000 in
set_option maxHeartbeats 0 in
theorem Hq.t3b : ∀ (w : World) (os : OsState), Option.map (fun s : SharedT => ((HeadRun.seenQ Head7.view [Str.ofString "KINDS", Str.ofString "MENUS", Str.ofString "Book", Str.ofString "PARTS"] (importedModules PySem.Challenge.rw_answersby_k85_entries_spread.row.prog.main.body) (fun s => xlAt Head7.view [] s && recOk PySem.Challenge.rw_answersby_k85_entries_spread.row.records s) s.abs).2.2.2.1, HeadRun.looksF PySem.Challenge.rw_answersby_k85_entries_spread.row.prog (boot_heap (w.withFollow "special-get-raises" true).params) s.abs)) (HeadRun.endF (HeadRun.stepQ (HeadRun.denQ HeadRun.tabQ) PySem.Challenge.rw_answersby_k85_entries_spread.row.prog (w.withFollow "special-get-raises" true)) 14600 PySem.Challenge.rw_answersby_k85_entries_spread.row.prog (w.withFollow "special-get-raises" true) os) = some (true, true) := by
  intro w os
  kernel_rfl
set_option maxRecDepth 100000 in
set_option maxHeartbeats 0 in
theorem Hq.t4b : ∀ (w : World) (os : OsState), Option.map (fun s : SharedT => (HeadRun.seenQ Head7.view [Str.ofString "KINDS", Str.ofString "MENUS", Str.ofString "Book", Str.ofString "PARTS"] (importedModules PySem.Challenge.rw_answersby_k85_entries_spread.row.prog.main.body) (fun s => xlAt Head7.view [] s && recOk PySem.Challenge.rw_answersby_k85_entries_spread.row.records s) s.abs).2.2.2.2.2.2.2.1) (HeadRun.endF (HeadRun.stepQ (HeadRun.denQ HeadRun.tabQ) PySem.Challenge.rw_answersby_k85_entries_spread.row.prog (w.withFollow "special-get-raises" true)) 14600 PySem.Challenge.rw_answersby_k85_entries_spread.row.prog (w.withFollow "special-get-raises" true) os) = some (wideGood Head7.view) := by
  intro w os
  kernel_rfl
theorem Head7.rb : ∀ (w : World) (os : OsState), Option.map (fun s : SharedT => (HeadRun.looksF PySem.Challenge.rw_answersby_k85_entries_spread.row.prog (boot_heap (w.withFollow "special-get-raises" true).params) s.abs, HeadRun.seenQ Head7.view [Str.ofString "KINDS", Str.ofString "MENUS", Str.ofString "Book", Str.ofString "PARTS"] (importedModules PySem.Challenge.rw_answersby_k85_entries_spread.row.prog.main.body) (fun s => xlAt Head7.view [] s && recOk PySem.Challenge.rw_answersby_k85_entries_spread.row.records s) s.abs, List.map (HeadRun.getT s) Head7.as_)) (HeadRun.endF (HeadRun.stepQ (HeadRun.denQ HeadRun.tabQ) PySem.Challenge.rw_answersby_k85_entries_spread.row.prog (w.withFollow "special-get-raises" true)) 14600 PySem.Challenge.rw_answersby_k85_entries_spread.row.prog (w.withFollow "special-get-raises" true) os) = some (true, openGood Head7.view [Str.ofString "KINDS", Str.ofString "MENUS", Str.ofString "Book", Str.ofString "PARTS"], List.map (fun x => some x.snd) (Head7.heap (w.withFollow "special-get-raises" true).params)) :=
  fun w os => Hq.fin _ _ (fun s : SharedT => (HeadRun.seenQ Head7.view [Str.ofString "KINDS", Str.ofString "MENUS", Str.ofString "Book", Str.ofString "PARTS"] (importedModules PySem.Challenge.rw_answersby_k85_entries_spread.row.prog.main.body) (fun s => xlAt Head7.view [] s && recOk PySem.Challenge.rw_answersby_k85_entries_spread.row.records s) s.abs)) (Hq.good5 _ _) (Hq.t0b w os) (Hq.t1b w os) (Hq.t2b w os) (Hq.t3b w os) (Hq.t4b w os)
end
/-! repr of data; defs that are called where no container is being shown -/
namespace Gk
open PySem L2 PySem.Spec PyProof.Rows

/-! ### a def's promise, kept where no list, tuple or dict is being shown -/
structure FnG (P : Program) (w : World) (K : PySem.W.Frag) (mg : Str → Option Value) (base : Heap) (CX : CXT) (k : Nat) (f : Addr) (fd : FuncData) (ps : List Str) (sp : Sp) : Prop where
  len : ∀ vs H Q E, sp vs H Q E → vs.length = ps.length
  go : ∀ (A : Around), A.guards = some [] → ∀ (outer : List Env) (s : Shared) (H : Hp) (args : Args) (us : List Value) (vs : List V) (Q : VK) (E : XK),
    Room k A → Env0 P w K mg base A outer s H → BindsTo s fd args (ps.zip us) → Vals vs us → sp vs H Q E → codeAny (model P w) A (.call (.ref f) args) (CR CX outer P w H s Q E) s

section
variable {P : Program} {w : World} {K : PySem.W.Frag} {mg : Str → Option Value} {base : Heap} {CX : CXT} {j k : Nat} {f : Addr} {fd : FuncData} {ps : List Str} {sp : Sp}
theorem FnG.up (F : FnG P w K mg base CX j f fd ps sp) (h : j ≤ k) : FnG P w K mg base CX k f fd ps sp :=
  ⟨F.len, fun A g outer s H args us vs Q E hr => F.go A g outer s H args us vs Q E (hr.mono h)⟩
end

section
variable {X : Cx} {CX : CXT} {k : Nat} {f : Addr} {fd : FuncData} {ps : List Str} {sp : Sp} {dvs : List V} {ds : List Value} {E : XK} {x : Str} {p pos : Pos} {e : Expr} {es : List Expr} {t : TA}
theorem runG {pins : List (Addr × Obj)} {σ : L2.St} {H : Hp} {s : Shared} {Q : VK} {us : List Value} {vs : List V} (F : FnG X.prog X.w X.K X.mg X.base CX k f fd ps sp) (g : X.A.guards = some [])
    (hr : Room k X.A) (hb : Binds X.K fd ps ds) (hd : Vals dvs ds) (hx : Passes CX X E) (I : Inv X pins σ H s) (r : Vals vs us) (h : sp (vs ++ dvs) H Q E) :
    wpAny (model X.prog X.w) X.A (call (.ref f) us) (EP X pins σ Q) X.xe s := by
  have rr := r.append hd
  have lens : (us ++ ds).length = ps.length := (rr.length).symm.trans (F.len _ _ _ _ h)
  have body := F.go X.A g X.stack s H ⟨us, []⟩ (us ++ ds) (vs ++ dvs) Q E hr I.env0 (hb s us I.kIn lens) rr h
  refine wpAny_call (codeAny_mono body ?_)
  intro res s' hres
  match res, hres with
  | .error e, z => exact hx pins σ H s e s' I z
  | .ok (.ret u), z => exact I.after z
  | .ok .next, z => exact z.elim
  | .ok .brk, z => exact z.elim
  | .ok .cont, z => exact z.elim
theorem pe_callG (F : FnG X.prog X.w X.K X.mg X.base CX k f fd ps sp) (g : X.A.guards = some []) (hr : Room k X.A) (hg : Gl X x) (hm : X.mg x = some (.ref f))
    (hk : PySem.W.keepIn X.K (.ref f) = true) (hb : Binds X.K fd ps ds) (hd : Vals dvs ds) (hx : Passes CX X E) (ha : PA X (e :: es) t)
    (hdb : (x == ("__debug__" : Str)) = false := by decide)
    (he : starEach (e :: es) X.env = (false, eval e X.env) :: starEach es X.env := by rfl)
    (hpl : (backTo pos (starEach es X.env)).any (·.1) = false := by rfl) :
    PE X (.Call (.Name x p) (e :: es) [] pos) (tCall sp dvs E t) := by
  refine ⟨fun pins s σ H Q I h => wpAny_Call_Name_kw (ld_glob I hg hm ?_ hdb)⟩
  have args := ha.run pos pins s σ H _ I h
  refine PySem.W.callWith_K (h₀ := X.base) I.ok.mod.kin hk (thn args ?_) he hpl
  rintro us s1 ⟨vs, H1, I1, r, q⟩
  exact ⟨I1.kIn, runG F g hr hb hd hx I1 r q⟩
end

/-! ### a def of the text, and the law's own call -/
section
variable {CX : CXT} {P : Program} {w : World} {K : PySem.W.Frag} {mg : Str → Option Value} {base : Heap}
theorem defG {k : Nat} {f : Addr} {x qual : Str} {st : Stmt} {fd : FuncData} {N ps : List Str} {sp : Sp}
    (F : Fun K x qual st f fd) (S : FnScope N ps (defScope st)) (len : ∀ vs H Q E, sp vs H Q E → vs.length = ps.length)
    (inner : ∀ (cd : Value) (A : Around), A.guards = some [] → ∀ (outer : List Env) (s : Shared) (H : Hp) (vs : List V) (Q : VK) (E : XK),
      Room k (A.deeper (envOfC qual (defScope st) s.heap.objs.size f cd)) → sp vs H Q E →
      ∃ t, PSs (cxOf CX P w K mg base N qual (defScope st) f cd A outer s H E) (defBody st) t ∧ t { nx := fun _ H' => Q .non H', rt := Q } (start N vs) H) :
    FnG P w K mg base CX (k + 1) f fd ps sp := by
  obtain ⟨oc, od, kV, doc, pm, an, cd, ct, osl, rfl, lk, hcd⟩ := F.ex
  refine ⟨len, ?_⟩
  intro A g outer s H args us vs Q E hr e0 hb r hsp
  have kept : ∀ b o, base.get? b = some o → s.heap.get? b = some o := fun b o z => (e0.bs b o z).1
  have KX : K.In s.heap := e0.mod.kin.keeps kept
  have lim : s.heap.NoLimit := e0.mod.nolimit.keeps kept
  have slots : ∀ y ∈ ps.zip us, (defScope st).names.lookup y.1 = some .local ∨
      ((defScope st).names.lookup y.1 = some .cell ∧ ((cellsFrom (s.heap.objs.size + 1) (defScope st).names []).lookup y.1).isSome = true) := by
    rintro ⟨n, v⟩ hy
    have hp := S.par n (List.of_mem_zip hy).1
    exact hp.imp id fun q => ⟨q, PySem.W.cellsFrom_some _ _ _ (.inl q)⟩
  refine codeAny_call_function hr.depth (KX _ _ lk) rfl S.co S.gen rfl (PySem.W.codeRec_of KX hcd) (hb _ _ _ _ ?_)
  refine wpAny_newFunctionEnv_cells S.kind slots ?_
  rintro env rfl s1 x
  refine ⟨lim.keeps x.toInCall.keep, codeAny_func ?_⟩
  obtain ⟨t, ht, hq⟩ := inner cd A g outer s H vs Q E (hr.deeper _) hsp
  have I := inv_start (CX := CX) (mg := mg) (E := E) S hr.hd e0 (len _ _ _ _ hsp) r x
  refine wpAny_mono (ht.run [] s1 (start N vs) H _ I hq) ?_ fun _ _ z => z
  intro fl s' hs
  match fl, hs with
  | .ret u, ⟨v, σ', H', J, rv, q⟩ => exact ⟨v, H', J.os, J.bare, J.base, J.hok, rv, q⟩
  | .next, ⟨σ', H', J, q⟩ => exact ⟨V.non, H', J.os, J.bare, J.base, J.hok, rfl, q⟩
  | .brk, ⟨_, _, _, q⟩ => exact q.elim
  | .cont, ⟨_, _, _, q⟩ => exact q.elim
/-- no exception leaves the def -/
theorem defG0 {k : Nat} {f : Addr} {x qual : Str} {st : Stmt} {fd : FuncData} {N ps : List Str} {sp : Sp}
    (F : Fun K x qual st f fd) (S : FnScope N ps (defScope st)) (len : ∀ vs H Q E, sp vs H Q E → vs.length = ps.length)
    (inner : ∀ (cd : Value) (A : Around), A.guards = some [] → ∀ (outer : List Env) (s : Shared) (H : Hp) (vs : List V) (Q : VK) (E : XK),
      Room k (A.deeper (envOfC qual (defScope st) s.heap.objs.size f cd)) → sp vs H Q E →
      ∃ t, PSs (cxOf CX0 P w K mg base N qual (defScope st) f cd A outer s H E).nox (defBody st) t ∧ t { nx := fun _ H' => Q .non H', rt := Q } (start N vs) H) :
    FnG P w K mg base CX0 (k + 1) f fd ps sp :=
  defG F S len fun cd A g outer s H vs Q E hr h => let ⟨t, a, b⟩ := inner cd A g outer s H vs Q E hr h; ⟨t, a.nox, b⟩
end

/-! ### repr -/
section
variable {X : Cx}
def rRepr (K : PySem.W.Frag) : List V → Hp → VK → Prop := fun xs H Q =>
  ∃ v d, xs = [v] ∧ Dp K H v d ∧ d.showable = true ∧ d.hasDict = false ∧ d.depth ≤ 60 ∧ d.shown.length ≤ sizeLine ∧ Q (.str d.shown) H
theorem call_reprD (hg : X.A.guards = some []) (hu : X.A.units + 64 < cLine) : CallR X (.builtin "repr") (rRepr X.K) := by
  intro pins s σ H xs us Q I r h
  obtain ⟨v, d, rfl, hd, h1, h2, h3, h4, q⟩ := h
  obtain ⟨u, rfl, ru⟩ := vals1 r
  obtain ⟨as, rd⟩ := Dp.reads I d v u hd ru
  have out : ∀ h' u' tk, (∀ b o, s.heap.get? b = some o → h'.get? b = some o) → EP X pins σ Q (.str d.shown u') { s with heap := h', toks := tk } :=
    fun h' u' tk hk => ⟨.str d.shown, H, I.kept hk, ⟨u', rfl⟩, q⟩
  cases rd with
  | none => exact P.repr_of_none (by simpa only [PyData.shown] using out s.heap s.toks (s.toks + 1) fun _ _ z => z)
  | bool b => exact P.repr_of_bool (by simpa only [PyData.shown] using out s.heap s.toks (s.toks + 1) fun _ _ z => z)
  | int i t => exact P.repr_of_int (by simpa [PyData.showable] using h1) (by simpa only [PyData.shown] using out s.heap _ _ fun _ _ z => z)
  | str x t => exact P.repr_of_str (by simpa only [PyData.shown] using out s.heap _ _ fun _ _ z => z) (by simpa only [PyData.shown] using h4)
  | list a1 a2 a3 a4 => exact repr_of_reads' (.list a1 a2 a3 a4) h1 (fun z => by rw [h2] at z; cases z) hg (by omega) (fun _ _ z => z) out h4
  | tuple a1 a2 a3 a4 => exact repr_of_reads' (.tuple a1 a2 a3 a4) h1 (fun z => by rw [h2] at z; cases z) hg (by omega) (fun _ _ z => z) out h4
  | dict a1 a2 a3 a4 a5 => simp [PyData.hasDict] at h2
end
end Gk
/-! the law's own call, by a promise of the kind FnG -/
namespace Gk
open PySem L2 PySem.Spec PyProof.Rows
abbrev AllTrue (s₁ : Shared) (r : Result) (s' : Shared) : Prop := r = .ok (.ret (.bool true)) ∧ OldK s₁.heap s'.heap ∧ s'.os = s₁.os ∧ AllBare s'.gens
section
variable {P : Program} {w : World} {K : PySem.W.Frag} {mg mb : Str → Option Value} {k : Nat} {fa a : Addr} {fd : FuncData} {x : Str} {sp : Sp} {s₁ : Shared} {vs : List Value} {ns : List Int}
/-- what is hidden by H stands at a alone, and that is the script's list -/
structure Hid (K : PySem.W.Frag) (s₁ : Shared) (a : Addr) (vs : List Value) (H : Hp) : Prop where
  only : Only H
  at_a : ∀ b, H b ≠ none → b = a
  new : H a ≠ none → K.lookup a = none
  scr : s₁.heap.get? a = some { cls := .type "list", data := .seq vs.toArray }
theorem Hid.free {H : Hp} (h : Hid K s₁ a vs H) {b : Addr} {o : Obj} (e : s₁.heap.get? b = some o) (hd : ∀ z n, o.data ≠ .seq z n) : H b = none := by
  cases q : H b with
  | none => rfl
  | some u =>
    obtain rfl : b = a := h.at_a b (by simp [q])
    rw [h.scr] at e
    cases e
    exact absurd rfl (hd _ _)
theorem Hid.nsp {H : Hp} (h : Hid K s₁ a vs H) {b : Addr} {m : Str → Option Value} : s₁.heap.Ns b m → (hidT s₁.heap H).Ns b m := by
  rintro ⟨o, es, ep, e, d, r⟩
  exact ⟨o, es, ep, hidT_get e (h.free e fun z n q => by rw [d] at q; cases q), d, r⟩
theorem Hid.kin {H : Hp} (h : Hid K s₁ a vs H) (KX : K.In s₁.heap) : K.In (hidT s₁.heap H) := by
  intro b o e
  refine hidT_get (KX b o e) ?_
  cases q : H b with
  | none => rfl
  | some u =>
    obtain rfl : b = a := h.at_a b (by simp [q])
    rw [h.new (by simp [q])] at e
    cases e
theorem run_law {H : Hp} (h : Hid K s₁ a vs H) (KX : K.In s₁.heap) (hns : s₁.heap.Ns mainGlobals mg) (hb : s₁.heap.Ns builtinsNs mb) (hbb : ∀ x : Str, x ≠ "__name__" → mb x = bootBuiltins x) (hlim : s₁.heap.NoLimit)
    (hg : s₁.gens = #[]) (hr : Room k callerA) (F : ∀ base : Heap, K.In base → base.Ns mainGlobals mg → FnG P w K mg base CX0 k fa fd [x] sp)
    (hbind : ∀ (s : Shared) (u : Value), BindsTo s fd ⟨[u], []⟩ [(x, u)]) (hok : HOk P w H s₁.heap) (hsp : sp [.ref a] H (fun v _ => v = .bl true) fun _ _ _ => False) :
    codeAny (model P w) callerA (.call (.ref fa) ⟨[.ref a], []⟩) (AllTrue s₁) s₁ := by
  obtain ⟨mc, l1, l2⟩ := hlim
  have md : Mod K mg (hidT s₁.heap H) := ⟨h.kin KX, h.nsp hns, ⟨mb, h.nsp hb, hbb⟩, ⟨mc, h.nsp l1, l2⟩⟩
  have ev : Env0 P w K mg (hidT s₁.heap H) callerA [] s₁ H :=
    ⟨rfl, md, fun b o e => of_hidT e, Nat.le_of_eq (hidT_size _ _), trivial, fun b hb => (List.not_mem_nil hb).elim, hok, .of_eq hg⟩
  have go := (F _ (h.kin KX) (h.nsp hns)).go callerA rfl [] s₁ H ⟨[.ref a], []⟩ [.ref a] [.ref a] _ _ hr ev (hbind s₁ (.ref a)) (.cons rfl .nil) hsp
  refine codeAny_mono go ?_
  intro res s' hres
  match res, hres with
  | .error e, z => exact z.elim
  | .ok .next, z => exact z.elim
  | .ok .brk, z => exact z.elim
  | .ok .cont, z => exact z.elim
  | .ok (.ret u), ⟨v, H', os, bare, un, hok', rv, q⟩ =>
    obtain rfl : v = .bl true := q
    obtain rfl : u = Value.bool true := rv
    refine ⟨rfl, OldK.of_keep ?_, os, bare⟩
    intro b o e
    rcases h.only b with z | ⟨ob, xs, z⟩
    · exact un.keep b o e z (fun m => (List.not_mem_nil m).elim) (fun m => (List.not_mem_nil m).elim)
    · obtain ⟨e1, _⟩ := hok b _ z
      obtain ⟨e2, _⟩ := hok' b _ (un.frzs b ob _ z)
      rw [e] at e1
      cases e1
      exact e2
theorem law_callG (KX : K.In s₁.heap) (hns : s₁.heap.Ns mainGlobals mg) (hb : s₁.heap.Ns builtinsNs mb) (hbb : ∀ x : Str, x ≠ "__name__" → mb x = bootBuiltins x) (hlim : s₁.heap.NoLimit) (hg : s₁.gens = #[])
    (scr : s₁.heap.get? a = some { cls := .type "list", data := .seq vs.toArray }) (hi : IntsAre vs ns) (hl : ns.length ≤ sizeLine) (hr : Room k callerA)
    (F : ∀ base : Heap, K.In base → base.Ns mainGlobals mg → FnG P w K mg base CX0 k fa fd [x] sp) (hbind : ∀ (s : Shared) (u : Value), BindsTo s fd ⟨[u], []⟩ [(x, u)])
    (hsp : ∀ H : Hp, Only H → SqL K H a (ns.map V.int) → sp [.ref a] H (fun v _ => v = .bl true) fun _ _ _ => False) :
    codeAny (model P w) callerA (.call (.ref fa) ⟨[.ref a], []⟩) (AllTrue s₁) s₁ := by
  have rv := vals_ints hi
  cases hk : K.lookup a with
  | some o =>
    have e := KX a o hk
    rw [scr] at e
    cases e
    have on : Only (fun _ => none) := fun _ => .inl rfl
    refine run_law (H := fun _ => none) ⟨on, fun b z => absurd rfl z, fun z => absurd rfl z, scr⟩ KX hns hb hbb hlim hg hr F hbind (fun b u z => nomatch z) (hsp _ on ?_)
    exact .inr ⟨_, vs.toArray, _, hk, rfl, rfl, rfl, by rw [List.size_toArray, hi.length]; exact hl, by simpa using rv⟩
  | none =>
    let L : HO := .frz { cls := .type "list", data := .seq vs.toArray } (.lst (ns.map V.int))
    have la : (fun b => if b = a then some L else none : Hp) a = some L := if_pos rfl
    have on : Only (fun b => if b = a then some L else none) := by
      intro b
      by_cases hb : b = a
      · exact .inr ⟨_, _, if_pos hb⟩
      · exact .inl (if_neg hb)
    refine run_law ⟨on, fun b z => ?_, fun _ => hk, scr⟩ KX hns hb hbb hlim hg hr F hbind (fun b u z => ?_) (hsp _ on (.inl (.inr ⟨_, la⟩)))
    · by_cases hb : b = a
      · exact hb
      · exact absurd (if_neg hb) z
    · by_cases hb : b = a
      · subst hb
        have z' := la.symm.trans z
        cases z'
        exact ⟨scr, by rw [List.length_map]; exact hl, vs, _, rv, scr⟩
      · have z' := (if_neg hb).symm.trans z
        cases z'
end
theorem walkG {l : PySem.W.OpenLaw} {n k : Nat} {q : Program} {loose : List Str} {XP : (Str → Option Value) → Heap → Prop} {YP : World → Heap → Prop} {d : DefRec} {K : Params → PySem.W.Frag} {sp : World → Sp} {x : Str}
    (hn : l.most = some n) (hn2 : n ≤ sizeLine) (hdf : d.params.defaults = []) (hr : Room k callerA) (hY : ∀ (w : World) (h : Heap), YP w h → (K w.params).In h)
    (F : ∀ (w : World) (mg : Str → Option Value) (fa : Addr) (h : Heap), (K w.params).In h → h.Ns mainGlobals mg → mg d.name = some (.ref fa) →
      ∃ fd : FuncData, (∀ (s : Shared) (u : Value), BindsTo s fd ⟨[u], []⟩ [(x, u)]) ∧
        ∀ base : Heap, (K w.params).In base → base.Ns mainGlobals mg → FnG l.prog w (K w.params) mg base CX0 k fa fd [x] (sp w))
    (hsp : ∀ (w : World) (H : Hp) (a : Addr) (ns : List Int), ns.length ≤ n → Only H → SqL (K w.params) H a (ns.map V.int) → sp w [.ref a] H (fun v _ => v = .bl true) fun _ _ _ => False) :
    PySem.W.WalkO q loose XP YP l.row.toRowW d [] (fun f vs => PySem.call f vs) := by
  refine Att.attach_call hn hdf ?_
  intro w s₀ s₁ mg mb fa o pm cd doc a vs ns G Y ho hd hcd hmg hobj hints hlen hg
  obtain ⟨fd, hb, hF⟩ := F w mg fa _ (hY w _ Y) G.T.g hmg
  exact law_callG (hY w _ Y) G.T.g G.T.b G.T.builtins G.T.nolimit hg hobj hints (Nat.le_trans hlen hn2) hr hF hb fun H hO hS => hsp w H a ns hlen hO hS
end Gk
namespace Gk
open PySem L2 PySem.Spec PyProof.Rows
/-- a def of the module's top, by its name, with its promise -/
def CalG (P : Program) (w : World) (K : PySem.W.Frag) (mg : Str → Option Value) (base : Heap) (k : Nat) (x : Str) (sp : Sp) : Prop :=
  ∃ (f : Addr) (fd : FuncData) (ps : List Str), FnG P w K mg base CX0 k f fd ps sp ∧ mg x = some (.ref f) ∧ PySem.W.keepIn K (.ref f) = true ∧ Binds K fd ps []
/-- a def as the top has left it -/
def DefAt (K : PySem.W.Frag) (mg : Str → Option Value) (x : Str) (st : Stmt) (ps : List Str) : Prop :=
  ∃ (f : Addr) (fd : FuncData), mg x = some (.ref f) ∧ Fun K x x st f fd ∧ Binds K fd ps []
theorem defAt {K : PySem.W.Frag} {h : Heap} {mg : Str → Option Value} {x : Str} {st : Stmt} {ps : List Str} {f : Addr} {oc : Value} {od an : Option Addr} {osl : Array (Option Value)} {kV doc pm cdv ct : Value} (X : K.In h) (G : h.Ns mainGlobals mg)
    (hb : ∀ (kV doc pm : Value) (an : Option Addr) (cdv ct : Value) (us : List Value), us.length = ps.length → bindArgs (PySem.W.fnOf x x (defArgs st) (defBody st) (defScope st) .none kV doc pm an cdv ct) ⟨us, []⟩ = pure (ps.zip us))
    (a : PySem.W.nsIn K mainGlobals x = some (some (.ref f)))
    (l : K.lookup f = some ⟨oc, od, .func (PySem.W.fnOf x x (defArgs st) (defBody st) (defScope st) .none kV doc pm an cdv ct), osl⟩)
    (c : PySem.W.codeIn K cdv x = true) (k : PySem.W.keepIn K (.ref f) = true) : DefAt K mg x st ps :=
  ⟨f, _, PySem.W.mg_of X G a, fun_mk l c k, (fun_mk (st := st) l c k).binds hb⟩
section
variable {P : Program} {w : World} {K : PySem.W.Frag} {mg : Str → Option Value} {base : Heap}
/-- a def by its body -/
theorem DefAt.by {x : Str} {st : Stmt} {ps N : List Str} {k : Nat} {sp : Sp} (D : DefAt K mg x st ps) (S : FnScope N ps (defScope st)) (len : ∀ vs H Q E, sp vs H Q E → vs.length = ps.length)
    (inner : ∀ (f : Addr) (cd : Value) (A : Around), A.guards = some [] → ∀ (outer : List Env) (s : Shared) (H : Hp) (vs : List V) (Q : VK) (E : XK),
      Room k (A.deeper (envOfC x (defScope st) s.heap.objs.size f cd)) → sp vs H Q E →
      ∃ t, PSs (cxOf CX0 P w K mg base N x (defScope st) f cd A outer s H E).nox (defBody st) t ∧ t { nx := fun _ H' => Q .non H', rt := Q } (start N vs) H) :
    CalG P w K mg base (k + 1) x sp := by
  obtain ⟨f, fd, hm, F, hb⟩ := D
  exact ⟨f, fd, ps, defG0 F S len (inner f), hm, F.kp, hb⟩
end
section
variable {X : Cx} {k j : Nat} {sp : Sp} {x : Str} {p pos : Pos} {e : Expr} {es : List Expr} {t : TA}
theorem pe_cG (c : CalG X.prog X.w X.K X.mg X.base k x sp) (g : X.A.guards = some []) (hr : Room j X.A) (hk : k ≤ j) (ha : PA X (e :: es) t) (hg : Gl X x := by rfl)
    (hdb : (x == ("__debug__" : Str)) = false := by decide) (he : starEach (e :: es) X.env = (false, eval e X.env) :: starEach es X.env := by rfl)
    (hpl : (backTo pos (starEach es X.env)).any (·.1) = false := by rfl) : PE X (.Call (.Name x p) (e :: es) [] pos) (tCall sp [] E0 t) := by
  obtain ⟨f, fd, ps, F, hm, hkp, hb⟩ := c
  exact pe_callG F g (hr.mono hk) hg hm hkp hb .nil pass0 ha hdb he hpl
end
end Gk
/-! readings, one construct a lemma: what a term of the layer asks, from the value -/
namespace Rd
open PySem L2 PySem.Spec PyProof.Rows Gk
section
variable {K : PySem.W.Frag} {σ : L2.St} {H : Hp} {Q : VK} {QA : List V → Hp → Prop} {QB : Bool → Hp → Prop} {QH : Hp → Prop} {D : Ends} {i j : Int} {n : Nat} {v x y : V} {ta tb te : TE} {tt tu : TT} {t u : TS} {as ar : TA} {p q : Addr} {xs ys : List V} {z s : Str} {b c : Bool}
theorem var (h : σ[n]? = some (some v)) (k : Q v H) : tVar n σ H Q := ⟨v, h, k⟩
theorem cst (k : Q v H) : tC v σ H Q := k
theorem op {r : R2} (k : ta σ H fun x H1 => tb σ H1 fun y H2 => r x y H2 Q) : tOp r ta tb σ H Q := k
theorem un {r : V → Hp → VK → Prop} (k : ta σ H fun x H1 => r x H1 Q) : tUn r ta σ H Q := k
theorem i0 {g : Int → Int → V} (k : Q (g i j) H) : rI0 g (.int i) (.int j) H Q := ⟨i, j, rfl, rfl, k⟩
theorem ic {C : Int → Int → Prop} {g : Int → Int → V} (h : C i j) (k : Q (g i j) H) : rI C g (.int i) (.int j) H Q := ⟨i, j, rfl, rfl, h, k⟩
theorem u1 {g : Int → V} (k : Q (g i) H) : rU g (.int i) H Q := ⟨i, rfl, k⟩
theorem eq (h : scal x y = true) (k : Q (.bl (decide (x = y))) H) : rEq x y H Q := ⟨h, k⟩
theorem ne (h : scal x y = true) (k : Q (.bl (!decide (x = y))) H) : rNe x y H Q := ⟨h, k⟩
theorem ixL (h : SqL K H p xs) (a : atI xs i = some v) (k : Q v H) : rIxL K (.ref p) (.int i) H Q := ⟨p, xs, i, v, rfl, rfl, h, a, k⟩
theorem ixT (h : SqT K H p xs) (a : atI xs i = some v) (k : Q v H) : rIxT K (.ref p) (.int i) H Q := ⟨p, xs, i, v, rfl, rfl, h, a, k⟩
theorem ixS {m : Nat} (h : z.length ≤ sizeLine) (a : atI z.cps.toList i = some m) (k : Q (.str ⟨#[m]⟩) H) : rIxS (.str z) (.int i) H Q := ⟨z, i, m, rfl, rfl, h, a, k⟩
theorem setL {m : Nat} (h : H p = some (.lst xs)) (a : ixN xs.length i = some m) (k : QH (upd H p (.lst (xs.set m v)))) : rSetL (.ref p) (.int i) v H QH := ⟨p, xs, i, m, rfl, rfl, h, a, k⟩
theorem inL {neg : Bool} (h : SqL K H p xs) (hx : flatV x = true) (ha : xs.all flatV = true) (k : Q (.bl (if neg then !inV x xs else inV x xs)) H) : rIn K neg x (.ref p) H Q := ⟨p, xs, rfl, .inl h, hx, ha, k⟩
theorem slL {lo hi : Option Int} (h : SqL K H p xs) (k : ∀ q, H q = none → Q (.ref q) (upd H q (.lst (cutV xs lo hi)))) : rSlL K (.ref p) lo hi H Q := ⟨p, xs, rfl, h, k⟩
theorem slS {lo hi : Option Int} (h : z.length ≤ sizeLine) (k : Q (.str (cutS z lo hi)) H) : rSlS (.str z) lo hi H Q := ⟨z, rfl, h, k⟩
theorem cat (h : H p = some (.lst xs)) (h' : H q = some (.lst ys)) (l : xs.length + ys.length ≤ sizeLine) (k : ∀ r, H r = none → Q (.ref r) (upd H r (.lst (xs ++ ys)))) : rCat (.ref p) (.ref q) H Q := ⟨p, q, xs, ys, rfl, rfl, h, h', l, k⟩
theorem sl {r : V → Option Int → Option Int → Hp → VK → Prop} {tl th : TO} (k : te σ H fun x H1 => tl σ H1 fun l H2 => th σ H2 fun u H3 => r x l u H3 Q) : tSl r te tl th σ H Q := k
theorem noPart {QO : Option Int → Hp → Prop} (k : QO none H) : tNoPart σ H QO := k
theorem part {QO : Option Int → Hp → Prop} (k : te σ H fun x H1 => ∃ i, x = .int i ∧ QO (some i) H1) : tPart te σ H QO := k
theorem int_ {R : Int → Prop} (k : R i) : ∃ i', V.int i = .int i' ∧ R i' := ⟨i, rfl, k⟩
theorem bl_ {R : Bool → Prop} (k : R b) : ∃ c, V.bl b = .bl c ∧ R c := ⟨b, rfl, k⟩
theorem nil (k : QA [] H) : tNil σ H QA := k
theorem cons (k : te σ H fun x H1 => ar σ H1 fun xs H2 => QA (x :: xs) H2) : tCons te ar σ H QA := k
theorem cb {r : List V → Hp → VK → Prop} (k : as σ H fun vs H1 => r vs H1 Q) : tCB r as σ H Q := k
theorem call {sp : Sp} {dvs : List V} {E : XK} (k : as σ H fun vs H1 => sp (vs ++ dvs) H1 Q E) : tCall sp dvs E as σ H Q := k
theorem lst (k : as σ H fun xs H1 => xs.length ≤ sizeLine ∧ ∀ p, H1 p = none → Q (.ref p) (upd H1 p (.lst xs))) : tLst as σ H Q := k
theorem tup (k : as σ H fun xs H1 => xs.length ≤ sizeLine ∧ ∀ p, H1 p = none → Q (.ref p) (upd H1 p (.tup xs))) : tTup as σ H Q := k
theorem test (k : te σ H fun x H' => ∃ k, x = .bl k ∧ QB k H') : tTest te σ H QB := k
theorem tb_ (k : te σ H fun x H' => ∃ k, x = .bl k ∧ QB k H') : tB te σ H QB := k
theorem not_ (k : tt σ H fun c H1 => QB (!c) H1) : tNot tt σ H QB := k
theorem or_ (k : tt σ H fun c H1 => if c = true then QB true H1 else tu σ H1 QB) : tOr tt tu σ H QB := k
theorem and_ (k : tt σ H fun c H1 => if c = true then tu σ H1 QB else QB false H1) : tAnd tt tu σ H QB := k
theorem orV (k : ta σ H fun x H1 => ∃ c, x = .bl c ∧ if c = true then Q (.bl true) H1 else tb σ H1 Q) : tOrV ta tb σ H Q := k
theorem andV (k : ta σ H fun x H1 => ∃ c, x = .bl c ∧ if c = true then tb σ H1 Q else Q (.bl false) H1) : tAndV ta tb σ H Q := k
theorem notV (k : ta σ H fun x H1 => ∃ c, x = .bl c ∧ Q (.bl (!c)) H1) : tNotV ta σ H Q := k
theorem tif (k : tt σ H fun c H1 => if c = true then ta σ H1 Q else tb σ H1 Q) : tIf tt ta tb σ H Q := k
theorem yes (k : QB true H) : tYes σ H QB := k
theorem next (k : D.nx σ H) : tNext D σ H := k
theorem seq (k : t { D with nx := u D } σ H) : tSeq t u D σ H := k
theorem drop (k : te σ H fun _ H1 => D.nx σ H1) : tDrop te D σ H := k
theorem ret (k : te σ H D.rt) : tRet te D σ H := k
theorem retN (k : D.rt .non H) : tRetN D σ H := k
theorem ifs (k : tt σ H fun b H1 => if b = true then t D σ H1 else u D σ H1) : tIfS tt t u D σ H := k
theorem asg {g : TG} (k : te σ H fun x H1 => g x σ H1 D.nx) : tAsg te g D σ H := k
theorem gname {QS : L2.St → Hp → Prop} (k : QS (σ.set n (some v)) H) : gName n v σ H QS := k
theorem gsub {QS : L2.St → Hp → Prop} {st : V → V → V → Hp → (Hp → Prop) → Prop} (k : ta σ H fun o H1 => tb σ H1 fun i H2 => st o i v H2 fun H3 => QS σ H3) : gSub ta tb st v σ H QS := k
theorem par {m l : Nat} (k : as σ H fun vs H1 => ∃ v w, vs = [v, w] ∧ D.nx ((σ.set m (some v)).set l (some w)) H1) : tPar m l as D σ H := k
theorem bm {T : String} {r : V → List V → Hp → VK → Prop} (k : te σ H fun x H1 => tyV K T x H1 ∧ as σ H1 fun xs H2 => r x xs H2 Q) : tBM K T r te as σ H Q := k
theorem bm0 {T : String} {r : V → List V → Hp → VK → Prop} (k : te σ H fun x H1 => tyV K T x H1 ∧ r x [] H1 Q) : tBM0 K T r te σ H Q := k
theorem app (h : H p = some (.lst xs)) (l : xs.length < sizeLine) (k : Q .non (upd H p (.lst (xs ++ [v])))) : rAppend (.ref p) [v] H Q := ⟨p, xs, v, rfl, rfl, h, l, k⟩
theorem ty_list (h : H p = some (.lst xs)) : tyV K "list" (.ref p) H := .inl ⟨rfl, xs, SqL.of h⟩
theorem int1 {R : Int → Prop} {R2 : Bool → Prop} (k : R i) : (∃ j, [V.int i] = [.int j] ∧ R j) ∨ ∃ k, [V.int i] = [.bl k] ∧ R2 k := .inl ⟨i, rfl, k⟩
theorem intB {R : Int → Prop} {R2 : Bool → Prop} (k : R2 b) : (∃ j, [V.bl b] = [.int j] ∧ R j) ∨ ∃ k, [V.bl b] = [.bl k] ∧ R2 k := .inr ⟨b, rfl, k⟩
theorem two {R : Int → Int → Prop} (k : R i j) : ∃ i' j', [V.int i, .int j] = [.int i', .int j'] ∧ R i' j' := ⟨i, j, rfl, k⟩
theorem one {R : Int → Prop} (k : R i) : ∃ i', [V.int i] = [.int i'] ∧ R i' := ⟨i, rfl, k⟩
theorem lenL {R : List V → Prop} (h : SqL K H p xs) (k : R xs) : ∃ p' ys, [V.ref p] = [.ref p'] ∧ (SqL K H p' ys ∨ SqT K H p' ys) ∧ R ys := ⟨p, xs, rfl, .inl h, k⟩
theorem lenS {R : Str → Prop} (h : z.length ≤ sizeLine) (k : R z) : ∃ z', [V.str z] = [.str z'] ∧ z'.length ≤ sizeLine ∧ R z' := ⟨z, rfl, h, k⟩
theorem andr {R : Prop} (k : R) : x = x ∧ R := ⟨rfl, k⟩
theorem str_ {R : Str → Prop} (k : R z) : ∃ c, V.str z = .str c ∧ R c := ⟨z, rfl, k⟩
theorem dec {c A B : Prop} [Decidable c] (h1 : c → A) (h2 : ¬ c → B) : if decide c = true then A else B := by
  by_cases h : c
  · rw [decide_eq_true h]; exact h1 h
  · rw [decide_eq_false h, if_neg Bool.false_ne_true]; exact h2 h
theorem ndec {c A B : Prop} [Decidable c] (h1 : ¬ c → A) (h2 : c → B) : if (!decide c) = true then A else B := by
  by_cases h : c
  · rw [decide_eq_true h]; exact h2 h
  · rw [decide_eq_false h]; exact h1 h
theorem tt_ {A B : Prop} (h : A) : if true = true then A else B := h
theorem ff_ {A B : Prop} (h : B) : if false = true then A else B := iteF h
theorem bool {b : Bool} {A B : Prop} (h1 : b = true → A) (h2 : b = false → B) : if b = true then A else B := by
  cases b with
  | true => exact h1 rfl
  | false => rw [if_neg Bool.false_ne_true]; exact h2 rfl
theorem fm {i m : Int} (m0 : 0 < m) : 0 ≤ i.fmod m ∧ i.fmod m < m := by
  rw [Int.fmod_eq_emod_of_nonneg i (Int.le_of_lt m0)]
  exact ⟨Int.emod_nonneg i (by omega), Int.emod_lt_of_pos i m0⟩
theorem atN {α : Type} {xs : List α} {i : Int} {v : α} (h0 : 0 ≤ i) (h : xs[i.toNat]? = some v) : atI xs i = some v := by
  have e : ((i.toNat : Nat) : Int) = i := Int.toNat_of_nonneg h0
  rw [← e]
  exact atI_nat h
theorem at0 {α : Type} {xs : List α} {v : α} : atI (v :: xs) 0 = some v := atN (Int.le_refl 0) rfl
theorem at_int {ns : List Int} {i : Int} (h0 : 0 ≤ i) (h : i < ((ns.map V.int).length : Int)) : ∃ c, atI (ns.map V.int) i = some (.int c) := by
  rw [List.length_map] at h
  have hk : i.toNat < ns.length := by omega
  exact ⟨ns[i.toNat], atN h0 (by simp [hk])⟩
theorem sz {n : Nat} (h : n ≤ 100000) : n ≤ sizeLine := Nat.le_trans h (by decide)
theorem szl {n : Nat} (h : n < 100000) : n < sizeLine := Nat.lt_of_lt_of_le h (by decide)
end
section
variable {X : Cx}
def rLenK (K : PySem.W.Frag) : List V → Hp → VK → Prop := fun xs H Q => ∃ p ys, xs = [.ref p] ∧ (SqL K H p ys ∨ SqT K H p ys) ∧ Q (.int ys.length) H
theorem callLen : CallR X (.builtin "len") (rLenK X.K) := call_len_seq
def rListK (K : PySem.W.Frag) : List V → Hp → VK → Prop := fun xs H Q => ∃ p ys, xs = [.ref p] ∧ (SqL K H p ys ∨ SqT K H p ys) ∧ ∀ l, H l = none → Q (.ref l) (upd H l (.lst ys))
theorem callList : CallR X (.type "list") (rListK X.K) := call_list_of
def tTru (K : PySem.W.Frag) (ta : TE) : TT := fun σ H Q => ta σ H fun x H' => ∃ k, TruV K x H' k ∧ Q k H'
theorem ptTru {K : PySem.W.Frag} {e : Expr} {ta : TE} (h : X.K = K) (p : PT X e fun σ H Q => ta σ H fun x H' => ∃ k, TruV X.K x H' k ∧ Q k H') : PT X e (tTru K ta) := by
  subst h
  exact p
variable {K : PySem.W.Frag} {σ : L2.St} {H : Hp} {Q : VK} {QB : Bool → Hp → Prop} {p : Addr} {xs : List V} {ta : TE}
theorem lenK (h : SqL K H p xs) (k : Q (.int xs.length) H) : rLenK K [.ref p] H Q := ⟨p, xs, rfl, .inl h, k⟩
theorem lenT (h : SqT K H p xs) (k : Q (.int xs.length) H) : rLenK K [.ref p] H Q := ⟨p, xs, rfl, .inr h, k⟩
theorem listK (h : SqL K H p xs) (k : ∀ l, H l = none → Q (.ref l) (upd H l (.lst xs))) : rListK K [.ref p] H Q := ⟨p, xs, rfl, .inl h, k⟩
theorem tru (k : ta σ H fun x H' => ∃ k, TruV K x H' k ∧ QB k H') : tTru K ta σ H QB := k
theorem truL {R : Bool → Prop} (h : SqL K H p xs) (k : R (!xs.isEmpty)) : ∃ k, TruV K (.ref p) H k ∧ R k := ⟨_, .inl ⟨xs, h, rfl⟩, k⟩
theorem any_ {bs : List Bool} (h : SqL K H p (bs.map V.bl)) (k : Q (.bl (bs.any id)) H) : rAny K [.ref p] H Q := ⟨p, bs, rfl, h, k⟩
theorem all_ {bs : List Bool} (h : SqL K H p (bs.map V.bl)) (k : Q (.bl (bs.all id)) H) : rAll K [.ref p] H Q := ⟨p, bs, rfl, h, k⟩
theorem repr_ {v : V} {d : PyData} (h : Dp K H v d) (h1 : d.showable = true) (h2 : d.hasDict = false) (h3 : d.depth ≤ 60) (h4 : d.shown.length ≤ sizeLine) (k : Q (.str d.shown) H) : rRepr K [v] H Q := ⟨v, d, rfl, h, h1, h2, h3, h4, k⟩
theorem eqD {x y : V} {d e : PyData} (hd : Dp K H x d) (he : Dp K H y e) (h1 : SeqAt.shaped d = true) (h2 : SeqAt.shaped e = true) (k : Q (.bl (PyData.eqv d e)) H) : rEqD K x y H Q := ⟨d, e, hd, he, h1, h2, k⟩
theorem neD {x y : V} {d e : PyData} (hd : Dp K H x d) (he : Dp K H y e) (h1 : SeqAt.shaped d = true) (h2 : SeqAt.shaped e = true) (k : Q (.bl (!PyData.eqv d e)) H) : rNeD K x y H Q := ⟨d, e, hd, he, h1, h2, k⟩
end
end Rd
set_option Elab.async false
set_option linter.all false
set_option maxRecDepth 100000
set_option maxHeartbeats 8000000
open PySem L2 Gk
local macro_rules | `(tactic| walk_at "look") => `(tactic| first
  | assumption
  | exact upd_same
  | exact SqL.of (by assumption)
  | exact SqL.of upd_same)
local macro_rules | `(tactic| walk_at "cond") => `(tactic| first | decide | (show _ ∨ _; right; split <;> decide) | (show _ ∧ _; constructor <;> omega) | (show _ ∨ _; left; constructor <;> omega) | (show _ ∨ _; right; constructor <;> omega) | (show _ ≠ _; omega) | (show _ < _; omega))
local macro_rules | `(tactic| walk_at "rd") => `(tactic| (with_reducible first
  | refine Rd.var rfl ?_ | refine Rd.cst ?_ | refine Rd.op ?_ | refine Rd.un ?_ | refine Rd.i0 ?_ | refine Rd.u1 ?_ | refine Rd.cons ?_ | refine Rd.nil ?_
  | refine Rd.seq ?_ | refine Rd.ifs ?_ | refine Rd.asg ?_ | refine Rd.gname ?_ | refine Rd.gsub ?_ | refine Rd.ret ?_ | refine Rd.retN ?_ | refine Rd.drop ?_ | refine Rd.next ?_
  | refine Rd.test ?_ | refine Rd.tb_ ?_ | refine Rd.not_ ?_ | refine Rd.or_ ?_ | refine Rd.and_ ?_ | refine Rd.orV ?_ | refine Rd.andV ?_ | refine Rd.notV ?_ | refine Rd.tif ?_ | refine Rd.yes ?_
  | refine Rd.cb ?_ | refine Rd.call ?_ | refine Rd.sl ?_ | refine Rd.noPart ?_ | refine Rd.part ?_ | refine Rd.int_ ?_ | refine Rd.bl_ ?_
  | refine Rd.eq rfl ?_ | refine Rd.ne rfl ?_ | refine Rd.lst ?_ | refine Rd.tup ?_ | refine Rd.par ?_ | refine Rd.bm ?_ | refine Rd.bm0 ?_
  | refine Rd.int1 ?_ | refine Rd.intB ?_ | refine Rd.two ?_ | refine Rd.one ?_ | refine Rd.andr ?_ | refine Rd.str_ ?_
  | (refine Rd.ic ?k1 ?_; (case k1 => with_unfolding_all walk_at "cond"))
  | (refine' Rd.ixL ?k1 ?k2 ?_; (case k1 => with_unfolding_all walk_at "look"); (case k2 => with_unfolding_all (first | rfl | exact Rd.at0)))
  | (refine' Rd.setL ?k1 ?k2 ?_; (case k1 => with_unfolding_all walk_at "look"); (case k2 => with_unfolding_all rfl))
  | (refine' Rd.lenL ?k1 ?_; (case k1 => with_unfolding_all walk_at "look"))
  | (refine' Rd.lenK ?k1 ?_; (case k1 => with_unfolding_all walk_at "look"))
  | refine Rd.tru ?_ | (refine' Rd.truL ?k1 ?_; (case k1 => with_unfolding_all walk_at "look"))))
namespace Rd
open PySem.Spec PyProof.Rows
section
variable {K : PySem.W.Frag} {σ : L2.St} {H H' : Hp} {α β : Type}
theorem sNew {p : Addr} {o : HO} (hp : H p = none) : Same H (upd H p o) := fun b u e => by
  rw [upd_ne (ne_of_none e hp)]
  exact e
theorem sMut {p : Addr} {o : HO} (h : Same H H') (hp : H p = none) : Same H (upd H' p o) := fun b u e => by
  rw [upd_ne (ne_of_none e hp)]
  exact h b u e
theorem pair_get {F : α → β → Prop} : ∀ {as : List α} {bs : List β} {i : Nat} {b : β}, Paired F as bs → bs[i]? = some b → ∃ a, as[i]? = some a ∧ F a b
  | _, _, i, b, .nil, h => by simp at h
  | a :: as, c :: bs, 0, b, .cons h hs, e => by
    obtain rfl : c = b := by simpa using e
    exact ⟨a, rfl, h⟩
  | a :: as, c :: bs, i + 1, b, .cons h hs, e => by
    have := pair_get hs (i := i) (b := b) (by simpa using e)
    simpa using this
theorem pair_len {F : α → β → Prop} : ∀ {as : List α} {bs : List β}, Paired F as bs → as.length = bs.length
  | _, _, .nil => rfl
  | _, _, .cons _ t => by simp [pair_len t]
theorem pair_imp {F G : α → β → Prop} (f : ∀ a b, F a b → G a b) : ∀ {as : List α} {bs : List β}, Paired F as bs → Paired G as bs
  | _, _, .nil => .nil
  | _, _, .cons h t => .cons (f _ _ h) (pair_imp f t)
theorem pair_map {f : α → V} : ∀ {as : List α} {ys : List V}, Paired (fun a y => y = f a) as ys → ys = as.map f
  | _, _, .nil => rfl
  | _, _, .cons h t => by rw [h, pair_map t]; rfl
/-- a relation of what is meant to a value in a heap that stays true as the heap grows -/
def Stays (B : β → V → Hp → Prop) : Prop := ∀ b x H H', Same H H' → B b x H → B b x H'
theorem take_succ {xs : List α} {i : Nat} {x : α} (h : xs[i]? = some x) : xs.take (i + 1) = xs.take i ++ [x] := by
  rw [List.take_succ, h]
  rfl
theorem sUpd {D : Addr} {o : HO} (s : Same H H') : Same (upd H D o) (upd H' D o) := fun b u e => by
  by_cases hb : b = D
  · subst hb; rw [upd_same] at e ⊢; exact e
  · rw [upd_ne hb] at e ⊢; exact s b u e
theorem upd_id {D : Addr} {o : HO} (h : H D = some o) : upd H D o = H := by
  funext b
  by_cases hb : b = D
  · subst hb; rw [upd_same, h]
  · rw [upd_ne hb]
/-- what holds of y in the heap behind, whatever the list in the making (which the heap ahead, H, does not know, and H1 does) holds -/
def Off (H H1 H2 : Hp) (B : V → Hp → Prop) (y : V) : Prop := ∀ D o, H D = none → H1 D ≠ none → B y (L2.upd H2 D o)
theorem off_old {H1 H2 : Hp} {B : V → Hp → Prop} {y : V} (hB : ∀ x H H', Same H H' → B x H → B x H') (s : Same H H2) (h : B y H) : Off H H1 H2 B y :=
  fun D o hD _ => hB _ _ _ (sMut s hD) h
theorem off_any {H1 H2 : Hp} {B : V → Prop} {y : V} (h : B y) : Off H H1 H2 (fun y _ => B y) y := fun D o hD _ => h
/-- a comprehension over a list of things -/
theorem lcL {tl te : TE} {tt : TT} {vs : List Nat} {j : Nat} {Q : VK} {a : Addr} {xs : List V} {bs : List α} (A : α → V → Hp → Prop) (B : β → V → Hp → Prop) (f : α → Bool) (g : α → β)
    (htl : ∀ R : V → Hp → Prop, R (.ref a) H → tl σ H R) (hl : SqL K H a xs) (hA : Stays A) (hB : Stays B) (pr : Paired (fun b x => A b x H) bs xs) (hz : xs.length ≤ 10000)
    (hw : ∀ x, wipe ((wipe σ vs).set j (some x)) vs = wipe σ vs)
    (turn : ∀ b x H1 (R : Bool → Hp → Prop), b ∈ bs → A b x H → A b x H1 → Same H H1 → (∀ H2, Same H1 H2 → R (f b) H2) → tt ((wipe σ vs).set j (some x)) H1 R)
    (elem : ∀ b x H1 (R : VK), b ∈ bs → f b = true → A b x H → A b x H1 → Same H H1 → (∀ y H2, Same H1 H2 → Off H H1 H2 (B (g b)) y → R y H2) → te ((wipe σ vs).set j (some x)) H1 R)
    (fin : ∀ D ys H1, H D = none → Same H H1 → H1 D = some (.lst ys) → Paired (fun c y => B c y H1) ((bs.filter f).map g) ys → Q (.ref D) H1) :
    tLc (iList K tl) (gName j) tt te vs σ H Q := by
  have hlen := pair_len pr
  refine htl _ ⟨a, rfl, ⟨xs, hl⟩, fun D hD => ?_⟩
  refine lc_list (K := K) (a := a) (xs := xs) (fun i H1 => ∃ ys, H1 D = some (.lst ys) ∧ ys.length ≤ i ∧ Same H H1 ∧ ∀ o, Paired (fun c y => B c y (upd H1 D o)) (((bs.take i).filter f).map g) ys) ?_ ?_ ?_ ?_
  · exact ⟨[], upd_same, Nat.le_refl _, sNew hD, fun _ => .nil⟩
  · rintro i H1 hi ⟨ys, _, _, s, _⟩
    exact s.seq hl
  · rintro i x H1 hx ⟨ys, hd, hy, s, pq⟩
    have hi : i < xs.length := (List.getElem?_eq_some_iff.mp hx).1
    obtain ⟨b, hb, hab⟩ := pair_get pr hx
    have mem : b ∈ bs := List.mem_of_getElem? hb
    have tk : bs.take (i + 1) = bs.take i ++ [b] := take_succ hb
    show wipe ((wipe σ vs).set j (some x)) vs = wipe σ vs ∧ _
    refine ⟨hw x, turn b x H1 _ mem hab (hA _ _ _ _ s hab) s fun H2 s2 => ?_⟩
    cases hf : f b with
    | false =>
      rw [if_neg Bool.false_ne_true]
      refine ⟨ys, s2 _ _ hd, by omega, s.trans s2, fun o => ?_⟩
      rw [tk, List.filter_append, List.filter_cons_of_neg (by simp [hf]), List.filter_nil, List.append_nil]
      exact pair_imp (fun c y => hB c y _ _ (sUpd s2)) (pq o)
    | true =>
      rw [if_pos rfl]
      refine elem b x H2 _ mem hf hab (hA _ _ _ _ (s.trans s2) hab) (s.trans s2) fun y H3 s3 hy3 => ?_
      have hd3 := s3 _ _ (s2 _ _ hd)
      have s4 : Same H H3 := (s.trans s2).trans s3
      refine ⟨ys, hd3, szl (by omega), ys ++ [y], upd_same, by rw [List.length_append]; simp; omega, sMut s4 hD, fun o => ?_⟩
      rw [tk, List.filter_append, List.filter_cons_of_pos (by simp [hf]), List.filter_nil, List.map_append, upd_upd]
      exact (pair_imp (fun c z h => hB c z _ _ (sUpd (s2.trans s3)) h) (pq o)).snoc (hy3 D o hD (by rw [s2 _ _ hd]; simp))
  · rintro H1 ⟨ys, hd, hy, s, pq⟩
    refine fin D ys H1 hD s hd ?_
    have pq := pq (.lst ys)
    rw [← hlen, List.take_length, upd_id hd] at pq
    exact pq
end
end Rd
namespace Rd
open PySem.Spec PyProof.Rows
section
variable {K : PySem.W.Frag} {σ : L2.St} {H H' : Hp} {Q : VK} {D : Ends} {z : Str}
/-! ### comprehensions and loops over ranges -/
def LcGo (J : It) (g : TG) (tt : TT) (te : TE) (vs : List Nat) (σ : L2.St) (Q : VK) (H1 : Hp) : Prop := ∀ D, H1 D = none → ∃ W : Nat → Nat → Hp → Prop, (∃ m, W 0 m (upd H1 D (.lst []))) ∧ ∀ i m H, W i m H →
  (J.stop i H ∧ Q (.ref D) H) ∨ (J.go i H ∧ ∃ Nx : Hp → Prop, (∀ H', Nx H' → ∃ m', m' < m ∧ W (i + 1) m' H') ∧ ∀ x H', J.yld i H x H' → g x (wipe σ vs) H' fun σ2 H2 => wipe σ2 vs = wipe σ vs ∧ tt σ2 H2 fun b H3 =>
    if b = true then te σ2 H3 fun y H4 => ∃ acc, H4 D = some (.lst acc) ∧ acc.length < sizeLine ∧ Nx (upd H4 D (.lst (acc ++ [y]))) else Nx H3)
theorem lcR {ta : TA} {g : TG} {tt : TT} {te : TE} {vs : List Nat} (k : ta σ H fun xs H1 => ∃ j : Int, xs = [.int j] ∧ -(2 ^ 62) ≤ j ∧ j < 2 ^ 62 ∧ LcGo (Itr 0 j.toNat) g tt te vs σ Q H1) : tLc (iRng1 ta) g tt te vs σ H Q := k
theorem rng {i : Int} {R : Prop} (h0 : 0 ≤ i) (h1 : i ≤ 100000) (k : R) : -(2 ^ 62) ≤ i ∧ i < 2 ^ 62 ∧ R := ⟨by omega, by omega, k⟩
/-- no test; each turn adds one thing -/
theorem goR {n j : Nat} {te : TE} {vs : List Nat} (Pv : Addr → Nat → List V → Hp → Prop) (h0 : ∀ D, H D = none → Pv D 0 [] (upd H D (.lst []))) (hw : ∀ x, wipe ((wipe σ vs).set j (some x)) vs = wipe σ vs) (hn : n ≤ 100000)
    (turn : ∀ D i acc H1, H D = none → i < n → acc.length = i → H1 D = some (.lst acc) → Pv D i acc H1 → ∀ R : VK, (∀ y H2, H2 D = some (.lst acc) → Pv D (i + 1) (acc ++ [y]) (upd H2 D (.lst (acc ++ [y]))) → R y H2) → te ((wipe σ vs).set j (some (.int (i : Int)))) H1 R)
    (fin : ∀ D acc H1, H D = none → acc.length = n → H1 D = some (.lst acc) → Pv D n acc H1 → Q (.ref D) H1) : LcGo (Itr 0 n) (gName j) tYes te vs σ Q H := by
  intro D hD
  refine lc_range (lo := 0) (n := n) (fun i H1 => ∃ acc, acc.length = i ∧ H1 D = some (.lst acc) ∧ Pv D i acc H1) ⟨[], rfl, upd_same, h0 D hD⟩ ?_ ?_
  · rintro i H1 hi ⟨acc, ha, hd, p⟩
    have e0 : (0 : Int) + (i : Int) = (i : Int) := Int.zero_add _
    rw [e0]
    refine ⟨hw _, ?_⟩
    refine turn D i acc H1 hD hi ha hd p _ fun y H2 h1 h2 => ?_
    exact ⟨acc, h1, szl (by omega), acc ++ [y], by simp [ha], upd_same, h2⟩
  · rintro H1 ⟨acc, ha, hd, p⟩
    exact fin D acc H1 hD ha hd p
def ForGo (J : It) (g : TG) (tb : TS) (D : Ends) (σ : L2.St) (H1 : Hp) : Prop := ∃ W : Nat → Nat → L2.St → Hp → Prop, (∃ m, W 0 m σ H1) ∧ ∀ i m σ H, W i m σ H →
  (J.stop i H ∧ D.nx σ H) ∨ (J.go i H ∧ ∃ N : L2.St → Hp → Prop, (∀ σ' H', N σ' H' → ∃ m', m' < m ∧ W (i + 1) m' σ' H') ∧ ∀ x H', J.yld i H x H' → g x σ H' fun σ2 H2 => tb { D with nx := N, ct := N, bk := D.nx } σ2 H2)
theorem forR {ta : TA} {g : TG} {tb : TS} (k : ta σ H fun xs H1 => ∃ j : Int, xs = [.int j] ∧ -(2 ^ 62) ≤ j ∧ j < 2 ^ 62 ∧ ForGo (Itr 0 j.toNat) g tb D σ H1) : tFor (iRng1 ta) g tb D σ H := k
theorem forGo {n j : Nat} {tb : TS} (Pv : Nat → L2.St → Hp → Prop) (h0 : Pv 0 σ H)
    (turn : ∀ i σ1 H1, i < n → Pv i σ1 H1 → tb { D with nx := Pv (i + 1), ct := Pv (i + 1), bk := D.nx } (σ1.set j (some (.int (i : Int)))) H1) (fin : ∀ σ1 H1, Pv n σ1 H1 → D.nx σ1 H1) : ForGo (Itr 0 n) (gName j) tb D σ H :=
  for_range (lo := 0) (n := n) Pv h0 (fun i σ1 H1 hi p => by
    show tb _ (σ1.set j (some (.int (0 + (i : Int))))) H1
    rw [Int.zero_add]
    exact turn i σ1 H1 hi p) fin
theorem adds {a b : Str} {R : Str → Str → Prop} (h : a.length + b.length ≤ 100000) (k : R a b) : ∃ i j, V.str a = .str i ∧ V.str b = .str j ∧ i.length + j.length ≤ sizeLine ∧ R i j := ⟨a, b, rfl, rfl, sz h, k⟩
theorem gtup {n : Nat} {t : TGs} {a : Addr} {xs : List V} {QS : L2.St → Hp → Prop} (h : SqT K H a xs) (hl : xs.length = n) (k : t xs σ H QS) : gTup K n t (.ref a) σ H QS := ⟨a, xs, rfl, h, hl, k⟩
theorem gcons {v : V} {r : List V} {t : TG} {u : TGs} {QS : L2.St → Hp → Prop} (k : t v σ H fun σ' H' => u r σ' H' QS) : gCons t u (v :: r) σ H QS := ⟨v, r, rfl, k⟩
theorem gnil {QS : L2.St → Hp → Prop} (k : QS σ H) : gNil [] σ H QS := ⟨rfl, k⟩
theorem cut {t u : TS} (Mid : L2.St → Hp → Prop) (h1 : t { D with nx := Mid } σ H) (h2 : ∀ σ' H', Mid σ' H' → u D σ' H') : C8.tCut t u D σ H := ⟨Mid, h1, h2⟩
/-- a method of a text -/
theorem m1 {r : V → List V → Hp → VK → Prop} {to te : TE} (k : to σ H fun x H1 => (∃ a, x = .str a) ∧ te σ H1 fun y H2 => r x [y] H2 Q) : tM1 r to te σ H Q := k
theorem isStr {R : Prop} (k : R) : (∃ a, V.str z = .str a) ∧ R := ⟨⟨z, rfl⟩, k⟩
end
end Rd
namespace W6
open L2 TL
/-! ### texts with a bound -/
structure W (n : Nat) (w : Str) : Prop where
  len : w.length ≤ n
  low : ∀ c ∈ tl w, c < 1000
theorem tl_len (w : Str) : (tl w).length = w.length := by show w.cps.toList.length = w.cps.size; simp
theorem W.app {n m : Nat} {a b : Str} (ha : W n a) (hb : W m b) : W (n + m) (a ++ b) := by
  have e : tl (a ++ b) = tl a ++ tl b := by show (a.cps ++ b.cps).toList = _; simp
  refine ⟨?_, fun c hc => ?_⟩
  · rw [← tl_len, e, List.length_append, tl_len, tl_len]
    exact Nat.add_le_add ha.len hb.len
  · rw [e, List.mem_append] at hc
    exact hc.elim (ha.low c) (hb.low c)
theorem W.cut {n : Nat} {a : Str} (ha : W n a) (lo hi : Option Int) : W n (cutS a lo hi) :=
  ⟨Nat.le_trans (cutS_length a lo hi) ha.len, fun c hc => ha.low c (by
    have hc : c ∈ ((a.cps.toList.drop (HT.sIx a.length 0 lo)).take (HT.sIx a.length a.length hi - HT.sIx a.length 0 lo)) := by simpa [cutS] using hc
    exact List.mem_of_mem_drop (List.mem_of_mem_take hc))⟩
theorem joinL_nil : ∀ ps : List (List Nat), joinL [] ps = ps.flatten
  | [] => rfl
  | [p] => by simp [joinL]
  | p :: q :: r => by rw [joinL, joinL_nil (q :: r)]; simp
theorem W.join {cs : List Str} (h : ∀ c ∈ cs, W 1 c) : W cs.length (Txt.join "" cs) := by
  have e : tl (Txt.join "" cs) = (cs.map tl).flatten := by
    rw [join_eq, tl_join]
    exact joinL_nil _
  refine ⟨?_, fun c hc => ?_⟩
  · rw [← tl_len, e]
    clear e
    induction cs with
    | nil => simp
    | cons a cs ih =>
      rw [List.map_cons, List.flatten_cons, List.length_append, List.length_cons, tl_len]
      have := ih fun c hc => h c (List.mem_cons_of_mem _ hc)
      have := (h a List.mem_cons_self).len
      omega
  · rw [e, List.mem_flatten] at hc
    obtain ⟨l, hl, hc⟩ := hc
    obtain ⟨s, hs, rfl⟩ := List.mem_map.mp hl
    exact (h s hs).low c hc
theorem W.mono {n m : Nat} {a : Str} (h : W n a) (l : n ≤ m) : W m a := ⟨Nat.le_trans h.len l, h.low⟩
theorem W.sum {cs : List Str} (h : ∀ c ∈ cs, W 1 c) : (cs.map (·.length)).sum ≤ cs.length := by
  induction cs with
  | nil => exact Nat.le_refl _
  | cons a cs ih =>
    rw [List.map_cons, List.sum_cons, List.length_cons]
    have := ih fun c hc => h c (List.mem_cons_of_mem _ hc)
    have := (h a List.mem_cons_self).len
    omega
theorem W.sign {n : Nat} {z : Str} {i : Int} (h : W n z) (h0 : 0 ≤ i) (h1 : i < (z.length : Int)) : ∃ c, atI z.cps.toList i = some c ∧ W 1 ⟨#[c]⟩ := by
  have l : i.toNat < z.cps.toList.length := by
    have e : z.cps.toList.length = z.length := tl_len z
    omega
  refine ⟨z.cps.toList[i.toNat], Rd.atN h0 (List.getElem?_eq_getElem l), Nat.le_refl _, fun c hc => ?_⟩
  have e : c = z.cps.toList[i.toNat] := by simpa using hc
  rw [e]
  exact h.low _ (List.getElem_mem l)
end W6
local macro_rules | `(tactic| walk_at "look") => `(tactic| first
  | assumption
  | exact upd_same
  | exact SqL.of (by assumption)
  | exact SqL.of upd_same)
local macro_rules | `(tactic| walk_at "cond") => `(tactic| first | decide | (show _ ∨ _; right; split <;> decide) | (show _ ∧ _; constructor <;> omega) | (show _ ∨ _; left; constructor <;> omega) | (show _ ∨ _; right; constructor <;> omega) | (show _ ≠ _; omega) | (show _ < _; omega))
local macro_rules | `(tactic| walk_at "rd") => `(tactic| (with_reducible first
  | refine Rd.var rfl ?_ | refine Rd.cst ?_ | refine Rd.op ?_ | refine Rd.un ?_ | refine Rd.i0 ?_ | refine Rd.u1 ?_ | refine Rd.cons ?_ | refine Rd.nil ?_
  | refine Rd.seq ?_ | refine Rd.ifs ?_ | refine Rd.asg ?_ | refine Rd.gname ?_ | refine Rd.gsub ?_ | refine Rd.ret ?_ | refine Rd.retN ?_ | refine Rd.drop ?_ | refine Rd.next ?_
  | refine Rd.test ?_ | refine Rd.tb_ ?_ | refine Rd.not_ ?_ | refine Rd.or_ ?_ | refine Rd.and_ ?_ | refine Rd.orV ?_ | refine Rd.andV ?_ | refine Rd.notV ?_ | refine Rd.tif ?_ | refine Rd.yes ?_
  | refine Rd.cb ?_ | refine Rd.call ?_ | refine Rd.sl ?_ | refine Rd.noPart ?_ | refine Rd.part ?_ | refine Rd.int_ ?_ | refine Rd.bl_ ?_
  | refine Rd.eq rfl ?_ | refine Rd.ne rfl ?_ | refine Rd.lst ?_ | refine Rd.tup ?_ | refine Rd.par ?_ | refine Rd.bm ?_ | refine Rd.bm0 ?_ | refine Rd.m1 ?_ | refine Rd.isStr ?_ | refine Rd.lcR ?_ | refine Rd.forR ?_ | refine Rd.gcons ?_ | refine Rd.gnil ?_
  | refine Rd.int1 ?_ | refine Rd.intB ?_ | refine Rd.two ?_ | refine Rd.one ?_ | refine Rd.andr ?_ | refine Rd.str_ ?_
  | (refine Rd.ic ?k1 ?_; (case k1 => with_unfolding_all walk_at "cond"))
  | (refine' Rd.ixL ?k1 ?k2 ?_; (case k1 => with_unfolding_all walk_at "look"); (case k2 => with_unfolding_all (first | rfl | exact Rd.at0)))
  | (refine' Rd.setL ?k1 ?k2 ?_; (case k1 => with_unfolding_all walk_at "look"); (case k2 => with_unfolding_all rfl))
  | (refine' Rd.lenL ?k1 ?_; (case k1 => with_unfolding_all walk_at "look"))
  | (refine' Rd.lenK ?k1 ?_; (case k1 => with_unfolding_all walk_at "look"))
  | refine Rd.tru ?_ | (refine' Rd.truL ?k1 ?_; (case k1 => with_unfolding_all walk_at "look"))))

namespace Ex
open PySem.Spec PyProof.Rows
/-! ### an own error with one field, f: def __init__(self, f): self.f = f -/
def spInit (C : Addr) (f : Str) : Sp := fun vs H Q _ => ∃ (a : Addr) (v : V), vs = [.ref a, v] ∧ H a = some (exo a C none) ∧ ∀ dx, H dx = none → dx ≠ a → Q .non (upd (upd H dx (exd dx [(f, v)])) a (exo a C (some dx)))
structure ErrC (K : PySem.W.Frag) (mg : Str → Option Value) (x f : Str) (C : Addr) : Prop where
  t : OexC K C
  xf : XfC K C
  ic : ExcC K C
  no : PySem.W.findIn K (.ref C) f = some none
  g : mg x = some (.ref C)
  te : PySem.W.exmOne K (.ref C) (.ref C) = some true
/-- its __init__ as a def that keeps its promise -/
def InitOk (P : Program) (w : World) (K : PySem.W.Frag) (mg : Str → Option Value) (base : Heap) (f : Str) (C : Addr) : Prop :=
  ∃ (fI : Addr) (fd : FuncData), PySem.W.findIn K (.ref C) "__init__" = some (some (.ref fI)) ∧ PySem.W.typeIn K (.ref fI) = some (.type "function") ∧ FnOk P w K mg base CX0 1 fI fd ["self", f] (spInit C f) ∧ Binds K fd ["self", f] []
theorem made_heap {H : Hp} {a d : Addr} {f : Str} {v : V} {C : Addr} (ha : H a = none) (hda : d ≠ a) :
    upd (L2.del (upd (upd (upd H a (exo a C none)) d (exd d [(f, v)])) a (exo a C (some d))) a) d (.xd [(f, v)]) = upd H d (.xd [(f, v)]) := by
  funext b
  by_cases hb : b = d
  · subst hb; rw [upd_same, upd_same]
  · rw [upd_ne hb, upd_ne hb]
    by_cases hba : b = a
    · subst hba; rw [del_same, ha]
    · rw [del_ne hba, upd_ne hba, upd_ne hb, upd_ne hba]
section
variable {X : Cx} {σ : L2.St} {H : Hp}
theorem pmkE {x f : Str} {C : Addr} {k : Nat} {e : Expr} {es : List Expr} {p pos : Pos} {ta : TA} (T : ErrC X.K X.mg x f C) (M : InitOk X.prog X.w X.K X.mg X.base f C) (hr : Room k X.A) (hk : 2 ≤ k) (ha : PA X (e :: es) ta) (hg : Gl X x := by rfl)
    (hdb : (x == ("__debug__" : Str)) = false := by decide) (he : starEach (e :: es) X.env = (false, eval e X.env) :: starEach es X.env := by rfl) (hpl : (backTo pos (starEach es X.env)).any (·.1) = false := by rfl) :
    PMk X (.Call (.Name x p) (e :: es) [] pos) (tMkO C (spInit C f) [] ta) := by
  obtain ⟨fI, fd, iC, tI, F, hb⟩ := M
  exact pmk_oex T.t iC tI F (hr.mono hk) hb .nil pass0 hg T.g ha hdb he hpl
theorem mk {C : Addr} {sp : Sp} {dvs : List V} {ta : TA} {Q : XK} (k : ta σ H fun vs H1 => vs.length ≤ 1000 ∧ ∀ a, H1 a = none → sp (.ref a :: (vs ++ dvs)) (upd H1 a (exo a C none)) (fun v H2 => v = .non ∧ ∃ (d : Addr) (fs : List (Str × V)), H2 a = some (exo a C (some d)) ∧ H2 d = some (exd d fs) ∧ H1 d = none ∧ Q (.ref C) (some d) (upd (L2.del (H2) a) d (.xd fs))) (fun _ _ _ => False)) :
    tMkO C sp dvs ta σ H Q := k
theorem made {C : Addr} {f : Str} {v : V} {Q : XK} (h : ∀ d, H d = none → Q (.ref C) (some d) (upd H d (.xd [(f, v)]))) :
    [v].length ≤ 1000 ∧ ∀ a, H a = none → spInit C f (.ref a :: ([v] ++ [])) (upd H a (exo a C none)) (fun u H2 => u = .non ∧ ∃ (d : Addr) (fs : List (Str × V)), H2 a = some (exo a C (some d)) ∧ H2 d = some (exd d fs) ∧ H d = none ∧ Q (.ref C) (some d) (upd (L2.del H2 a) d (.xd fs))) (fun _ _ _ => False) := by
  refine ⟨by simp, fun a ha => ⟨a, v, rfl, upd_same, fun d hd hda => ⟨rfl, d, [(f, v)], upd_same, ?_, ?_, ?_⟩⟩⟩
  · rw [upd_ne hda, upd_same]
  · rw [upd_ne hda] at hd; exact hd
  · rw [upd_ne hda] at hd
    rw [made_heap ha hda]
    exact h d hd
end
/-! ### defs that may raise -/
def CalX (P : Program) (w : World) (K : PySem.W.Frag) (mg : Str → Option Value) (base : Heap) (k : Nat) (x : Str) (sp : Sp) : Prop :=
  ∃ (f : Addr) (fd : FuncData) (ps : List Str), FnG P w K mg base (L2.CX P w) k f fd ps sp ∧ mg x = some (.ref f) ∧ PySem.W.keepIn K (.ref f) = true ∧ Binds K fd ps []
section
variable {P : Program} {w : World} {K : PySem.W.Frag} {mg : Str → Option Value} {base : Heap}
theorem byX {x : Str} {st : Stmt} {ps N : List Str} {k : Nat} {sp : Sp} (D : DefAt K mg x st ps) (S : FnScope N ps (defScope st)) (len : ∀ vs H Q E, sp vs H Q E → vs.length = ps.length)
    (inner : ∀ (f : Addr) (cd : Value) (A : Around), A.guards = some [] → ∀ (outer : List Env) (s : Shared) (H : Hp) (vs : List V) (Q : VK) (E : XK),
      Room k (A.deeper (envOfC x (defScope st) s.heap.objs.size f cd)) → sp vs H Q E →
      ∃ t, PSs (cxOf (L2.CX P w) P w K mg base N x (defScope st) f cd A outer s H E) (defBody st) t ∧ t { nx := fun _ H' => Q .non H', rt := Q } (start N vs) H) :
    CalX P w K mg base (k + 1) x sp := by
  obtain ⟨f, fd, hm, F, hb⟩ := D
  exact ⟨f, fd, ps, defG F S len (inner f), hm, F.kp, hb⟩
end
section
variable {X : Cx} {k j : Nat} {sp : Sp} {x : Str} {p pos : Pos} {e : Expr} {es : List Expr} {t : TA}
/-- called in a def that lets the same out -/
theorem pe_x {E : XK} (c : CalX X.prog X.w X.K X.mg X.base k x sp) (g : X.A.guards = some []) (hr : Room j X.A) (hk : k ≤ j) (tk : Takes X fun cls d _ H => E cls d H) (ha : PA X (e :: es) t) (hg : Gl X x := by rfl)
    (hdb : (x == ("__debug__" : Str)) = false := by decide) (he : starEach (e :: es) X.env = (false, eval e X.env) :: starEach es X.env := by rfl)
    (hpl : (backTo pos (starEach es X.env)).any (·.1) = false := by rfl) : PE X (.Call (.Name x p) (e :: es) [] pos) (tCall sp [] E t) := by
  obtain ⟨f, fd, ps, F, hm, hkp, hb⟩ := c
  exact pe_callG F g (hr.mono hk) hg hm hkp hb .nil (passes_call tk fun _ _ _ _ h => h) ha hdb he hpl
/-- called where nothing is raised -/
theorem pe_x0 (c : CalX X.prog X.w X.K X.mg X.base k x sp) (g : X.A.guards = some []) (hr : Room j X.A) (hk : k ≤ j) (ha : PA X (e :: es) t) (hg : Gl X x := by rfl)
    (hdb : (x == ("__debug__" : Str)) = false := by decide) (he : starEach (e :: es) X.env = (false, eval e X.env) :: starEach es X.env := by rfl)
    (hpl : (backTo pos (starEach es X.env)).any (·.1) = false := by rfl) : PE X (.Call (.Name x p) (e :: es) [] pos) (tCall sp [] E0 t) := by
  obtain ⟨f, fd, ps, F, hm, hkp, hb⟩ := c
  refine pe_callG F g (hr.mono hk) hg hm hkp hb .nil (fun pins σ H s u s' I z => ?_) ha hdb he hpl
  obtain ⟨_, _, _, _, _, _, _, _, _, _, _, _, z⟩ := z
  exact z.elim
/-- called in a try -/
theorem pe_xS {W : WX} (c : CalX X.prog X.w X.K X.mg X.base k x sp) (g : X.A.guards = some []) (hr : Room j X.A) (hk : k ≤ j) (tk : Takes X W) (ha : PA X (e :: es) t) (hg : Gl X x := by rfl)
    (hdb : (x == ("__debug__" : Str)) = false := by decide) (he : starEach (e :: es) X.env = (false, eval e X.env) :: starEach es X.env := by rfl)
    (hpl : (backTo pos (starEach es X.env)).any (·.1) = false := by rfl) : PE X (.Call (.Name x p) (e :: es) [] pos) (tCallS sp (WE W) t) := by
  obtain ⟨f, fd, ps, F, hm, hkp, hb⟩ := c
  refine ⟨fun pins s σ H Q I h => wpAny_Call_Name_kw (ld_glob I hg hm ?_ hdb)⟩
  refine PySem.W.callWith_K (h₀ := X.base) I.ok.mod.kin hkp (thn (ha.run pos pins s σ H _ I h) ?_) he hpl
  rintro us s1 ⟨vs, H1, I1, r, q⟩
  refine ⟨I1.kIn, ?_⟩
  have lens : us.length = ps.length := (r.length).symm.trans (F.len _ _ _ _ q)
  have body := F.go X.A g X.stack s1 H1 ⟨us, []⟩ us vs Q (WE W σ) (hr.mono hk) I1.env0 (by simpa using hb s1 us I1.kIn (by simpa using lens)) r q
  refine wpAny_call (codeAny_mono body ?_)
  intro res s' hres
  match res, hres with
  | .error e, z => exact passAt tk σ pins H1 s1 e s' I1 z
  | .ok (.ret u), z => exact I1.after z
  | .ok .next, z => exact z.elim
  | .ok .brk, z => exact z.elim
  | .ok .cont, z => exact z.elim
end
end Ex
namespace PySem.W
open PySem PySem.Calls PyProof.Rows
theorem clsIn_obj {K : Frag} {D : Addr} (h : hasDictIn K D = true) : ∃ c d cd sl, K.lookup D = some ⟨c, d, .cls cd, sl⟩ := by
  obtain ⟨cd, hc, _⟩ := any_some h
  unfold clsIn at hc
  split at hc
  · rename_i c d cd' sl ho
    exact ⟨c, d, cd', sl, ho⟩
  · cases hc
/-- an instance of an own exception class, with whatever dict, as isinstance asks it -/
theorem kitxD {K : Frag} {x D : Addr} {ox : Obj} {od : Option Obj} (C : L2.ExcC K D) : KitX K (.ref x) (.ref D) (fun h => InstAt h x ox D od) where
  ty := fun _ _ _ I => I.type
  it := fun _ _ X _ => by
    obtain ⟨c, d, cd, sl, ho⟩ := clsIn_obj C.hd
    intro A' Q' E' s' k q
    unfold isType loadHead
    exact wpAny_bind (wpAny_loadPart (k _ _ (X _ _ ho)) (wpAny_pure q))
  ne := fun h tp dd its n sl X htp => by
    obtain ⟨c, d, cd, sl', ho⟩ := clsIn_obj C.hd
    cases e : (Value.ref D == .ref tp) with
    | false => rfl
    | true =>
      obtain rfl : D = tp := Value.ref.inj (beq_iff_eq.mp e)
      have z := (X _ _ ho).symm.trans htp
      cases z
  ca := fun X I k => kx_classE X I C.hg C.hk C.hs (findObj_dataE (by obtain ⟨cd, hc, _⟩ := any_some C.hd; rw [hc]; rfl) C.ha C.hn C.ht) C.hm k
end PySem.W
namespace Ex
open PySem.Spec PyProof.Rows
/-- isinstance(e, c), e the exception that the suite holds, with its dict -/
def rIsD (K : PySem.W.Frag) (C a : Addr) (cls : Value) (d : Option Addr) : List V → Hp → VK → Prop := fun xs H Q => ∃ (c : V) (cv : Value) (b : Bool) (dd : Addr) (fs : List (Str × V)), xs = [.ref a, c] ∧ ClsV c cv ∧ cls = .ref C ∧ d = some dd ∧ H dd = some (.xd fs) ∧ PySem.W.kitOne K (.ref C) cv = some b ∧ Q (.bl b) H
theorem call_isD {X : Cx} {a C : Addr} {oe : Obj} {cls : Value} {d : Option Addr} {pn : List (Addr × Obj)} (T : ExcC X.K C) (hz : Zc cls d oe) (hf : ∃ vs, oe.data = .fields vs) : CallR (X.suite a ((a, oe) :: pn)) (.builtin "isinstance") (rIsD X.K C a cls d) := by
  intro pins s σ H xs us Q I r h
  obtain ⟨c, cv, b, dd, fs, rfl, kc, ec, ed, ea, e, q⟩ := h
  obtain ⟨u, t, rfl, ru, rt⟩ := vals2 r
  obtain rfl : u = Value.ref a := ru
  obtain rfl := kc.eq rt
  subst ec ed
  obtain ⟨hget, _⟩ := I.pin (a, oe) (List.mem_append.mpr (.inl List.mem_cons_self))
  obtain ⟨vs, hv⟩ := hf
  have hx : ObjOk X.prog X.w H s.heap dd (.xd fs) := I.hok dd _ ea
  obtain ⟨mA, hns, hr⟩ := hx
  obtain ⟨od, ho, hl⟩ := lookIn_ns hns
  have J : PySem.W.InstAt s.heap a oe C (some od) := ⟨hget, hz.1, by unfold PySem.W.notCls; rw [hv] <;> rfl, by rw [hz.2]; exact ho⟩
  exact PySem.W.kia_one (PySem.W.kitxD T) I.kIn J e (fun z => nomatch z) fun tk => ⟨.bl b, H, I.kept (t' := tk) fun _ _ z => z, rfl, q⟩
end Ex
namespace Gk
open PySem.Spec PyProof.Rows
section
variable {X : Cx}
def rReprX (K : PySem.W.Frag) : List V → Hp → VK → Prop := fun xs H Q => rRepr K xs H Q ∨ ∃ p, xs = [.ref p] ∧ H p = some (.dK []) ∧ Q (.str "{}") H
theorem call_reprX (hg : X.A.guards = some []) (hu : X.A.units + 64 < cLine) : CallR X (.builtin "repr") (rReprX X.K) := by
  intro pins s σ H xs us Q I r h
  rcases h with h | ⟨p, rfl, hp, q⟩
  · exact call_reprD hg hu pins s σ H xs us Q I r h
  · obtain ⟨u, rfl, ru⟩ := vals1 r
    obtain rfl : u = Value.ref p := ru
    obtain ⟨_, ns, vs, kv, dof⟩ := dk_of I.hok hp
    obtain rfl : vs = [] := by cases kv; rfl
    obtain ⟨o, es, ep, h1, h2, h3, _, h4, _⟩ := dof
    have he : es.toList = [] := by
      cases hz : es.toList with
      | nil => rfl
      | cons a l => rw [hz] at h4; cases h4
    have rd : Reads s.heap (.ref p) (.dict []) (p :: [] ++ []) := .dict h1 h2.1 h3 (by rw [he]; exact .nil) (by rw [he]; exact .nil)
    have e : (PyData.dict []).shown = "{}" := by decide +kernel
    have out : ∀ h' u' tk, (∀ b o, s.heap.get? b = some o → h'.get? b = some o) → EP X pins σ Q (.str (PyData.dict []).shown u') { s with heap := h', toks := tk } :=
      fun h' u' tk hk => ⟨.str "{}", H, I.kept hk, ⟨u', by rw [e]⟩, q⟩
    refine repr_of_reads' rd (by rfl) (fun _ m => ?_) hg (by show _ + (PyData.depth (.dict []) + 1) < _; have : PyData.depth (.dict []) = 1 := rfl; omega) (fun _ _ z => z) out (by rw [e]; decide +kernel)
    have : sysModules = p := by simpa using m
    rw [← this] at ns
    simp at ns
end
end Gk
namespace Gk
open PySem.Spec PyProof.Rows
section
variable {X : Cx} {k j : Nat} {sp : Sp} {x : Str} {p pos : Pos}
/-- a def without arguments -/
theorem pe_cG0 (c : CalG X.prog X.w X.K X.mg X.base k x sp) (g : X.A.guards = some []) (hr : Room j X.A) (hk : k ≤ j) (hg : Gl X x := by rfl) (hdb : (x == ("__debug__" : Str)) = false := by decide) :
    PE X (.Call (.Name x p) [] [] pos) (tCall sp [] E0 tNil) := by
  obtain ⟨f, fd, ps, F, hm, hkp, hb⟩ := c
  refine ⟨fun pins s σ H Q I h => wpAny_Call_Name_kw (ld_glob I hg hm ?_ hdb)⟩
  exact PySem.W.callWith_K0 I.kIn hkp (runG (us := []) F g (hr.mono hk) hb .nil pass0 I .nil h)
end
end Gk
namespace Ob
open PySem.Spec PyProof.Rows
/-! ### own classes: defs that keep their promise where no container is being shown -/
section
variable {X : Cx} {CX : CXT} {k : Nat} {f C : Addr} {fd : FuncData} {ps : List Str} {sp : Sp} {E : XK}
/-- nothing is raised there -/
theorem px0 : Passes (L2.CX X.prog X.w) X E0 := fun pins σ H s u s' I z => by
  obtain ⟨_, _, _, _, _, _, _, _, _, _, _, _, z⟩ := z
  exact z.elim
/-- the same goes out -/
theorem pxE {E : XK} (tk : Takes X fun cls d _ H => E cls d H) : Passes (L2.CX X.prog X.w) X E := passes_call tk fun _ _ _ _ h => h
theorem flow {pins : List (Addr × Obj)} {σ : L2.St} {H : Hp} {s : Shared} {Q : VK} {r : Result} {s' : Shared} (hx : Passes CX X E) (I : Inv X pins σ H s) (h : CR CX X.stack X.prog X.w H s Q E r s') : wants (EP X pins σ Q) X.xe r s' := by
  match r, h with
  | .error e, z => exact hx pins σ H s e s' I z
  | .ok (.ret u), z => exact I.after z
  | .ok .next, z => exact z.elim
  | .ok .brk, z => exact z.elim
  | .ok .cont, z => exact z.elim
/-- the call of such a def, A somewhere at this body or one step further in -/
theorem goG {A : Around} {H : Hp} {s : Shared} {Q : VK} {us : List Value} {vs : List V} (F : FnG X.prog X.w X.K X.mg X.base CX k f fd ps sp) (g : A.guards = some []) (hr : Room k A)
    (e0 : Env0 X.prog X.w X.K X.mg X.base A X.stack s H) (kn : X.K.In s.heap) (hb : Binds X.K fd ps []) (r : Vals vs us) (h : sp vs H Q E) :
    codeAny (model X.prog X.w) A (.call (.ref f) ⟨us, []⟩) (CR CX X.stack X.prog X.w H s Q E) s := by
  have lens : (us ++ []).length = ps.length := by rw [List.append_nil]; exact (r.length).symm.trans (F.len _ _ _ _ h)
  have b := hb s us kn lens
  rw [List.append_nil] at b
  exact F.go A g X.stack s H ⟨us, []⟩ us vs Q E hr e0 b r h
/-- a method m of the class at C -/
def MCal (P : Program) (w : World) (K : PySem.W.Frag) (mg : Str → Option Value) (base : Heap) (CX : CXT) (C : Addr) (k : Nat) (m : Str) (sp : Sp) : Prop :=
  ∃ (f : Addr) (fd : FuncData) (ps : List Str), FnG P w K mg base CX k f fd ps sp ∧ Meth K C m f ∧ Binds K fd ps []
section
variable {j : Nat} {m : Str} {o e : Expr} {es : List Expr} {apos pos : Pos} {ta : TE} {t : TA}
theorem meth {pl : Sem Bool} (he : PE X o ta) (c : L2.Cls X.K C) (M : MCal X.prog X.w X.K X.mg X.base CX C k m sp) (g : X.A.guards = some []) (hr : Room j X.A) (hk : k ≤ j) (hx : Passes CX X E) (ha : PA X (e :: es) t)
    (hst : starEach (e :: es) X.env = (false, eval e X.env) :: starEach es X.env := by rfl) (hpl : (backTo pos (starEach es X.env)).any (·.1) = false := by rfl)
    (ht : eval (.Call (.Attribute o m apos) (e :: es) [] pos) X.env = (do
      let ov ← eval o X.env
      standAt apos.atName
      let (f, first) ← holding [ov] (getMethod ov m pl)
      callWith pos f first (backTo pos (starEach (e :: es) X.env)) (backToKw pos (keywordEach [] X.env))) := by rfl) : PE X (.Call (.Attribute o m apos) (e :: es) [] pos) (tMeth C m sp [] E ta t) := by
  obtain ⟨f, fd, ps, F, hm, hb⟩ := M
  refine ⟨fun pins s σ H Q I h => PySem.W.methodCall_KW (pl := pl) (thn (he.run pins s σ H _ I h) fun u s1 ⟨x, H1, I1, rx, a, dx, fs, ex, ea, l, q⟩ => ?_) ht⟩
  subst ex
  obtain rfl : u = Value.ref a := rx
  refine getmeth_ok I1 ea c hm l (PySem.W.callWith_K (first := [.ref a]) (h₀ := X.base) I.ok.mod.kin hm.kp (thn (ha.run pos pins s1 σ H1 _ I1 q) fun us s2 ⟨vs, H2, I2, r, q2⟩ => ⟨I2.kIn, wpAny_call ?_⟩) hst hpl)
  have q2 : sp (V.ref a :: (vs ++ [])) H2 Q E := q2
  rw [List.append_nil] at q2
  exact codeAny_mono (goG F g (hr.mono hk) I2.env0 I2.kIn hb (.cons (show RelV (.ref a) (.ref a) from rfl) r) q2) fun r s' z => flow hx I2 z
theorem meth0 {pl : Sem Bool} (he : PE X o ta) (c : L2.Cls X.K C) (M : MCal X.prog X.w X.K X.mg X.base CX C k m sp) (g : X.A.guards = some []) (hr : Room j X.A) (hk : k ≤ j) (hx : Passes CX X E)
    (ht : eval (.Call (.Attribute o m apos) [] [] pos) X.env = (do
      let ov ← eval o X.env
      standAt apos.atName
      let (f, first) ← holding [ov] (getMethod ov m pl)
      callWith pos f first (backTo pos (starEach [] X.env)) (backToKw pos (keywordEach [] X.env))) := by rfl) : PE X (.Call (.Attribute o m apos) [] [] pos) (tMeth C m sp [] E ta tNil) := by
  obtain ⟨f, fd, ps, F, hm, hb⟩ := M
  refine ⟨fun pins s σ H Q I h => PySem.W.methodCall_KW (pl := pl) (thn (he.run pins s σ H _ I h) fun u s1 ⟨x, H1, I1, rx, a, dx, fs, ex, ea, l, q⟩ => ?_) ht⟩
  subst ex
  obtain rfl : u = Value.ref a := rx
  refine getmeth_ok I1 ea c hm l (PySem.W.callWith_K0 (first := [.ref a]) I1.kIn hm.kp (wpAny_call ?_))
  exact codeAny_mono (goG F g (hr.mono hk) I1.env0 I1.kIn hb (.cons (show RelV (.ref a) (.ref a) from rfl) .nil) q) fun r s' z => flow hx I1 z
end
/-- C() -/
def MkCal (P : Program) (w : World) (K : PySem.W.Frag) (mg : Str → Option Value) (base : Heap) (CX : CXT) (C : Addr) (k : Nat) (x : Str) (sp : Sp) : Prop :=
  ∃ (f : Addr) (fd : FuncData) (ps : List Str), FnG P w K mg base CX k f fd ps sp ∧ Mk K C f ∧ Binds K fd ps [] ∧ mg x = some (.ref C)
theorem guards_make {A : Around} {us : List Value} {kw : List (Str × Value)} : (A.under (.builtin "type.__call__" ⟨.ref C :: us, kw⟩)).guards = A.guards := by
  first
  | rfl
  | simp [Around.under, Code.isGuard, guardIds]
theorem runMk {pins : List (Addr × Obj)} {σ : L2.St} {H : Hp} {s : Shared} {Q : VK} {us : List Value} {vs : List V} (M : Mk X.K C f) (F : FnG X.prog X.w X.K X.mg X.base CX k f fd ps sp) (g : X.A.guards = some []) (hr : Room (k + 1) X.A) (hb : Binds X.K fd ps [])
    (hx : Passes CX X E) (I : Inv X pins σ H s) (r : Vals vs us)
    (h : ∀ x dx, H x = none → H dx = none → dx ≠ x → sp (.ref x :: (vs ++ [])) (upd (upd H dx (.own x)) x (.ins C dx [])) (fun v H2 => v = .non ∧ Q (.ref x) H2) E) :
    wpAny (model X.prog X.w) X.A (call (.ref C) us) (EP X pins σ Q) X.xe s := by
  have hq := h (s.heap.objs.size + 1) s.heap.objs.size (I.hok.fresh (Nat.le_succ _)) (I.hok.fresh (Nat.le_refl _)) (Nat.ne_of_lt (Nat.lt_succ_self _))
  rw [List.append_nil] at hq
  have I2 := Inv.made (C := C) I
  have run := goG F (A := X.A.under (.builtin "type.__call__" ⟨.ref C :: us, []⟩)) (guards_make.trans g) (hr.make C us []) (I2.env0.make C us []) I2.kIn hb (.cons (show RelV (.ref (s.heap.objs.size + 1)) (.ref (s.heap.objs.size + 1)) from rfl) r) hq
  refine wpAny_call (make_map (f := f) I.kIn M.makes M.init (beq_iff_eq.mp M.fn) (codeAny_mono run fun r s' hq' => ?_))
  match r, hq' with
  | .error e, z => exact hx pins σ _ _ e s' I2 z
  | .ok .next, z => exact z.elim
  | .ok .brk, z => exact z.elim
  | .ok .cont, z => exact z.elim
  | .ok (.ret u), z =>
    obtain ⟨v, H', I3, rv, ev, q3⟩ := I2.after z
    subst ev
    exact ⟨rv, ⟨V.ref (s.heap.objs.size + 1), H', I3, rfl, q3⟩⟩
section
variable {j : Nat} {x : Str} {e : Expr} {es : List Expr} {p pos : Pos} {t : TA}
theorem make (M : MkCal X.prog X.w X.K X.mg X.base CX C k x sp) (gd : X.A.guards = some []) (hr : Room j X.A) (hk : k + 1 ≤ j) (hx : Passes CX X E) (ha : PA X (e :: es) t) (hg : Gl X x := by rfl)
    (hdb : (x == ("__debug__" : Str)) = false := by decide) (he : starEach (e :: es) X.env = (false, eval e X.env) :: starEach es X.env := by rfl) (hpl : (backTo pos (starEach es X.env)).any (·.1) = false := by rfl) :
    PE X (.Call (.Name x p) (e :: es) [] pos) (tMake C sp [] E t) := by
  obtain ⟨f, fd, ps, F, M, hb, hm⟩ := M
  refine ⟨fun pins s σ H Q I h => wpAny_Call_Name_kw (ld_glob I hg hm ?_ hdb)⟩
  exact PySem.W.callWith_K (h₀ := X.base) I.ok.mod.kin M.kp (thn (ha.run pos pins s σ H _ I h) fun us s1 ⟨vs, H1, I1, r, q⟩ => ⟨I1.kIn, runMk M F gd (hr.mono hk) hb hx I1 r q⟩) he hpl
theorem make0 (M : MkCal X.prog X.w X.K X.mg X.base CX C k x sp) (gd : X.A.guards = some []) (hr : Room j X.A) (hk : k + 1 ≤ j) (hx : Passes CX X E) (hg : Gl X x := by rfl)
    (hdb : (x == ("__debug__" : Str)) = false := by decide) : PE X (.Call (.Name x p) [] [] pos) (tMake C sp [] E tNil) := by
  obtain ⟨f, fd, ps, F, M, hb, hm⟩ := M
  refine ⟨fun pins s σ H Q I h => wpAny_Call_Name_kw (ld_glob I hg hm ?_ hdb)⟩
  exact PySem.W.callWith_K0 I.kIn M.kp (runMk (us := []) M F gd (hr.mono hk) hb hx I .nil h)
end
/-- a property, read -/
def PCal (P : Program) (w : World) (K : PySem.W.Frag) (mg : Str → Option Value) (base : Heap) (CX : CXT) (C : Addr) (k : Nat) (m : Str) (sp : Sp) : Prop :=
  ∃ (p f : Addr) (fd : FuncData) (ps : List Str), FnG P w K mg base CX k f fd ps sp ∧ PropOf K C m p f ∧ Binds K fd ps []
theorem prop {m : Str} {e : Expr} {pos : Pos} {ta : TE} {j : Nat} (he : PE X e ta) (c : L2.Cls X.K C) (M : PCal X.prog X.w X.K X.mg X.base CX C k m sp) (g : X.A.guards = some []) (hr : Room j X.A) (hk : k + 1 ≤ j) (hx : Passes CX X.nox E)
    (hab : attributeBase e m X.env (eval e X.env) = eval e X.env := by rfl) : PE X (.Attribute e m pos) (tProp C sp [] E ta) := by
  obtain ⟨p, f, fd, ps, F, hp, hb⟩ := M
  refine ⟨fun pins s σ H Q I h => attr_of hab (thn (he.run pins s σ H _ I h) fun u s1 ⟨x, H1, I1, rx, a, dx, fs, ex, ea, q⟩ => ?_)⟩
  subst ex
  obtain rfl : u = Value.ref a := rx
  obtain ⟨mA, O, _, _, _, _⟩ := ins_get I1.hok ea
  obtain ⟨od, J, _⟩ := O.look
  obtain ⟨rest, hrec⟩ := hp.rec_
  have I3 := I1.tok (s1.toks + 1)
  have hc : (PySem.W.clsIn X.K C).isSome = true := by
    obtain ⟨cd, hc, _⟩ := PySem.W.any_some c.hd
    rw [hc]
    rfl
  refine PySem.W.get_bind I1.kIn J (PySem.W.plainGet_of (c.get m)).1 (PySem.W.findObj_data hc hp.at_ hp.get hp.tak) (PySem.W.plainGet_of (c.get m)).2 (wpAny_call (PySem.W.prop_get (s := { s1 with toks := s1.toks + 1 }) I1.kIn hrec ?_))
  refine codeAny_mono (goG F (A := X.A.in1) g (hr.mono hk).in1 I3.env0.in1 I3.kIn hb (.cons (show RelV (.ref a) (.ref a) from rfl) .nil) q) fun r s' z => ?_
  match r, z with
  | .error er, z => exact (show False from hx pins σ H1 { s1 with toks := s1.toks + 1 } er s' (I3.wish _) z).elim
  | .ok .next, z => exact z.elim
  | .ok .brk, z => exact z.elim
  | .ok .cont, z => exact z.elim
  | .ok (.ret u), z =>
    obtain ⟨v, H', I4, rv, q3⟩ := I3.after z
    show wpAny _ _ (handedOut u) _ _ _
    rw [PySem.W.handedOut_of (handed_of rv)]
    exact wpAny_pure ⟨v, H', I4, rv, q3⟩
/-! ### static methods, read off the class -/
structure CSta (K : PySem.W.Frag) (C : Addr) (mc : Value) (m : Str) (p g : Addr) : Prop where
  rd : PySem.W.readsIn K C mc = true
  ga : PySem.W.specialIn K (.ref C) "__getattribute__" = some (some (.builtin "type.__getattribute__"))
  at_ : PySem.W.findCls K (.ref C) mc m = some (.get (.builtin "staticmethod.__get__") (.ref p) .none (.ref C))
  rc : ∃ rest, PySem.W.recIn K p "staticmethod" = some (.ref g :: rest)
  kp : PySem.W.keepIn K (.ref g) = true
def SCal (P : Program) (w : World) (K : PySem.W.Frag) (mg : Str → Option Value) (base : Heap) (CX : CXT) (C : Addr) (k : Nat) (m : Str) (sp : Sp) : Prop :=
  ∃ (p f : Addr) (fd : FuncData) (ps : List Str) (mc : Value), FnG P w K mg base CX k f fd ps sp ∧ CSta K C mc m p f ∧ Binds K fd ps []
def tStat (C : Addr) (sp : Sp) (E : XK) (ta : TE) : TE := fun σ H Q => ta σ H fun x H1 => x = .ref C ∧ sp [] H1 Q E
theorem stat0 {m : Str} {o : Expr} {apos pos : Pos} {ta : TE} {j : Nat} {pl : Sem Bool} (he : PE X o ta) (M : SCal X.prog X.w X.K X.mg X.base CX C k m sp) (g : X.A.guards = some []) (hr : Room j X.A) (hk : k ≤ j) (hx : Passes CX X E)
    (ht : eval (.Call (.Attribute o m apos) [] [] pos) X.env = (do
      let ov ← eval o X.env
      standAt apos.atName
      let (f, first) ← holding [ov] (getMethod ov m pl)
      callWith pos f first (backTo pos (starEach [] X.env)) (backToKw pos (keywordEach [] X.env))) := by rfl) : PE X (.Call (.Attribute o m apos) [] [] pos) (tStat C sp E ta) := by
  obtain ⟨p, f, fd, ps, mc, F, cs, hb⟩ := M
  obtain ⟨rest, hp⟩ := cs.rc
  refine ⟨fun pins s σ H Q I h => PySem.W.methodCall_KW (pl := pl) (thn (he.run pins s σ H _ I h) fun u s1 ⟨x, H1, I1, rx, ex, q⟩ => ?_) ht⟩
  subst ex
  obtain rfl : u = Value.ref C := rx
  have I2 := I1.tok (s1.toks + 1)
  refine PySem.W.method_cls I1.kIn cs.ga (PySem.W.cls_bind I1.kIn cs.rd cs.at_ (wpAny_call (PySem.W.sm_get (s := { s1 with toks := s1.toks + 1 }) I1.kIn hp (PySem.W.handed_on rfl ?_))))
  refine PySem.W.callWith_K0 (first := []) I2.kIn cs.kp (wpAny_call ?_)
  exact codeAny_mono (goG F g (hr.mono hk) I2.env0 I2.kIn hb .nil q) fun r s' z => flow hx I2 z
end
end Ob
/-! special methods of own classes, called by signs: x[k], x[k] = v, len(x), ==, != -/
namespace Ow
open PySem.Spec PyProof.Rows PySem.W
/-- the method m of the class at C is the def at g -/
structure SpM (K : Frag) (C : Addr) (m : Str) (g : Addr) : Prop where
  at_ : findIn K (.ref C) m = some (some (.ref g))
  fn : typeIn K (.ref g) = some (.type "function")
/-- instances of the class at C are no deques -/
def NoDq (K : Frag) (C : Addr) : Prop := subIn K (.ref C) (.type "collections.deque") = some false
section
variable {prog : Program} {w : World} {A : Around} {E : Value → Shared → Prop} {s : Shared} {a C g : Addr} {K : Frag} {m : Str} {o : Obj}
theorem special (hk : K.In s.heap) (ho : s.heap.get? a = some o) (hc : o.cls = .ref C) (h : SpM K C m g) {args : List Value} {Q : Option Value → Shared → Prop}
    (k : wpAny (model prog w) A (call (.ref g) (.ref a :: args)) (fun v => Q (some v)) E s) : wpAny (model prog w) A (callSpecial? (.ref a) m args) Q E s := by
  unfold callSpecial? specialOf
  refine wpAny_bind (wpAny_bind (wpAny_typeOf_ref ho ?_))
  rw [hc]
  refine looks_findIn (M := model prog w) hk h.at_ A _ E s (fun _ _ e => e) ?_
  refine wpAny_holding ?_
  refine wpAny_bind (bind_fn (M := model prog w) hk (.ref a) h.fn A _ E s (fun _ _ e => e) ?_)
  exact wpAny_bind (wpAny_mono k (fun v s' q => wpAny_pure q) fun _ _ z => z)
theorem seqKey (hk : K.In s.heap) (ho : s.heap.get? a = some o) (hc : o.cls = .ref C) (hd : NoDq K C) {i : Value} {Q : Value → Shared → Prop} (q : Q i s) : wpAny (model prog w) A (sequenceKey (.ref a) i m) Q E s := by
  unfold sequenceKey
  refine wpAny_bind (wpAny_typeOf_ref ho ?_)
  rw [hc]
  show wpAny _ _ (List.anyM (fun n => isSubtype (.ref C) (.type n)) ["collections.deque"] >>= _) _ _ _
  refine wpAny_bind ?_
  show wpAny _ _ (isSubtype (.ref C) (.type "collections.deque") >>= _) _ _ _
  refine wpAny_bind (looks_subIn (M := model prog w) hk hd A _ E s (fun _ _ e => e) ?_)
  exact wpAny_pure (wpAny_pure q)
theorem get_own (hk : K.In s.heap) (ho : s.heap.get? a = some o) (hc : o.cls = .ref C) (hd : NoDq K C) (h : SpM K C "__getitem__" g) {i : Value} {Q : Value → Shared → Prop}
    (k : wpAny (model prog w) A (call (.ref g) [.ref a, i]) Q E s) : wpAny (model prog w) A (getItem (.ref a) i) Q E s := by
  unfold getItem
  refine wpAny_holding ?_
  refine wpAny_bind (seqKey hk ho hc hd ?_)
  refine wpAny_bind (special hk ho hc h ?_)
  exact wpAny_mono k (fun v s' q => wpAny_pure q) fun _ _ z => z
theorem set_own (hk : K.In s.heap) (ho : s.heap.get? a = some o) (hc : o.cls = .ref C) (hd : NoDq K C) (h : SpM K C "__setitem__" g) {i v : Value} {Q : Unit → Shared → Prop}
    (k : wpAny (model prog w) A (call (.ref g) [.ref a, i, v]) (fun _ => Q ()) E s) : wpAny (model prog w) A (setItem (.ref a) i v) Q E s := by
  unfold setItem
  refine wpAny_holding ?_
  refine wpAny_bind (seqKey hk ho hc hd ?_)
  refine wpAny_bind (special hk ho hc h ?_)
  exact wpAny_mono k (fun v s' q => wpAny_pure q) fun _ _ z => z
end
section
open L2
variable {X : Cx} {CX : CXT} {k : Nat} {g C : Addr} {fd : FuncData} {ps : List Str} {sp : Sp} {E : XK}
/-- a def called one step further in (by a built-in) -/
theorem runG1 {dvs : List V} {ds : List Value} {pins : List (Addr × Obj)} {σ : L2.St} {H : Hp} {s : Shared} {Q : VK} {us : List Value} {vs : List V} (F : FnG X.prog X.w X.K X.mg X.base CX k g fd ps sp) (gd : X.A.guards = some []) (hr : Room (k + 1) X.A)
    (hb : Binds X.K fd ps ds) (hd : Vals dvs ds) (hx : Passes CX X E) (I : Inv X pins σ H s) (r : Vals vs us) (h : sp (vs ++ dvs) H Q E) : wpAny (model X.prog X.w) X.A.in1 (call (.ref g) us) (EP X pins σ Q) X.xe s := by
  have rr := r.append hd
  have lens := (rr.length).symm.trans (F.len (vs ++ dvs) H Q E h)
  have body := F.go X.A.in1 gd X.stack s H ⟨us, []⟩ (us ++ ds) (vs ++ dvs) Q E hr.in1 I.env0.in1 (hb s us I.kIn lens) rr h
  refine wpAny_call (codeAny_mono body ?_)
  intro res s' hres
  match res, hres with
  | .error e, z => exact hx pins σ H s e s' I z
  | .ok (.ret u), z => exact I.after z
  | .ok .next, z => exact z.elim
  | .ok .brk, z => exact z.elim
  | .ok .cont, z => exact z.elim
/-- what a method called by a sign asks of its class -/
structure SpC (K : Frag) (C : Addr) (m : Str) (g : Addr) : Prop where
  sp : SpM K C m g
  dq : NoDq K C
  fi : fnIn K g = true
theorem instAt {pins : List (Addr × Obj)} {σ : L2.St} {H : Hp} {s : Shared} (I : Inv X pins σ H s) {a dx : Addr} {fs : List (Str × V)} (ha : H a = some (.ins C dx fs)) : ∃ od, W.InstAt s.heap a (W.instObj C dx) C (some od) := by
  obtain ⟨_, _, _, ho, mA, hns, _⟩ := I.hok a _ ha
  obtain ⟨od, hd, _⟩ := lookIn_ns hns
  exact ⟨od, ho, rfl, rfl, hd⟩
def tGetO (C : Addr) (sp : Sp) (E : XK) (ta tb : TE) : TE := fun σ H Q => ta σ H fun x H1 => tb σ H1 fun y H2 => ∃ a dx fs, x = .ref a ∧ H2 a = some (.ins C dx fs) ∧ sp [.ref a, y] H2 Q E
theorem pe_getO {a b : Expr} {ta tb : TE} {pos : Pos} (S : SpC X.K C "__getitem__" g) (F : FnG X.prog X.w X.K X.mg X.base CX k g fd ps sp) (gd : X.A.guards = some []) (hr : Room (k + 1) X.A) (hb : Binds X.K fd ps []) (hx : Passes CX X E) (ha : PE X a ta) (hb' : PE X b tb)
    (hs : ∀ (o i : Value), subscripted b true o i = runValue (.builtin "lifetime.subscript" ⟨[o, i], []⟩)) : PE X (.Subscript a b pos) (tGetO C sp E ta tb) := by
  refine ⟨fun pins s σ H Q I h => Subscript_ (binT ha hb' I h fun v u s2 x y H2 I2 rx ry q => ?_)⟩
  obtain ⟨p, dx, fs, rfl, hp, q⟩ := q
  obtain rfl : v = Value.ref p := rx
  obtain ⟨m, fr⟩ := I2.fr
  obtain ⟨od, J⟩ := instAt I2 hp
  have isf : isFn X.K (.ref g) = true := by show (typeIn X.K (.ref g) == some (.type "function")) = true; rw [S.sp.fn] <;> rfl
  exact sub_K fr I2.ok.mod.kin J S.sp.at_ S.fi isf (runG1 (dvs := []) F gd hr hb .nil hx I2 (.cons (show RelV (.ref p) (.ref p) from rfl) (.cons ry .nil)) q) (hs _ _)
def rSetO (C : Addr) (sp : Sp) (E : XK) : TSet := fun o i v H Q => ∃ a dx fs, o = .ref a ∧ H a = some (.ins C dx fs) ∧ sp [.ref a, i, v] H (fun _ H' => Q H') E
theorem set_ownR (S : SpC X.K C "__setitem__" g) (F : FnG X.prog X.w X.K X.mg X.base CX k g fd ps sp) (gd : X.A.guards = some []) (hr : Room k X.A) (hb : Binds X.K fd ps []) (hx : Passes CX X E) : PSet X (rSetO C sp E) := by
  intro pins s σ H o i v ov iv u Q I ro ri rv h
  obtain ⟨p, dx, fs, rfl, hp, q⟩ := h
  obtain rfl : ov = Value.ref p := ro
  obtain ⟨_, _, _, ho, _⟩ := I.hok p _ hp
  refine set_own I.kIn ho rfl S.dq S.sp ?_
  refine wpAny_mono (runG (dvs := []) F gd hr hb .nil hx I (.cons (show RelV (.ref p) (.ref p) from rfl) (.cons ri (.cons rv .nil))) q) ?_ (fun _ _ z => z)
  rintro r s' ⟨w, H', I', _, q'⟩
  exact ⟨H', I', q'⟩
end
end Ow
namespace Rd
open PySem.Spec PyProof.Rows
section
variable {K : PySem.W.Frag} {σ : L2.St} {H H' : Hp} {α β : Type}
theorem tupS {a : Addr} {xs : List V} (s : Same H H') (h : SqT K H a xs) : SqT K H' a xs := h.imp (fun r => r.imp (s _ _) (fun ⟨o, e⟩ => ⟨o, s _ _ e⟩)) id
theorem lcW {tl te : TE} {g : TG} {tt : TT} {vs : List Nat} {Q : VK} (k : tl σ H fun x H1 => tLc (iTup K (tC x)) g tt te vs σ H1 Q) : tLc (iTup K tl) g tt te vs σ H Q := k
/-- a comprehension over a tuple of things -/
theorem lcT {tl te : TE} {tt : TT} {vs : List Nat} {j : Nat} {Q : VK} {a : Addr} {xs : List V} {bs : List α} (A : α → V → Hp → Prop) (B : β → V → Hp → Prop) (f : α → Bool) (g : α → β)
    (htl : ∀ R : V → Hp → Prop, R (.ref a) H → tl σ H R) (hl : SqT K H a xs) (hA : Stays A) (hB : Stays B) (pr : Paired (fun b x => A b x H) bs xs) (hz : xs.length ≤ 10000)
    (hw : ∀ x, wipe ((wipe σ vs).set j (some x)) vs = wipe σ vs)
    (turn : ∀ b x H1 (R : Bool → Hp → Prop), b ∈ bs → A b x H → A b x H1 → Same H H1 → (∀ H2, Same H1 H2 → R (f b) H2) → tt ((wipe σ vs).set j (some x)) H1 R)
    (elem : ∀ b x H1 (R : VK), b ∈ bs → f b = true → A b x H → A b x H1 → Same H H1 → (∀ y H2, Same H1 H2 → Off H H1 H2 (B (g b)) y → R y H2) → te ((wipe σ vs).set j (some x)) H1 R)
    (fin : ∀ D ys H1, H D = none → Same H H1 → H1 D = some (.lst ys) → Paired (fun c y => B c y H1) ((bs.filter f).map g) ys → Q (.ref D) H1) :
    tLc (iTup K tl) (gName j) tt te vs σ H Q := by
  have hlen := pair_len pr
  refine htl _ ⟨a, rfl, ⟨xs, hl⟩, fun D hD => ?_⟩
  refine lc_tup (K := K) (a := a) (xs := xs) (fun i H1 => ∃ ys, H1 D = some (.lst ys) ∧ ys.length ≤ i ∧ Same H H1 ∧ ∀ o, Paired (fun c y => B c y (upd H1 D o)) (((bs.take i).filter f).map g) ys) ?_ ?_ ?_ ?_
  · exact ⟨[], upd_same, Nat.le_refl _, sNew hD, fun _ => .nil⟩
  · rintro i H1 hi ⟨ys, _, _, s, _⟩
    exact tupS s hl
  · rintro i x H1 hx ⟨ys, hd, hy, s, pq⟩
    have hi : i < xs.length := (List.getElem?_eq_some_iff.mp hx).1
    obtain ⟨b, hb, hab⟩ := pair_get pr hx
    have mem : b ∈ bs := List.mem_of_getElem? hb
    have tk : bs.take (i + 1) = bs.take i ++ [b] := take_succ hb
    show wipe ((wipe σ vs).set j (some x)) vs = wipe σ vs ∧ _
    refine ⟨hw x, turn b x H1 _ mem hab (hA _ _ _ _ s hab) s fun H2 s2 => ?_⟩
    cases hf : f b with
    | false =>
      rw [if_neg Bool.false_ne_true]
      refine ⟨ys, s2 _ _ hd, by omega, s.trans s2, fun o => ?_⟩
      rw [tk, List.filter_append, List.filter_cons_of_neg (by simp [hf]), List.filter_nil, List.append_nil]
      exact pair_imp (fun c y => hB c y _ _ (sUpd s2)) (pq o)
    | true =>
      rw [if_pos rfl]
      refine elem b x H2 _ mem hf hab (hA _ _ _ _ (s.trans s2) hab) (s.trans s2) fun y H3 s3 hy3 => ?_
      have hd3 := s3 _ _ (s2 _ _ hd)
      have s4 : Same H H3 := (s.trans s2).trans s3
      refine ⟨ys, hd3, szl (by omega), ys ++ [y], upd_same, by rw [List.length_append]; simp; omega, sMut s4 hD, fun o => ?_⟩
      rw [tk, List.filter_append, List.filter_cons_of_pos (by simp [hf]), List.filter_nil, List.map_append, upd_upd]
      exact (pair_imp (fun c z h => hB c z _ _ (sUpd (s2.trans s3)) h) (pq o)).snoc (hy3 D o hD (by rw [s2 _ _ hd]; simp))
  · rintro H1 ⟨ys, hd, hy, s, pq⟩
    refine fin D ys H1 hD s hd ?_
    have pq := pq (.lst ys)
    rw [← hlen, List.take_length, upd_id hd] at pq
    exact pq
end
end Rd
namespace Dt
open PyProof.Rows W6
def dS (r : List Str) : PyData := .list (r.map PyData.str)
def dR (rows : List (List Str)) : PyData := .list (rows.map dS)
def dO : Option (List Str) → PyData
  | none => .none
  | some l => dS l
/-- texts as the laws make them -/
structure Ts (r : List Str) : Prop where
  n : r.length ≤ 100
  w : ∀ w ∈ r, W 100 w
structure Rs (rows : List (List Str)) : Prop where
  n : rows.length ≤ 100
  r : ∀ r ∈ rows, Ts r
theorem strOk_of {n : Nat} {w : Str} (h : W n w) : PyData.strOk w = true := by
  unfold PyData.strOk
  rw [Array.all_eq_true']
  intro c hc
  have := h.low c (by simpa using hc)
  exact decide_eq_true (by omega)
theorem lay_strs : ∀ {r : List Str}, (∀ w ∈ r, W 100 w) → PyData.canLayAll0 (r.map PyData.str) = true
  | [], _ => rfl
  | a :: r, h => by
    have := strOk_of (h a (by simp))
    simp [PyData.canLayAll0, PyData.canLay0, this, lay_strs (r := r) fun w hw => h w (by simp [hw])]
theorem lay_rows : ∀ {rows : List (List Str)}, (∀ r ∈ rows, Ts r) → PyData.canLayAll0 (rows.map dS) = true
  | [], _ => rfl
  | a :: r, h => by
    have := lay_strs (h a (by simp)).w
    simp [PyData.canLayAll0, PyData.canLay0, dS, this]
    exact lay_rows (rows := r) fun w hw => h w (by simp [hw])
theorem dep_strs : ∀ r : List Str, PyData.depthAll (r.map PyData.str) ≤ 1
  | [] => by simp [PyData.depthAll]
  | a :: r => by simp [PyData.depthAll, PyData.depth]; exact dep_strs r
theorem dep_rows : ∀ rows : List (List Str), PyData.depthAll (rows.map dS) ≤ 2
  | [] => by simp [PyData.depthAll]
  | a :: r => by
    have := dep_rows r
    have := dep_strs a
    simp [PyData.depthAll, PyData.depth, dS]
    omega
theorem shaped_dS {r : List Str} (h : ∀ w ∈ r, W 100 w) : SeqAt.shaped (dS r) = true := by
  have := dep_strs r
  simp [SeqAt.shaped, dS, PyData.canLay0, lay_strs h, PyData.depth]
  omega
theorem shaped_dR {r : List (List Str)} (h : ∀ x ∈ r, Ts x) : SeqAt.shaped (dR r) = true := by
  have := dep_rows r
  simp [SeqAt.shaped, dR, PyData.canLay0, lay_rows h, PyData.depth]
  omega
theorem shaped_dO {o : Option (List Str)} (h : ∀ l, o = some l → ∀ w ∈ l, W 100 w) : SeqAt.shaped (dO o) = true := by
  cases o with
  | none => rfl
  | some l => exact shaped_dS (h l rfl)
theorem show_strs : ∀ r : List Str, PyData.showableAll (r.map PyData.str) = true
  | [] => rfl
  | a :: r => by simp [PyData.showableAll, PyData.showable, show_strs r]
theorem show_rows : ∀ rows : List (List Str), PyData.showableAll (rows.map dS) = true
  | [] => rfl
  | a :: r => by simp [PyData.showableAll, PyData.showable, dS, show_strs]; exact show_rows r
theorem nodict_strs : ∀ r : List Str, PyData.hasDictAll (r.map PyData.str) = false
  | [] => rfl
  | a :: r => by simp [PyData.hasDictAll, PyData.hasDict, nodict_strs r]
theorem nodict_rows : ∀ rows : List (List Str), PyData.hasDictAll (rows.map dS) = false
  | [] => rfl
  | a :: r => by simp [PyData.hasDictAll, PyData.hasDict, dS, nodict_strs]; exact nodict_rows r
theorem show_dR (r : List (List Str)) : (dR r).showable = true := by simp [dR, PyData.showable, show_rows]
theorem nodict_dR (r : List (List Str)) : (dR r).hasDict = false := by simp [dR, PyData.hasDict, nodict_rows]
theorem deep_dR (r : List (List Str)) : (dR r).depth ≤ 60 := by
  have := dep_rows r
  simp [dR, PyData.depth]
  omega
theorem show_dO (o : Option (List Str)) : (dO o).showable = true := by
  cases o with
  | none => rfl
  | some l => simp [dO, dS, PyData.showable, show_strs]
theorem nodict_dO (o : Option (List Str)) : (dO o).hasDict = false := by
  cases o with
  | none => rfl
  | some l => simp [dO, dS, PyData.hasDict, nodict_strs]
theorem deep_dO (o : Option (List Str)) : (dO o).depth ≤ 60 := by
  cases o with
  | none => simp [dO, PyData.depth]
  | some l =>
    have := dep_strs l
    simp [dO, dS, PyData.depth]
    omega
theorem from_le : ∀ (ts : List Str) (k : Nat) (acc : Str), (textFrom k acc ts).length ≤ acc.length + (ts.map fun t => t.length + 2).sum
  | [], k, acc => Nat.le_refl _
  | t :: r, k, acc => by
    have ih := from_le r (k + 1) (acc ++ (if k > 0 then ", " else "" : String) ++ t)
    have e : (acc ++ (if k > 0 then ", " else "" : String) ++ t).length ≤ acc.length + 2 + t.length := by
      rw [strLen_append, strLen_append]
      have : (Str.ofString (if k > 0 then ", " else "")).length ≤ 2 := by split <;> decide +kernel
      omega
    rw [List.map_cons, List.sum_cons]
    show (textFrom (k + 1) _ r).length ≤ _
    omega
theorem list_le {ts : List Str} {m : Nat} (h : ∀ t ∈ ts, t.length + 2 ≤ m) : (listText ts).length ≤ 2 + ts.length * m := by
  have s : ∀ l : List Str, (∀ t ∈ l, t.length + 2 ≤ m) → (l.map fun t => t.length + 2).sum ≤ l.length * m := by
    intro l
    induction l with
    | nil => intro _; simp
    | cons a l ih =>
      intro h
      have h1 := h a (by simp)
      have h2 := ih fun t ht => h t (by simp [ht])
      simp only [List.map_cons, List.sum_cons, List.length_cons, Nat.succ_mul]
      omega
  have a := from_le ts 0 "["
  have b := s ts h
  have e : (listText ts).length = (textFrom 0 "[" ts).length + 1 := by
    unfold listText
    rw [strLen_append]
    rfl
  have e1 : Str.length "[" = 1 := by decide +kernel
  omega
theorem shownAll_map : ∀ ds : List PyData, PyData.shownAll ds = ds.map PyData.shown
  | [] => rfl
  | d :: ds => by rw [PyData.shownAll, shownAll_map ds]; rfl
theorem shown_str {w : Str} (h : W 100 w) : (PyData.shown (.str w)).length ≤ 1002 := by
  have := StrLaws.reprText_len w fun c hc => Nat.lt_of_lt_of_le (h.low c hc) (by decide)
  have := h.len
  rw [PyData.shown]
  omega
theorem shown_dS {r : List Str} (h : Ts r) : (dS r).shown.length ≤ 100402 := by
  unfold dS
  rw [PyData.shown, shownAll_map]
  have := list_le (ts := (r.map PyData.str).map PyData.shown) (m := 1004) (by
    intro t ht
    simp only [List.map_map, List.mem_map, Function.comp] at ht
    obtain ⟨w, hw, rfl⟩ := ht
    have := shown_str (h.w w hw)
    omega)
  rw [List.length_map, List.length_map] at this
  have := h.n
  omega
theorem shown_dR {rows : List (List Str)} (h : Rs rows) : (dR rows).shown.length ≤ sizeLine := by
  unfold dR
  rw [PyData.shown, shownAll_map]
  have := list_le (ts := (rows.map dS).map PyData.shown) (m := 100404) (by
    intro t ht
    simp only [List.map_map, List.mem_map, Function.comp] at ht
    obtain ⟨w, hw, rfl⟩ := ht
    have := shown_dS (h.r w hw)
    omega)
  rw [List.length_map, List.length_map] at this
  have := h.n
  have e : sizeLine = 16777216 := sizeLine_eq
  omega
theorem eqv_strs : ∀ a b : List Str, PyData.eqvAll (a.map PyData.str) (b.map PyData.str) = decide (a = b)
  | [], [] => rfl
  | [], _ :: _ => by simp [PyData.eqvAll]
  | _ :: _, [] => by simp [PyData.eqvAll]
  | x :: a, y :: b => by
    have ih := eqv_strs a b
    simp only [List.map_cons, PyData.eqvAll, PyData.eqv, ih]
    by_cases e : x = y
    · subst e; simp
    · simp [e]
theorem eqv_dS (a b : List Str) : PyData.eqv (dS a) (dS b) = decide (a = b) := by
  show PyData.eqv (.list _) (.list _) = _
  rw [PyData.eqv, eqv_strs]
theorem eqv_rows : ∀ a b : List (List Str), PyData.eqvAll (a.map dS) (b.map dS) = decide (a = b)
  | [], [] => rfl
  | [], _ :: _ => by simp [PyData.eqvAll]
  | _ :: _, [] => by simp [PyData.eqvAll]
  | x :: a, y :: b => by
    have ih := eqv_rows a b
    simp only [List.map_cons, PyData.eqvAll, eqv_dS, ih]
    by_cases e : x = y
    · subst e; simp
    · simp [e]
theorem eqv_dR (a b : List (List Str)) : PyData.eqv (dR a) (dR b) = decide (a = b) := by
  show PyData.eqv (.list _) (.list _) = _
  rw [PyData.eqv, eqv_rows]
theorem eqv_dO (a b : Option (List Str)) : PyData.eqv (dO a) (dO b) = decide (a = b) := by
  cases a with
  | none =>
    cases b with
    | none => rfl
    | some l => show PyData.eqv .none (.list _) = _; simp [PyData.eqv]
  | some k =>
    cases b with
    | none => show PyData.eqv (.list _) .none = _; simp [PyData.eqv]
    | some l => rw [show dO (some k) = dS k from rfl, show dO (some l) = dS l from rfl, eqv_dS]; simp
section
variable {K : PySem.W.Frag} {H : Hp}
theorem dp_strs : ∀ r : List Str, DpAll K H (r.map V.str) (r.map PyData.str)
  | [] => .nil
  | a :: r => .cons (.str a) (dp_strs r)
theorem dp_S {p : Addr} {r : List Str} (h : SqL K H p (r.map V.str)) : Dp K H (.ref p) (dS r) := .lst h (dp_strs r)
end
theorem shown_dO {o : Option (List Str)} (h : ∀ l, o = some l → Ts l) : (dO o).shown.length ≤ sizeLine := by
  cases o with
  | none => show (PyData.shown .none).length ≤ _; rw [PyData.shown]; exact Nat.le_trans (by decide +kernel : Str.length "None" ≤ 4) (by decide)
  | some l => exact Nat.le_trans (shown_dS (h l rfl)) (by decide)
end Dt
/-! == and != of an instance of an own class, by its own __eq__, and len by its own __len__ -/
namespace Ob
open PySem.Spec PyProof.Rows
section
variable {prog : Program} {w : World} {A : Around} {E : Value → Shared → Prop} {s : Shared} {K : PySem.W.Frag} {x C f L : Addr} {tb b : Value} {h₀ : Heap} {m : Str → Option Value} {ox : Obj} {od : Option Obj}
/-- the outcome of == as != asks it -/
def NeBack (Q : Value → Shared → Prop) (v : Value) (s' : Shared) : Prop := ∃ c : Bool, v = .bool c ∧ Q (.bool (!c)) s'
theorem ne_entry {Q : Fin → Shared → Prop} (hu : A.units < cLine) (X : K.In s.heap) (I : PySem.W.InstAt s.heap x ox C od) (hs : PySem.W.findIn K (.ref C) "__eq__" = some (some (.ref f))) (hf : PySem.W.isFn K (.ref f) = true)
    (h : wpAny (model prog w) A (call (.ref f) [.ref x, b]) (fun v s' => ∃ c : Bool, v = .bool c ∧ Q (.done (.ret (.bool (!c)))) s') E s) : wpAny (model prog w) A (Builtin.«object.__ne__» ⟨[.ref x, b], []⟩) Q E s := by
  unfold Builtin.«object.__ne__»
  refine wpAny_bind (wpAny_pure (wpAny_bind (wpAny_cRoomFor hu ?_)))
  refine wpAny_bind (PySem.W.ifBound_K X I hs hf (wpAny_mono h (fun v s' z => ?_) fun _ _ e => e))
  obtain ⟨c, rfl, q⟩ := z
  show wpAny _ _ (truthy (.bool c) >>= fun r => ret (.bool (!r))) _ _ _
  exact wpAny_bind (wpAny_truthy_bool (wpAny_pure q))
theorem ne_call {Q : Value → Shared → Prop} (hu : A.units + 1 < cLine) (X : K.In s.heap) (I : PySem.W.InstAt s.heap x ox C od) (hs : PySem.W.findIn K (.ref C) "__eq__" = some (some (.ref f))) (hf : PySem.W.isFn K (.ref f) = true) (hm : PySem.W.mroIn K C (.type "object") = some true)
    (h : wpAny (model prog w) A.in1 (call (.ref f) [.ref x, b]) (NeBack Q) E s) : wpAny (model prog w) A (call (.builtin "object.__ne__") [.ref x, b]) Q E s := by
  have sub : PySem.W.Looks (model prog w) s.heap (isInstance (.ref x) (.type "object")) true := I.type.andThen (PySem.W.looks_mroIn X hm)
  refine wpAny_call (codeAny_call_builtin F.cmp_object.ne.plain F.cmpEntry_ne (PySem.W.check_slot F.cmpKind_ne F.cmpSplit_ne sub (F.cmpArgs_ne _ _) ?_))
  exact ne_entry (A := A.in1) hu X I hs hf (wpAny_mono h (fun v s' z => z) fun _ _ e => e)
theorem ne_K {Q : Value → Shared → Prop} (hu : A.units + 1 < cLine) (X : K.In s.heap) (I : PySem.W.InstAt s.heap x ox C od) (hb : PySem.W.Looks (model prog w) s.heap (typeOf b) tb) (hn : PySem.W.notFirst K C tb = true)
    (hne : PySem.W.findIn K (.ref C) "__ne__" = some (some (.builtin "object.__ne__"))) (hs : PySem.W.findIn K (.ref C) "__eq__" = some (some (.ref f))) (hf : PySem.W.isFn K (.ref f) = true) (hm : PySem.W.mroIn K C (.type "object") = some true)
    (h : wpAny (model prog w) A.in1 (call (.ref f) [.ref x, b]) (NeBack Q) E s) : wpAny (model prog w) A (richCompare .NotEq (.ref x) b) Q E s := by
  have bnd : wpAny (model prog w) A (callSpecialIfBound? (.ref x) "__ne__" [b]) (fun r s' => ∃ c : Bool, r = some (.bool (!c)) ∧ Q (.bool (!c)) s') E s := by
    simp only [callSpecialIfBound?, bindSpecialIfBound?]
    refine wpAny_holding (wpAny_bind (wpAny_bind (wpAny_bind (I.type.here ((PySem.W.looks_findIn X hne).here ?_)))))
    simp only [F.cmp_object.ne.bind]
    refine wpAny_bind (wpAny_askSetting (wpAny_ite ?_))
    have fin : wpAny (model prog w) A (call (.builtin "object.__ne__") ([.ref x] ++ [b]) >>= fun v => pure (some v)) (fun r s' => ∃ c : Bool, r = some (.bool (!c)) ∧ Q (.bool (!c)) s') E s :=
      wpAny_bind (ne_call hu X I hs hf hm (wpAny_mono h (fun v s' ⟨c, e, q⟩ => ⟨c, e, wpAny_pure ⟨c, rfl, q⟩⟩) fun _ _ e => e))
    split
    · exact wpAny_bind (wpAny_pure (wpAny_pure fin))
    · exact wpAny_tryCatch (wpAny_bind (wpAny_pure (wpAny_pure fin)))
  have one : wpAny (model prog w) A (tryCompare (.ref x) "__ne__" b) (fun r s' => ∃ c : Bool, r = some (.bool (!c)) ∧ Q (.bool (!c)) s') E s := by
    unfold tryCompare
    refine wpAny_bind (wpAny_mono bnd (fun r s' z => ?_) fun _ _ e => e)
    obtain ⟨c, rfl, q⟩ := z
    exact wpAny_pure ⟨c, rfl, q⟩
  have hu0 : A.units < cLine := Nat.lt_of_succ_lt hu
  unfold richCompare
  simp only [oneThing_ref]
  refine wpAny_holding (wpAny_bind (wpAny_cRoomFor hu0 (wpAny_bind (I.type.here (wpAny_bind (hb.here ?_))))))
  split
  · rename_i q
    have e : PySem.W.subIn K tb (.ref C) = some false := (Bool.or_eq_true_iff.mp hn).elim (fun e => by rw [beq_iff_eq.mp e] at q; simp at q) (fun e => beq_iff_eq.mp e)
    refine wpAny_bind ((PySem.W.looks_subIn X e).here ?_)
    simp only [Bool.false_eq_true, if_false]
    refine wpAny_bind (wpAny_mono one (fun r s' z => ?_) fun _ _ e => e)
    obtain ⟨c, rfl, hq⟩ := z
    exact wpAny_pure hq
  · refine wpAny_bind (wpAny_pure ?_)
    simp only [Bool.false_eq_true, if_false]
    refine wpAny_bind (wpAny_mono one (fun r s' z => ?_) fun _ _ e => e)
    obtain ⟨c, rfl, hq⟩ := z
    exact wpAny_pure hq
end
section
variable {X : Cx} {CX : CXT} {k j : Nat} {C : Addr} {sp : Sp} {E : XK}
/-- the own == of the class at C -/
def EqCal (P : Program) (w : World) (K : PySem.W.Frag) (mg : Str → Option Value) (base : Heap) (CX : CXT) (C : Addr) (k : Nat) (sp : Sp) : Prop :=
  ∃ (f : Addr) (fd : FuncData) (ps : List Str), FnG P w K mg base CX k f fd ps sp ∧ PySem.W.findIn K (.ref C) "__eq__" = some (some (.ref f)) ∧ PySem.W.isFn K (.ref f) = true ∧ Binds K fd ps []
/-- what it promises must be a truth value -/
def rEqO (K : PySem.W.Frag) (C : Addr) (sp : Sp) (neg : Bool) : R2 := fun x y H Q => ∃ (a dx : Addr) (fs : List (Str × V)) (t : Value), x = .ref a ∧ H a = some (.ins C dx fs) ∧ TyX K H y t ∧ PySem.W.notFirst K C t = true ∧
  sp [.ref a, y] H (fun v H' => ∃ c : Bool, v = .bl c ∧ Q (.bl (if neg = true then !c else c)) H') E0
theorem op_eqO (M : EqCal X.prog X.w X.K X.mg X.base CX C k sp) (g : X.A.guards = some []) (hr : Room j X.A) (hk : k ≤ j) (hx : Passes CX X E0) : OpR X (compareOp .Eq) (rEqO X.K C sp false) := by
  obtain ⟨f, fd, ps, F, hs, hf, hb⟩ := M
  intro pins s σ H x y v u Q I rx ry h
  obtain ⟨a, dx, fs, t, rfl, ha, ty, hn, q⟩ := h
  obtain rfl : v = Value.ref a := rx
  obtain ⟨od, J⟩ := Ow.instAt I ha
  obtain ⟨m, hF⟩ := I.fr
  obtain ⟨Pk, Z, pk, _⟩ := kit_of I ry ty
  refine PySem.W.cmp_K (op := .Eq) (tb := t) hr.units0 hF I.ok.mod.kin J (Z.ty _ _ I.kIn pk) hn hs hf (wpAny_call (codeAny_mono (goG F g (hr.mono hk) I.env0 I.kIn hb (.cons (show RelV (.ref a) (.ref a) from rfl) (.cons ry .nil)) q) fun r s' z => ?_))
  match r, z with
  | .error er, z => exact hx pins σ H s er s' I z
  | .ok .next, z => exact z.elim
  | .ok .brk, z => exact z.elim
  | .ok .cont, z => exact z.elim
  | .ok (.ret u'), z =>
    obtain ⟨v, H', I', rv, c, rfl, q'⟩ := I.after z
    obtain rfl : u' = Value.bool c := rv
    exact ⟨.bl c, H', I', rfl, q'⟩
theorem op_neO (M : EqCal X.prog X.w X.K X.mg X.base CX C k sp) (hne : PySem.W.findIn X.K (.ref C) "__ne__" = some (some (.builtin "object.__ne__"))) (hm : PySem.W.mroIn X.K C (.type "object") = some true)
    (g : X.A.guards = some []) (hr : Room j X.A) (hk : k + 1 ≤ j) (hx : Passes CX X E0) : OpR X (compareOp .NotEq) (rEqO X.K C sp true) := by
  obtain ⟨f, fd, ps, F, hs, hf, hb⟩ := M
  intro pins s σ H x y v u Q I rx ry h
  obtain ⟨a, dx, fs, t, rfl, ha, ty, hn, q⟩ := h
  obtain rfl : v = Value.ref a := rx
  obtain ⟨od, J⟩ := Ow.instAt I ha
  obtain ⟨Pk, Z, pk, _⟩ := kit_of I ry ty
  refine ne_K (tb := t) (by have := hr.un; omega) I.kIn J (Z.ty _ _ I.kIn pk) hn hne hs hf hm (wpAny_call (codeAny_mono (goG F (A := X.A.in1) g (hr.mono hk).in1 I.env0.in1 I.kIn hb (.cons (show RelV (.ref a) (.ref a) from rfl) (.cons ry .nil)) q) fun r s' z => ?_))
  match r, z with
  | .error er, z => exact hx pins σ H s er s' I z
  | .ok .next, z => exact z.elim
  | .ok .brk, z => exact z.elim
  | .ok .cont, z => exact z.elim
  | .ok (.ret u'), z =>
    obtain ⟨v, H', I', rv, c, rfl, q'⟩ := I.after z
    obtain rfl : u' = Value.bool c := rv
    exact ⟨c, rfl, .bl (!c), H', I', rfl, q'⟩
/-- the own len -/
def LenCal (P : Program) (w : World) (K : PySem.W.Frag) (mg : Str → Option Value) (base : Heap) (CX : CXT) (C : Addr) (k : Nat) (sp : Sp) : Prop :=
  ∃ (f : Addr) (fd : FuncData) (ps : List Str), FnG P w K mg base CX k f fd ps sp ∧ PySem.W.findIn K (.ref C) "__len__" = some (some (.ref f)) ∧ PySem.W.isFn K (.ref f) = true ∧ Binds K fd ps []
def rLenO (C : Addr) (sp : Sp) : List V → Hp → VK → Prop := fun xs H Q => ∃ (a dx : Addr) (fs : List (Str × V)), xs = [.ref a] ∧ H a = some (.ins C dx fs) ∧ sp [.ref a] H (fun v H' => ∃ n : Int, v = .int n ∧ 0 ≤ n ∧ n < 2 ^ 63 ∧ Q (.int n) H') E0
theorem call_lenO (M : LenCal X.prog X.w X.K X.mg X.base CX C k sp) (g : X.A.guards = some []) (hr : Room j X.A) (hk : k + 1 ≤ j) (hx : Passes CX X E0) : CallR X (.builtin "len") (rLenO C sp) := by
  obtain ⟨f, fd, ps, F, hs, hf, hb⟩ := M
  intro pins s σ H xs us Q I r h
  obtain ⟨a, dx, fs, rfl, ha, q⟩ := h
  obtain ⟨u, rfl, ru⟩ := vals1 r
  obtain rfl : u = Value.ref a := ru
  obtain ⟨od, J⟩ := Ow.instAt I ha
  obtain ⟨m, hF⟩ := I.fr
  refine PySem.W.len_K hF I.ok.mod.kin J hs hf (wpAny_call (codeAny_mono (goG F (A := X.A.in1) g (hr.mono hk).in1 I.env0.in1 I.kIn hb (.cons (show RelV (.ref a) (.ref a) from rfl) .nil) q) fun r s' z => ?_))
  match r, z with
  | .error er, z => exact hx pins σ H s er s' I z
  | .ok .next, z => exact z.elim
  | .ok .brk, z => exact z.elim
  | .ok .cont, z => exact z.elim
  | .ok (.ret u'), z =>
    obtain ⟨v, H', I', rv, n, rfl, h0, h1, q'⟩ := I.after z
    obtain ⟨t, rfl⟩ := (show ∃ t, u' = Value.int n t from rv)
    exact ⟨⟨h0, h1⟩, .int n, H', I'.tok _, ⟨_, rfl⟩, q'⟩
end
end Ob
/-! == and != of dicts whose values are data, or dicts again: both outcomes -/
namespace Ob
open PySem.Spec PyProof.Rows
section
variable {prog : Program} {w : World} {Ky : Type} [DecidableEq Ky] {knd : KeyKind prog w Ky} {A : Around} {s : Shared} {a b : Addr} {ka kb : List (Ky × Value)} {r : Bool}
theorem neP_dicts (ha : (a == sysModules) = false) (hb : (b == sysModules) = false) (da : s.heap.DictOf knd a ka) (db : s.heap.DictOf knd b kb) (hu : A.units < cLine) (hits : ka.length = kb.length → PySem.W.KeqHitsP prog w A.in1 s kb ka r)
    (E Q : Value → Shared → Prop) (h : Q (.bool (!(ka.length == kb.length && r))) s) : wpAny (model prog w) A (richCompare .NotEq (.ref a) (.ref b)) Q E s := by
  refine wpAny_richCompare_same_room (op := .NotEq) da.typeIs db.typeIs PySem.F.slot_dict_ne ?_ hu
  refine wpAny_call_entry PySem.F.slot_dict_ne da.typeIs PySem.F.entry_dict_ne ?_ (PySem.F.args_dict_ne_2 _ _)
  show wpAny _ _ (Builtin.Dict.dictSlotArgs "__ne__" ⟨[.ref a, .ref b], []⟩ >>= fun p => _) _ _ s
  unfold Builtin.Dict.dictSlotArgs
  refine wpAny_bind (wpAny_bind (wpAny_notOrdered_dict da.typeIs (show wpAny _ _ (pure (Value.ref a, Value.ref b)) _ _ s from wpAny_pure ?_)))
  refine wpAny_bind (wpAny_isInstance (T := "dict") db.typeIs PySem.F.sub_dict_dict ?_)
  rw [show (!true) = false from rfl, if_neg Bool.false_ne_true]
  refine wpAny_bind (wpAny_pure (wpAny_bind (wpAny_pure (wpAny_bind (PySem.W.samePairsP ha hb da db hits ?_)))))
  exact wpAny_pure ⟨_, rfl, (fun x => nomatch x), by simpa using h⟩
end
/-- what the values under the keys of ks say, one after another, by those in ls -/
inductive HitF (F : V → V → Bool → Prop) (ls : List (Key × V)) : List (Key × V) → Bool → Prop
  | nil : HitF F ls [] true
  | miss {k : Key} {v : V} {r : List (Key × V)} : valV ls k = none → HitF F ls ((k, v) :: r) false
  | hit {k : Key} {v y : V} {r : List (Key × V)} {e b : Bool} : valV ls k = some y → F v y e → HitF F ls r b → HitF F ls ((k, v) :: r) (e && b)
def EqB (K : PySem.W.Frag) (H : Hp) : Nat → V → V → Bool → Prop
  | 0 => fun x y b => ∃ d e, Dp K H x d ∧ Dp K H y e ∧ SeqAt.shaped d = true ∧ SeqAt.shaped e = true ∧ b = PyData.eqv d e
  | n + 1 => fun x y b => (∃ d e, Dp K H x d ∧ Dp K H y e ∧ SeqAt.shaped d = true ∧ SeqAt.shaped e = true ∧ b = PyData.eqv d e) ∨
      ∃ a c ks ls r, x = .ref a ∧ y = .ref c ∧ a ≠ c ∧ H a = some (.dK ks) ∧ H c = some (.dK ls) ∧ HitF (EqB K H n) ls ks r ∧ b = (ks.length == ls.length && r)
theorem hitF_run {P : Program} {w : World} {A : Around} {s : Shared} {F : V → V → Bool → Prop} (ih : ∀ x y b v u, F x y b → RelV x v → RelV y u → SeqAt.EqP P w A s v u b) {ls : List (Key × V)} {vb : List (Key × Value)} (rb : KV ls vb) :
    ∀ {ks : List (Key × V)} {va : List (Key × Value)} {r : Bool}, KV ks va → HitF F ls ks r → PySem.W.KeqHitsP P w A s vb va r
  | [], _, _, .nil, .nil => .nil
  | (k, v) :: ks, (k', u) :: va, _, .cons h t, z => by
    obtain ⟨h1, h2⟩ := h
    obtain rfl : k = k' := h1
    have lk : RelO (valV ls k) (valueAt vb k) := rb.val k
    cases z with
    | miss hn =>
      rw [hn] at lk
      exact .miss (RelO.none_of lk)
    | hit hy hf hr =>
      rw [hy] at lk
      obtain ⟨y', ey, ry⟩ := lk.some_of
      exact .hit ey (ih _ _ _ _ _ hf h2 ry) (hitF_run ih rb t hr)
section
variable {X : Cx} {pins : List (Addr × Obj)} {σ : L2.St} {H : Hp} {s : Shared}
theorem eqB_run (I : Inv X pins σ H s) : ∀ (n : Nat) (A : Around), A.units + n + 66 < cLine → ∀ (x y : V) (b : Bool) (v u : Value), EqB X.K H n x y b → RelV x v → RelV y u → SeqAt.EqP X.prog X.w A s v u b := by
  have dat : ∀ (A : Around), A.units + 64 < cLine → ∀ (x y : V) (b : Bool) (v u : Value), (∃ d e, Dp X.K H x d ∧ Dp X.K H y e ∧ SeqAt.shaped d = true ∧ SeqAt.shaped e = true ∧ b = PyData.eqv d e) → RelV x v → RelV y u → SeqAt.EqP X.prog X.w A s v u b := by
    rintro A hu x y b v u ⟨d, e, hd, he, sd, se, rfl⟩ rx ry
    obtain ⟨as, r1⟩ := Dp.reads I d x v hd rx
    obtain ⟨bs, r2⟩ := Dp.reads I e y u he ry
    exact (SeqAt.eqAt_reads d e A s v u as bs r1 r2 (SeqAt.canLay_of_shaped sd) (SeqAt.canLay_of_shaped se) (SeqAt.room_of_shaped sd hu)).eqP
  intro n
  induction n with
  | zero => exact fun A hu x y b v u h rx ry => dat A (by omega) x y b v u h rx ry
  | succ n ih =>
    intro A hu x y b v u h rx ry
    rcases h with h | ⟨a, c, ks, ls, r, rfl, rfl, ne, ha, hc, hf, rfl⟩
    · exact dat A (by omega) x y b v u h rx ry
    · obtain rfl : v = Value.ref a := rx
      obtain rfl : u = Value.ref c := ry
      obtain ⟨_, ya, va, ra, da⟩ := (show ObjOk X.prog X.w H s.heap a (.dK ks) from I.hok a _ ha)
      obtain ⟨_, yb, vb, rb, db⟩ := (show ObjOk X.prog X.w H s.heap c (.dK ls) from I.hok c _ hc)
      have hit := hitF_run (ih A.in1 (by show A.units + 1 + n + 66 < cLine; omega)) rb ra hf
      have e1 : va.length = ks.length := (Paired.length ra).symm
      have e2 : vb.length = ls.length := (Paired.length rb).symm
      exact SeqAt.eqP_refs ne fun E Q q => PySem.W.rcP_dicts ya yb da db (by omega) (fun _ => hit) E Q (by rw [e1, e2]; exact q)
end
section
variable {X : Cx}
def rEqX (K : PySem.W.Frag) (neg : Bool) : R2 := fun x y H Q => ∃ a c ks ls r, x = .ref a ∧ y = .ref c ∧ H a = some (.dK ks) ∧ H c = some (.dK ls) ∧ HitF (EqB K H 2) ls ks r ∧ Q (.bl (if neg = true then !(ks.length == ls.length && r) else ks.length == ls.length && r)) H
theorem op_eqX (hu : X.A.units + 80 < cLine) : OpR X (compareOp .Eq) (rEqX X.K false) := by
  intro pins s σ H x y v u Q I rx ry h
  obtain ⟨a, c, ks, ls, r, rfl, rfl, ha, hc, hf, q⟩ := h
  obtain rfl : v = Value.ref a := rx
  obtain rfl : u = Value.ref c := ry
  obtain ⟨_, ya, va, ra, da⟩ := (show ObjOk X.prog X.w H s.heap a (.dK ks) from I.hok a _ ha)
  obtain ⟨_, yb, vb, rb, db⟩ := (show ObjOk X.prog X.w H s.heap c (.dK ls) from I.hok c _ hc)
  have hit := hitF_run (eqB_run I 2 X.A.in1 (by show X.A.units + 1 + 2 + 66 < cLine; omega)) rb ra hf
  have e1 : va.length = ks.length := (Paired.length ra).symm
  have e2 : vb.length = ls.length := (Paired.length rb).symm
  exact PySem.W.rcP_dicts ya yb da db (by omega) (fun _ => hit) _ _ ⟨_, H, I, (by rw [e1, e2]; rfl), q⟩
theorem op_neX (hu : X.A.units + 80 < cLine) : OpR X (compareOp .NotEq) (rEqX X.K true) := by
  intro pins s σ H x y v u Q I rx ry h
  obtain ⟨a, c, ks, ls, r, rfl, rfl, ha, hc, hf, q⟩ := h
  obtain rfl : v = Value.ref a := rx
  obtain rfl : u = Value.ref c := ry
  obtain ⟨_, ya, va, ra, da⟩ := (show ObjOk X.prog X.w H s.heap a (.dK ks) from I.hok a _ ha)
  obtain ⟨_, yb, vb, rb, db⟩ := (show ObjOk X.prog X.w H s.heap c (.dK ls) from I.hok c _ hc)
  have hit := hitF_run (eqB_run I 2 X.A.in1 (by show X.A.units + 1 + 2 + 66 < cLine; omega)) rb ra hf
  have e1 : va.length = ks.length := (Paired.length ra).symm
  have e2 : vb.length = ls.length := (Paired.length rb).symm
  exact neP_dicts ya yb da db (by omega) (fun _ => hit) _ _ ⟨_, H, I, (by rw [e1, e2]; rfl), q⟩
end
end Ob
/-! len(set(t)) of a tuple of texts: how many different ones -/
namespace Ss
open PySem.Spec PyProof.Rows
/-- how many different texts are among the first i -/
def dcN (xs : List Str) : Nat → Nat
  | 0 => 0
  | i + 1 => if (xs.take i).any (· == xs.getD i Str.empty) = true then dcN xs i else dcN xs i + 1
theorem dcN_le (xs : List Str) : ∀ i, dcN xs i ≤ i
  | 0 => Nat.le_refl _
  | i + 1 => by
    have := dcN_le xs i
    show (if (xs.take i).any (· == xs.getD i Str.empty) = true then dcN xs i else dcN xs i + 1) ≤ i + 1
    split <;> omega
theorem any_eq {xs : List Str} {x : Str} : xs.any (· == x) = true ↔ x ∈ xs := by
  rw [List.any_eq_true]
  exact ⟨fun ⟨y, m, e⟩ => by rw [← beq_iff_eq.mp e]; exact m, fun m => ⟨x, m, beq_self_eq_true x⟩⟩
theorem getD_at {xs : List Str} {i : Nat} (h : i < xs.length) : xs.getD i Str.empty = xs[i] := by
  rw [List.getD_eq_getElem?_getD, List.getElem?_eq_getElem h] <;> rfl
theorem dcN_nodup {xs : List Str} (nd : xs.Nodup) : ∀ i, i ≤ xs.length → dcN xs i = i
  | 0, _ => rfl
  | i + 1, h => by
    show (if (xs.take i).any (· == xs.getD i Str.empty) = true then dcN xs i else dcN xs i + 1) = i + 1
    have hi : i < xs.length := h
    have ne : ¬ (xs.take i).any (· == xs.getD i Str.empty) = true := fun z => by
      rw [any_eq, getD_at hi] at z
      obtain ⟨j, hj, e⟩ := List.mem_iff_getElem.mp z
      rw [List.getElem_take] at e
      rw [List.length_take] at hj
      have := (List.getElem_inj nd).mp e
      omega
    rw [if_neg ne, dcN_nodup nd i (Nat.le_of_lt hi)]
theorem nodup_dcN {xs : List Str} : ∀ i, i ≤ xs.length → dcN xs i = i → (xs.take i).Nodup
  | 0, _, _ => by simp
  | i + 1, h, e => by
    have hi : i < xs.length := h
    have e' : (if (xs.take i).any (· == xs.getD i Str.empty) = true then dcN xs i else dcN xs i + 1) = i + 1 := e
    have le := dcN_le xs i
    by_cases c : (xs.take i).any (· == xs.getD i Str.empty) = true
    · rw [if_pos c] at e'; omega
    · rw [if_neg c] at e'
      have ih := nodup_dcN i (Nat.le_of_lt hi) (by omega)
      have nm : xs[i] ∉ xs.take i := fun z => c (by rw [any_eq, getD_at hi]; exact z)
      rw [List.take_add_one, List.getElem?_eq_getElem hi]
      rw [List.nodup_append]
      refine ⟨ih, by simp, fun a ha b hb z => ?_⟩
      have hb : b = xs[i] := by simpa using hb
      subst z hb
      exact nm ha
theorem dc_iff {xs : List Str} : dcN xs xs.length = xs.length ↔ xs.Nodup := by
  refine ⟨fun e => ?_, fun nd => dcN_nodup nd _ (Nat.le_refl _)⟩
  have := nodup_dcN xs.length (Nat.le_refl _) e
  rwa [List.take_length] at this
section
variable {P : Program} {w : World} {A : Around} {E : Value → Shared → Prop} {s : Shared}
theorem upd_texts {I : Addr} {fp wr : List Addr} {G : Array GenState → Array GenState → Prop} {n : Nat} {Pv : Nat → Value → Prop} {St : Nat → Shared → Prop} {R : Result → Shared → Prop} (W : WalksS P w A.in1 I fp wr G n Pv St) (S : Addr) (hSf : S ∉ fp)
    (xs : List Str) (hn : n ≤ xs.length) (hb : n + 1 < scanBound) (hval : ∀ i v, Pv i v → ∃ t, v = .str (xs.getD i Str.empty) t) : ∀ (k i : Nat) (s : Shared), n - i = k → i ≤ n → St i s → s.heap.SetOf (PySem.strKind P w) S (fun z => (xs.take i).any (· == z)) (dcN xs i) →
      (∀ s', Moved (S :: wr) G s s' → s'.heap.SetOf (PySem.strKind P w) S (fun z => (xs.take n).any (· == z)) (dcN xs n) → R (.ok (.ret .none)) s') → codeAny (model P w) A (.builtin "set.update.loop" ⟨[.ref S, .ref I], []⟩) R s := by
  have hSw : S ∉ wr := fun h => hSf (W.sub _ h)
  have more : ∀ b ∈ wr, b ∈ S :: wr := fun b hb => List.mem_cons_of_mem _ hb
  have stay : ∀ {s1 s2 : Shared} {G' : Array GenState → Array GenState → Prop} {p : Str → Bool} {c : Nat}, Moved wr G' s1 s2 → s1.heap.SetOf (PySem.strKind P w) S p c → s2.heap.SetOf (PySem.strKind P w) S p c := fun hm ⟨o, es, ep, t, ho, rest⟩ => ⟨o, es, ep, t, hm.heap S _ hSw ho, rest⟩
  intro k
  induction k with
  | zero =>
    intro i s hk hi hst hS hR
    obtain rfl : i = n := by omega
    refine codeAny_builtin F.entry_set_update_loop ?_
    rw [Around.under_plainId F.plain_set_update_loop _]
    exact (show wpAny _ A.in1 (pyNext (.ref I) >>= _) _ _ s from wpAny_bind (W.done s _ _ hst fun s' hm => (show wpAny _ A.in1 (ret Value.none) _ _ s' from wpAny_pure (hR s' (hm.mono more) (stay hm hS)))))
  | succ k ih =>
    intro i s hk hi hst hS hR
    have hlt : i < n := by omega
    refine codeAny_builtin F.entry_set_update_loop ?_
    rw [Around.under_plainId F.plain_set_update_loop _]
    refine (show wpAny _ A.in1 (pyNext (.ref I) >>= _) _ _ s from wpAny_bind (W.item i s _ _ hlt hst fun v s' hP hst' hm => ?_))
    obtain ⟨t, rfl⟩ := hval i v hP
    have hS1 := stay hm hS
    refine (show wpAny _ A.in1 (holding [Value.str (xs.getD i Str.empty) t] (setAdd S (.str (xs.getD i Str.empty) t)) >>= _) _ _ s' from wpAny_bind (wpAny_holding ?_))
    unfold setAdd
    refine wpAny_holding (wpAny_bind ((PySem.strKind P w).pyHash (k := xs.getD i Str.empty) (strKind_is _ _ _ _) ?_))
    have hle := dcN_le xs i
    refine wpAny_setAddHashed_of (knd := PySem.strKind P w) (s := { s' with toks := s'.toks + 1 }) (strKind_is _ _ _ _) rfl hS1 (by omega) fun h' hsb hS2 => ?_
    have hS3 : h'.SetOf (PySem.strKind P w) S (fun z => (xs.take (i + 1)).any (· == z)) (dcN xs (i + 1)) := by
      refine SetOf_congr hS2 (fun z => ?_) rfl
      have hx : i < xs.length := by omega
      show ((xs.take i).any (· == z) || decide (z = xs.getD i Str.empty)) = (xs.take (i + 1)).any (· == z)
      rw [List.take_add_one, List.getElem?_eq_getElem hx, getD_at hx, List.any_append]
      congr 1
      show decide (z = xs[i]) = ((xs[i] == z) || false)
      rw [Bool.or_false, Bool.eq_iff_iff, decide_eq_true_iff, beq_iff_eq]
      exact eq_comm
    refine wpAny_pure ⟨plainId_quiet F.plain_set_update_loop _, ih (i + 1) _ (by omega) hlt (W.frame _ s' _ _ hst' (Nat.le_succ _) fun b hb o e => ?_) hS3 fun s'' hm2 hS4 => ?_⟩
    · exact (hsb.2 b (fun h : b = S => hSf (by rw [← h]; exact hb))).trans e
    · refine hR s'' (Moved.trans W.gtrans ((hm.mono more).then_heap (Nat.le_succ _) fun b o hb e => ?_) hm2) hS4
      exact (hsb.2 b (fun h : b = S => hb (by rw [h]; exact List.mem_cons_self))).trans e
abbrev setO (led : Bool) : Obj := { cls := .type "set", dict := none, data := .set #[] 0 (.fresh 0 0 led) }
set_option maxHeartbeats 8000000 in
theorem set_texts {l : Addr} {items : Array Value} {xs : List Str} {Q : Value → Shared → Prop} (hh : A.handled = none) (hl : s.heap.IsTuple l items) (hi : StrsAre items.toList xs) (hb : xs.length + 1 < scanBound)
    (h : ∀ (h' : Heap) (tk : Nat), h'.SetOf (PySem.strKind P w) s.heap.objs.size (fun z => xs.any (· == z)) (dcN xs xs.length) → (∀ b o, b < s.heap.objs.size → s.heap.get? b = some o → h'.get? b = some o) → Q (.ref s.heap.objs.size) { s with heap := h', toks := tk }) :
    wpAny (model P w) A (call (.type "set") [.ref l]) Q E s := by
  obtain ⟨c, tl, hmro⟩ := F.called_set.mro
  have hmade := F.called_set.made; have hsub := F.called_set.sub
  refine wpAny_call (codeAny_of_tree (show wpAny _ _ (callAny (.type "set") _) _ _ _ from wpAny_pure ⟨Code.quiet_builtin _ (by decide +kernel), codeAny_builtin F.entry_type_call ?_⟩))
  rw [Around.under_plain (weight_type_call_type "set" [.ref l] []) rfl]
  have h1 := F.called_set.notType; have h2 := F.called_set.canCreate; have hct := F.typeCall_set_1 (.ref l)
  repeat (any_goals (first | assumption | wp_step))
  have hsz : xs.length = items.size := by rw [← StrsAre.len_eq hi, Array.length_toList]
  refine codeAny_mono (code_set_new_1 (.ref l) (E := E) (Q₁ := fun obj s₁ => ∃ led : Bool, obj = .ref s.heap.objs.size ∧ s₁ = { s with heap := s.heap.push (setO led) }) fun led => ⟨led, rfl, rfl⟩) fun r s₁ hr => ?_
  match r, hr with
  | .error e, hr => exact hr
  | .ok .next, hr => exact hr.elim
  | .ok .brk, hr => exact hr.elim
  | .ok .cont, hr => exact hr.elim
  | .ok (.ret obj), hr =>
    obtain ⟨led, rfl, rfl⟩ := hr
    have hS : (s.heap.push (setO led)).get? s.heap.objs.size = some (setO led) := Heap.get?_push_size _ rfl
    have hT : Shared.TypeIs { s with heap := s.heap.push (setO led) } (.ref s.heap.objs.size) "set" := ⟨_, hS, rfl⟩
    have hli := F.called_set.init.lookup; have hbi := F.called_set.init.bind (.ref s.heap.objs.size)
    repeat (any_goals (first | assumption | wp_step))
    refine codeAny_mono (codeAny_call_builtin (R := wants (fun r s₂ => r = .none ∧ ∃ h' tk, s₂ = { s with heap := h', toks := tk } ∧ h'.SetOf (PySem.strKind P w) s.heap.objs.size (fun z => xs.any (· == z)) (dcN xs xs.length) ∧ (∀ b o, b < s.heap.objs.size → s.heap.get? b = some o → h'.get? b = some o)) E)
      F.called_set.init.plain F.entry_set_init (check_set_init_1 hT ?_)) fun r₂ s₂ hr₂ => ?_
    · obtain ⟨⟨ocls, odict, odata, oslots⟩, hol, hcl, nl, hdl⟩ := hl
      simp only at hcl hdl
      subst hcl hdl
      have hol' : (s.heap.push (setO led)).get? l = some { cls := .type "tuple", dict := odict, data := .seq items nl, slots := oslots } := Heap.get?_push_of_some _ hol
      have hsls := F.sub_tuple_set; have hslf := F.sub_tuple_frozenset; have hne : (Value.type "tuple" == Value.type "dict") = false := by decide
      have hl1 : (s.heap.push (setO led)).IsTuple l items := ⟨_, hol', rfl, nl, rfl⟩
      unfold Builtin.«set.__init__» noKeywords Builtin.Frozenset.updateFrom
      generalize hPI : pyIter = PI
      wp_walk
      subst hPI
      refine wpAny_pyIter_tuple hl1 (wpAny_bind (wpAny_runValue ?_))
      have hlS : l < s.heap.objs.size := Heap.lt_size hol
      have pz : (s.heap.push (setO led)).objs.size = s.heap.objs.size + 1 := Heap.size_push ..
      have hh3 : A.in1.in1.in1.handled = none := by simp [hh]
      have hneI : l ≠ (s.heap.push (setO led)).objs.size := by rw [Heap.size_push]; exact Nat.ne_of_lt (Nat.lt_succ_of_lt hlS)
      have hSf : s.heap.objs.size ∉ [(s.heap.push (setO led)).objs.size, l] := by
        rw [Heap.size_push]; simp only [List.mem_cons, List.not_mem_nil, or_false, not_or]
        exact ⟨Nat.ne_of_lt (Nat.lt_succ_self _), Nat.ne_of_gt hlS⟩
      have hval : ∀ (i : Nat) (v : Value), items[i]? = some v → ∃ t, v = .str (xs.getD i Str.empty) t := fun i v hv => SS.strs_at hi i v (by rw [Array.getElem?_toList]; exact hv)
      refine upd_texts ((Walks.tuple hh3 _ l hneI items).toS) s.heap.objs.size hSf xs (by omega) (by omega) hval (items.size - 0) 0 _ (by omega) (Nat.zero_le _) ⟨⟨_, Heap.get?_push_size _ rfl, rfl, rfl⟩, (hl1.push _)⟩ ?hS0 ?hR
      case hS0 =>
        have hget : ((s.heap.push (setO led)).push { cls := .type "tuple_iterator", data := .fields #[.ref l, .int 0 0] }).get? s.heap.objs.size = some (setO led) := Heap.get?_push_of_some _ hS
        exact SetOf_congr ((setObjOf_fresh (knd := PySem.strKind P w) led).setOf hget (by unfold scanBound; omega)) (fun _ => rfl) rfl
      case hR =>
        intro s' hm hS'
        obtain ⟨h', g', d', tk', os'⟩ := s'
        obtain rfl : g' = s.gens := hm.gens
        obtain rfl : d' = s.drawn := hm.drawn
        obtain rfl : os' = s.os := hm.os
        refine (show wpAny _ _ _ _ _ _ from wpAny_pure (show wpAny _ _ (ret Value.none) _ _ _ from wpAny_pure ⟨rfl, h', tk', rfl, ?_, fun b o hb e => ?_⟩))
        · rw [← hsz, List.take_length] at hS'
          exact hS'
        · refine hm.heap b o ?_ (Heap.get?_push_of_some _ (Heap.get?_push_of_some _ e))
          rw [Heap.size_push]; simp only [List.mem_cons, List.not_mem_nil, or_false, not_or]
          exact ⟨Nat.ne_of_lt hb, Nat.ne_of_lt (Nat.lt_succ_of_lt hb)⟩
    · match r₂, hr₂ with
      | .error e, hr₂ => exact hr₂
      | .ok .next, hr₂ => exact hr₂.elim
      | .ok .brk, hr₂ => exact hr₂.elim
      | .ok .cont, hr₂ => exact hr₂.elim
      | .ok (.ret r), hr₂ =>
        obtain ⟨rfl, h', tk, rfl, hS', hk'⟩ := hr₂
        repeat (any_goals (first | assumption | wp_step))
        exact h _ _ hS' hk'
end
section
variable {X : Cx}
def tLenSetT (K : PySem.W.Frag) (ta : TE) : TE := fun σ H Q => ta σ H fun x H1 => ∃ (l : Addr) (xs : List Str), x = .ref l ∧ SqT K H1 l (xs.map V.str) ∧ xs.length ≤ 1000 ∧ Q (.int (dcN xs xs.length : Nat)) H1
theorem pe_lenSetT {a : Expr} {ta : TE} {p p2 q pos : Pos} (hc : X.calm = true) (hm : X.mg "len" = none) (hm2 : X.mg "set" = none) (ha : PE X a ta) (hg : Gl X "len" := by rfl) (hg2 : Gl X "set" := by rfl)
    (na : starEach [a] X.env = (false, eval a X.env) :: starEach [] X.env := by rfl) : PE X (.Call (.Name "len" p) [.Call (.Name "set" p2) [a] [] q] [] pos) (tLenSetT X.K ta) := by
  refine ⟨fun pins s σ H Q I h => Call_ (ld_blt I hg hm boot_len (callWith_builtin1 (args_cons ?_ rfl) rfl rfl))⟩
  refine Call_ (ld_blt I hg2 hm2 boot_set (callWith_type1 (args_cons (thn (ha.run pins s σ H _ I h) fun v s1 ⟨x, H1, I1, r1, q1⟩ => args_nil ?_) na) na rfl))
  obtain ⟨l, xs, rfl, hq, hl, q1⟩ := q1
  cases r1
  obtain ⟨its, r, pl, hz⟩ := I1.tuple hq
  have sb : (1000 : Nat) + 1 < scanBound := by decide +kernel
  refine set_texts (I1.ok.hd hc) pl (by simpa using strsAre_of r) (by omega) fun h' tk hS hk => args_nil ?_
  obtain ⟨o, es, ep, t, ho, hex, hd, _, _, _, hf, hn⟩ := hS
  have I2 : Inv X pins σ H1 { s1 with heap := h', toks := tk } := I1.kept fun b o e => hk b o (Heap.lt_size e) e
  have le := dcN_le xs xs.length
  exact call_len_set ho hex hd hf (by rw [hn] <;> omega) ⟨.int (dcN xs xs.length : Nat), H1, I2.tok _, ⟨_, by rw [hn]⟩, q1⟩
end
end Ss
/-! a, *b = t : a target with a star, the value a tuple -/
namespace Sr
open PySem PySem.Spec PySem.Calls PyProof.Rows PySem.W
section
variable {prog : Program} {w : World} {A : Around} {E : Value → Shared → Prop} {s : Shared}
theorem star_tup {a : Addr} {us : Array Value} {n i : Nat} {Q : List Value → Shared → Prop} (ha : IsTup s.heap a us) (hh : A.handled = none) (hi : i < n) (hn : n ≤ us.size + 1) (hz : us.size ≤ 16384)
    (q : ∀ (g : Heap) (tk : Nat), (∀ b o, s.heap.get? b = some o → g.get? b = some o) → Q (us.toList.take i ++ [.ref g.objs.size] ++ (us.toList.drop i).drop (us.size + 1 - n)) { s with heap := g.push { cls := .type "list", data := .seq ((us.toList.drop i).take (us.size + 1 - n)).toArray }, toks := tk }) :
    wpAny (model prog w) A (unpackItems (.ref a) n (some i)) Q E s := by
  obtain ⟨oa, eoa, _⟩ := id ha
  have lt_a := Heap.lt_size eoa
  have ne_a : a ≠ s.heap.objs.size := Nat.ne_of_lt lt_a
  unfold unpackItems notIterableAtAll
  refine wpAny_bind (wpAny_bind (wpAny_specialOf ha.typeIs slot_tuple_iter.lookup (wpAny_pure ?_)))
  refine wpAny_bind (wpAny_holding (iter_tuple ha ?_))
  refine wpAny_bind (wpAny_holding (draw_tuple ne_a i 0 _ _ ⟨_, Heap.get?_push_size _ rfl, rfl, rfl⟩ (ha.push _) (by omega) fun g1 it1 keep1 => ?_))
  have ha1 : IsTup g1 a us := (ha.push _).extBut keep1.extBut ne_a
  rw [Nat.zero_add] at it1
  obtain ⟨o1, eo1, _⟩ := id it1
  obtain ⟨o2, eo2, _⟩ := id ha1
  rw [List.drop_zero]
  have len1 : (us.toList.take i).length = i := by
    rw [List.length_take, Array.length_toList]
    omega
  rw [if_neg (show ¬ (us.toList.take i).length < i by omega)]
  refine wpAny_bind (wpAny_holding (kun_collect (s := { s with heap := g1 }) (T := "tuple_iterator") (.inr (.inr (.inr rfl))) (Walks.tuple (A := A.in1) hh s.heap.objs.size a ne_a us) (fun j u st => st.1.typeIs) (k := i) (by omega) ⟨it1, ha1⟩ (Heap.lt_size eo1) (Heap.lt_size eo2)
    (fun g2 tk keep2 => ?_) (by rw [sizeLine_eq]; omega)))
  have len2 : (us.toList.drop i).length = us.size - i := by
    rw [List.length_drop, Array.length_toList]
  have mid : (us.toList.drop i).length - (n - 1 - i) = us.size + 1 - n := by omega
  show wpAny _ _ (if (us.toList.drop i).length < n - 1 - i then _ else _) _ _ _
  rw [if_neg (by omega)]
  show wpAny _ _ (newList ((us.toList.drop i).take ((us.toList.drop i).length - (n - 1 - i))) >>= fun d => pure (us.toList.take i ++ [d] ++ (us.toList.drop i).drop ((us.toList.drop i).length - (n - 1 - i)))) _ _ _
  rw [mid]
  refine wpAny_bind (wpAny_newList (s := { s with heap := g2, toks := tk }) (wpAny_pure (q g2 tk fun b o e => ?_)) ?_)
  · have hb : b ≠ s.heap.objs.size := Nat.ne_of_lt (Heap.lt_size e)
    exact keep2 b o hb (keep1.extBut b o hb (Heap.get?_push_of_some _ e))
  · rw [List.length_take, len2, sizeLine_eq]
    omega
end
section
open L2
variable {X : Cx} {pos : Pos}
def gStar (K : Frag) (n i : Nat) (t : TGs) : TG := fun v τ G Q => ∃ a xs, v = .ref a ∧ SqT K G a xs ∧ i < n ∧ n ≤ xs.length + 1 ∧ xs.length ≤ 10000 ∧
  ∀ D, G D = none → t (xs.take i ++ [.ref D] ++ (xs.drop i).drop (xs.length + 1 - n)) τ (upd G D (.lst ((xs.drop i).take (xs.length + 1 - n)))) Q
theorem pg_star {es es0 : List Expr} {k n i : Nat} {t : TGs} (hc : X.calm = true) (h : PGs X es0 t) (he : (assignEach es X.env).map (·.2) = (assignEach es0 X.env).map (·.2) := by rfl) (hn : (assignEach es X.env).length = n := by rfl)
    (hi : (assignEach es X.env).findIdx? (·.1) = some i := by rfl) : PG X (.Tuple es k pos) (gStar X.K n i t) := by
  refine ⟨fun pins s τ G v u Q I r hw => ?_⟩
  obtain ⟨a, xs, rfl, hq, h1, h2, h3, hw⟩ := hw
  cases r
  obtain ⟨us, rv, ht, hz⟩ := I.tuple hq
  have len := rv.length
  have sz : us.toArray.size = xs.length := by rw [List.size_toArray]; exact len.symm
  rw [assign_Tuple]
  refine wpAny_bind (wpAny_standAt ?_)
  unfold unpack
  rw [hn, hi]
  refine wpAny_bind (wpAny_holding (star_tup ht (I.ok.hd hc) h1 (by rw [sz]; exact h2) (by rw [sz]; omega) fun g tk keep => ?_))
  have no : s.heap.get? g.objs.size = none := by
    cases z : s.heap.get? g.objs.size with
    | none => rfl
    | some o => exact absurd (Heap.lt_size (keep _ _ z)) (Nat.lt_irrefl _)
  have nD := I.hok.gone no
  rw [he, sz]
  have I1 : Inv X pins τ (upd G g.objs.size (.lst ((xs.drop i).take (xs.length + 1 - n)))) { s with heap := g.push { cls := .type "list", data := .seq ((us.toArray.toList.drop i).take (xs.length + 1 - n)).toArray }, toks := tk } := by
    refine I.laidN (t' := tk) (fun b o e => Heap.get?_push_of_some _ (keep b o e)) no nD ⟨?_, _, 0, ?_, Heap.get?_push_size _ rfl⟩
    · rw [List.length_take, List.length_drop]
      exact Nat.le_trans (Nat.min_le_right _ _) (Nat.le_trans (Nat.sub_le _ _) hz)
    · exact (rv.drop i).take _
  refine h.run pins _ τ _ _ _ Q I1 ?_ (hw _ nD)
  exact ((rv.take i).append (.cons (show RelV (.ref g.objs.size) (.ref g.objs.size) from rfl) .nil)).append ((rv.drop i).drop _)
end
end Sr
/-! t * 0 and t * 1 of a tuple that is not empty -/
namespace Rt
open PySem PySem.Spec PyProof.Rows L2
theorem mul_one_ (l : Addr) (us : Array Value) (n : Nat) (dd : Option Addr) (sl : Array (Option Value)) (u : Tok) :
    Meets (Builtin.«tuple.__mul__» ⟨[.ref l, .int 1 u], []⟩) (fun _ R s => s.heap.get? l = some { cls := .type "tuple", dict := dd, data := .seq us n, slots := sl } ∧ R (.ok (.ret (Value.ref l))) s) :=
  .of_wp fun prog w A R s h => by
    obtain ⟨hp, g, d, tk, os⟩ := s
    obtain ⟨hl, h⟩ := h
    have f1 := AutoSeq1.idx_int
    have c0 : (decide ((1 : Int) < -(2 ^ 63)) || decide ((1 : Int) ≥ 2 ^ 63)) = false := by decide
    have c1 : (us.isEmpty || (1 : Int) == 1) = true := by simp
    wp_walk using AutoSeq1.wpAny_loadPart' hl
    repeat (first
      | (refine wpAny_ite_false (decide_eq_false (by rw [c0]; exact Bool.false_ne_true)) ?_; wp_walk using AutoSeq1.wpAny_loadPart' hl)
      | (refine wpAny_ite_true (decide_eq_true c1) ?_; wp_walk using AutoSeq1.wpAny_loadPart' hl)
      | (refine wpAny_ite_true (decide_eq_true (by decide)) ?_; wp_walk using AutoSeq1.wpAny_loadPart' hl))
    exact ⟨_, rfl, h⟩
theorem mul_zero_ (l : Addr) (us : Array Value) (n : Nat) (dd : Option Addr) (sl : Array (Option Value)) (u : Tok) (hus : us.isEmpty = false) :
    Meets (Builtin.«tuple.__mul__» ⟨[.ref l, .int 0 u], []⟩) (fun _ R s => s.heap.get? l = some { cls := .type "tuple", dict := dd, data := .seq us n, slots := sl } ∧
      R (.ok (.ret (Value.ref s.heap.objs.size))) { s with heap := s.heap.push { cls := Value.type "tuple", data := Data.seq #[] }, toks := s.toks }) :=
  .of_wp fun prog w A R s h => by
    obtain ⟨hp, g, d, tk, os⟩ := s
    obtain ⟨hl, h⟩ := h
    have f1 := AutoSeq1.idx_int
    have c0 : (decide ((0 : Int) < -(2 ^ 63)) || decide ((0 : Int) ≥ 2 ^ 63)) = false := by decide
    have c1 : (us.isEmpty || (0 : Int) == 1) = false := by rw [hus]; rfl
    have c2 : (decide ((0 : Int) ≤ 0) || us.isEmpty) = true := by simp
    have c5 : ¬ (#[] : Array Value).size > sizeLine := Nat.not_lt.mpr (Nat.zero_le _)
    wp_walk using AutoSeq1.wpAny_loadPart' hl
    repeat (first
      | (refine wpAny_ite_false (decide_eq_false (by rw [c0]; exact Bool.false_ne_true)) ?_; wp_walk using AutoSeq1.wpAny_loadPart' hl)
      | (refine wpAny_ite_false (decide_eq_false (by rw [c1]; exact Bool.false_ne_true)) ?_; wp_walk using AutoSeq1.wpAny_loadPart' hl)
      | (refine wpAny_ite_true (decide_eq_true c2) ?_; wp_walk using AutoSeq1.wpAny_loadPart' hl)
      | (refine wpAny_ite_false (decide_eq_false c5) ?_; wp_walk using AutoSeq1.wpAny_loadPart' hl))
    exact ⟨_, rfl, h⟩
def rMul1 (K : PySem.W.Frag) : R2 := fun x y G Q => ∃ l xs, x = .ref l ∧ SqT K G l xs ∧ xs ≠ [] ∧ ((y = .int 1 ∧ Q (.ref l) G) ∨ (y = .int 0 ∧ ∀ p, G p = none → Q (.ref p) (upd G p (.tup []))))
theorem op_mul1 {X : Cx} : OpR X (binaryOp .Mult) (rMul1 X.K) := by
  intro pins s τ G x y v u Q I rx ry h
  obtain ⟨l, xs, rfl, hT, hne, h⟩ := h
  cases rx
  obtain ⟨us, r, ⟨⟨cl, dd, dt, sl⟩, ho, hc, n, hd⟩, _⟩ := I.tuple hT
  simp only at hc hd
  subst hc hd
  have full : us.toArray.isEmpty = false := by
    cases us with
    | nil => exact absurd (List.eq_nil_of_length_eq_zero r.length) hne
    | cons a b => rfl
  rcases h with ⟨rfl, q⟩ | ⟨rfl, q⟩
  · obtain ⟨t, rfl⟩ := ry
    have step := int_rmul_tuple 1 t l us.toArray n dd sl
    exact wpAny_binaryOp_repeat_ref (T := "tuple") (U := "int") (by decide) ⟨_, ho, rfl⟩ (fun s' => typeIs_int s' 1 t) noFill_tuple_mul F.fills_int_mul F.slot_int_rmul repeat_tuple F.slot_int_index.lookup
      (call_meets F.slot_int_rmul (typeIs_int s 1 t) F.entry_int_rmul (F.args_int_rmul_2 _ _) step ⟨ho, rfl, ⟨_, ho, rfl⟩, call_meets F.slot_tuple_mul ⟨_, ho, rfl⟩ F.entry_tuple_mul (F.args_tuple_mul_2 _ _)
        (mul_one_ l us.toArray n dd sl t) ⟨ho, ⟨.ref l, G, I, rfl, q⟩⟩⟩)
  · obtain ⟨t, rfl⟩ := ry
    have step := int_rmul_tuple 0 t l us.toArray n dd sl
    exact wpAny_binaryOp_repeat_ref (T := "tuple") (U := "int") (by decide) ⟨_, ho, rfl⟩ (fun s' => typeIs_int s' 0 t) noFill_tuple_mul F.fills_int_mul F.slot_int_rmul repeat_tuple F.slot_int_index.lookup
      (call_meets F.slot_int_rmul (typeIs_int s 0 t) F.entry_int_rmul (F.args_int_rmul_2 _ _) step ⟨ho, rfl, ⟨_, ho, rfl⟩, call_meets F.slot_tuple_mul ⟨_, ho, rfl⟩ F.entry_tuple_mul (F.args_tuple_mul_2 _ _)
        (mul_zero_ l us.toArray n dd sl t full) ⟨ho, ⟨.ref s.heap.objs.size, _, I.laid (t' := s.toks) (o := .tup []) (fun _ _ z => Heap.get?_push_of_some _ z) (Nat.le_refl _) ⟨Nat.zero_le _, _, .nil, IsTup.new _ _⟩, rfl, q _ (I.hok.fresh (Nat.le_refl _))⟩⟩⟩)
end Rt
/-! t[::-1] of a tuple -/
namespace Tr
open PySem PyProof.Rows
open PySem.SeqAt
open PySem.MeetsSeq PySem.MeetsSeq2 PySem.MeetsSeq3
theorem range_back (n : Nat) : Builtin.Slice.sliceAdjust none none (-1) (n : Int) = ((n : Int) - 1, -1) ∧ Builtin.Slice.slicePlaces ((n : Int) - 1) (-1) (-1) = n := by
  refine ⟨rfl, ?_⟩
  unfold Builtin.Slice.slicePlaces
  rw [if_neg (by decide)]
  by_cases c : (n : Int) - 1 > -1
  · rw [if_pos c, show (-(-1) : Int) = 1 from rfl, Int.ediv_one]
    omega
  · rw [if_neg c]
    omega
theorem fm_congr {α β : Type} {f g : α → Option β} : ∀ {l : List α}, (∀ x ∈ l, f x = g x) → l.filterMap f = l.filterMap g
  | [], _ => rfl
  | a :: l, h => by
    rw [List.filterMap_cons, List.filterMap_cons, h a List.mem_cons_self, fm_congr fun x hx => h x (List.mem_cons_of_mem _ hx)]
theorem pick_back (us : Array Value) : ((List.range us.size).filterMap fun (k : Nat) => us[((us.size : Int) - 1 + (k : Int) * (-1)).toNat]?).toArray = us.toList.reverse.toArray := by
  have z : (us.toList.reverse.toArray).size = us.size := by rw [List.size_toArray, List.length_reverse, Array.length_toList]
  have all := PySem.W.krv_all us.toList.reverse.toArray
  rw [z] at all
  refine congrArg List.toArray (Eq.trans (fm_congr fun k hk => ?_) all)
  have lt := List.mem_range.mp hk
  have at_ : ((us.size : Int) - 1 + (k : Int) * (-1)).toNat = us.size - 1 - k := by omega
  have e : us.toList.reverse.toArray[k]? = us.toList.reverse[k]? := by simp
  rw [at_, e, List.getElem?_reverse (by rw [Array.length_toList]; exact lt), Array.length_toList, Array.getElem?_toList]
section
variable {prog : Program} {w : World} {A : Around} {E : Value → Shared → Prop} {s : Shared}
theorem get_back {a sl : Addr} {us : Array Value} {vs : Value} {Q : Value → Shared → Prop} (ha : IsTup s.heap a us) (hs : s.heap.IsSliceOf sl .none .none vs) (ps : IsPart vs (some (-1))) (hz : us.size ≤ sizeLine)
    (q : Q (.ref s.heap.objs.size) { s with heap := s.heap.push { cls := .type "tuple", data := .seq us.toList.reverse.toArray } }) : wpAny (model prog w) A (getItem (.ref a) (.ref sl)) Q E s := by
  obtain ⟨o, h1, h2, h3⟩ := id hs
  have fits : sizeOk (.seq us.toList.reverse.toArray) := by
    show us.toList.reverse.toArray.size ≤ sizeLine
    rw [List.size_toArray, List.length_reverse, Array.length_toList]
    exact hz
  have applied : ∀ {B : Around} {F : Value → Shared → Prop} {R : Int × Int × Nat → Shared → Prop}, R ((us.size : Int) - 1, -1, us.size) s → wpAny (model prog w) B (Builtin.Slice.sliceApplied (.ref sl) (pure (us.size : Int))) R F s := fun {B F R} r => by
    unfold Builtin.Slice.sliceApplied Builtin.Slice.sliceFields
    refine wpAny_bind (wpAny_bind (wpAny_field h1 h3 (x := .none) rfl (wpAny_bind (wpAny_field h1 h3 (x := .none) rfl (wpAny_bind (wpAny_field h1 h3 (x := vs) rfl (wpAny_pure ?_)))))))
    refine wpAny_bind (HT.slicePart_ ps ?_)
    show wpAny _ _ (if ((-1 : Int) == 0) = true then _ else _) _ _ s
    rw [if_neg (show ¬ ((-1 : Int) == 0) = true by decide)]
    refine wpAny_bind (HT.slicePart_ .none (wpAny_bind (HT.slicePart_ .none (wpAny_bind (wpAny_pure ?_)))))
    show wpAny _ _ (match Builtin.Slice.sliceAdjust none none (-1) (us.size : Int) with | (l, h) => pure (l, (-1 : Int), Builtin.Slice.slicePlaces l h (-1))) _ _ s
    obtain ⟨e1, e2⟩ := range_back us.size
    rw [e1]
    show wpAny _ _ (pure ((us.size : Int) - 1, (-1 : Int), Builtin.Slice.slicePlaces ((us.size : Int) - 1) (-1) (-1))) _ _ s
    rw [e2]
    exact wpAny_pure r
  unfold getItem
  try with_reducible refine wpAny_holding ?_
  first | refine wpAny_bind (wpAny_pure ?_) | skip
  refine wpAny_bind (wpAny_sequenceKey ha.typeIs (by decide) (wpAny_bind (wpAny_callSpecial?_slot (name := Str.ofString "__getitem__") ha.typeIs slot_tuple_getitem (wpAny_call_entry slot_tuple_getitem ha.typeIs PySem.F.entry_tuple_getitem ?_ (PySem.F.args_tuple_getitem_2 _ _)))))
  show wpAny _ _ (Builtin.Tuple.tupleItemsOf (.ref a) >>= _) _ _ s
  refine wpAny_bind (tupleItemsOf_ ha (wpAny_bind (wpAny_typeOf (T := "slice") ⟨o, h1, h2⟩ ?_)))
  rw [if_pos (show (Value.type "slice" == Value.type "slice") = true by decide)]
  refine wpAny_bind (applied ?_)
  show wpAny _ _ (if (((us.size : Int) - 1 == 0 && (-1 : Int) == 1 && us.size == us.size)) = true then _ else _) _ _ s
  rw [if_neg (show ¬ ((us.size : Int) - 1 == 0 && (-1 : Int) == 1 && us.size == us.size) = true by simp), pick_back]
  first
    | exact wpAny_bind (m := Builtin.Tuple.tupleExact _) (wpAny_newObj_type (wpAny_pure ⟨_, rfl, wpAny_pure q⟩) fits)
    | exact wpAny_bind (m := Builtin.Tuple.tupleExact _) (wpAny_newObj_type (wpAny_bind (wpAny_pure (wpAny_pure ⟨_, rfl, wpAny_pure q⟩))) fits)
    | exact wpAny_bind (wpAny_bind (m := Builtin.Tuple.tupleExact _) (wpAny_newObj_type (wpAny_pure (wpAny_pure ⟨_, rfl, wpAny_pure q⟩)) fits))
    | exact wpAny_bind (wpAny_bind (m := Builtin.Tuple.tupleExact _) (wpAny_newObj_type (wpAny_pure ⟨_, rfl, wpAny_pure q⟩) fits))
end
section
open PySem.Spec L2
variable {X : Cx}
def tRevT (K : PySem.W.Frag) (te : TE) : TE := fun τ G Q => te τ G fun x G1 => ∃ a xs, x = .ref a ∧ SqT K G1 a xs ∧ ∀ p, G1 p = none → Q (.ref p) (upd G1 p (.tup xs.reverse))
theorem pe_revT {e : Expr} {te : TE} {k : Nat} {p1 p2 p3 pos : Pos} (he : PE X e te) : PE X (.Subscript e (.Slice none none (some (.UnaryOp .USub (.Constant (.int 1) k p1) p2)) p3) pos) (tRevT X.K te) := by
  have step : PO X (some (.UnaryOp .USub (.Constant (.int 1) k p1) p2)) (tPart (tUn (rU fun i => .int (-i)) (tC (.int 1)))) := po_some (pe_un un_neg pe_int)
  refine ⟨fun pins s τ G Q I h => Subscript_ (thn (he.run pins s τ G _ I h) fun v s1 ⟨x, G1, I1, r1, a, xs, ex, hx, q⟩ => ?_)⟩
  subst ex
  cases r1
  refine wpAny_Slice (thn (po_none.run pins s1 τ G1 (fun o K => o = none ∧ K = G1) I1 ⟨rfl, rfl⟩) fun _ s2 ⟨_, G2, I2, pl, e2, f2⟩ => ?_)
  cases pl with
  | int => cases e2
  | none => ?_
  subst f2
  refine thn (po_none.run pins s2 τ G2 (fun o K => o = none ∧ K = G2) I2 ⟨rfl, rfl⟩) fun _ s3 ⟨_, G3, I3, pu, e3, f3⟩ => ?_
  cases pu with
  | int => cases e3
  | none => ?_
  subst f3
  refine thn (step.run pins s3 τ G3 (fun o K => o = some (-1) ∧ K = G3) I3 ⟨1, rfl, -1, rfl, rfl, rfl⟩) fun vs s4 ⟨_, G4, I4, ps, e4, f4⟩ => ?_
  subst e4 f4
  have I5 : Inv X pins τ G4 { s4 with heap := s4.heap.push { cls := .type "slice", data := .fields #[.none, .none, vs] } } := I4.kept (t' := s4.toks) fun _ _ z => Heap.get?_push_of_some _ z
  obtain ⟨us, r, ht, hz⟩ := I5.tuple hx
  have len := r.length
  refine tail_any (value := e) (slice := .Slice none none (some (.UnaryOp .USub (.Constant (.int 1) k p1) p2)) p3) (ops := [.ref a, .ref s4.heap.objs.size]) ht.typeIs slot_tuple_getitem.lookup ?_ (by with_unfolding_all rfl)
  refine get_back ht (Heap.IsSliceOf.new _ .none .none vs) ps (by rw [List.size_toArray]; omega) ?_
  refine ⟨.ref _, _, I5.laid (t' := s4.toks) (o := .tup xs.reverse) (fun _ _ z => Heap.get?_push_of_some _ z) (Nat.le_refl _) ?_, rfl, q _ (I5.hok.fresh (Nat.le_refl _))⟩
  exact ⟨by rw [List.length_reverse]; exact hz, _, r.reverse, IsTup.new _ _⟩
end
end Tr
namespace M6
/-! ### the merge, in plain Lean -/
section
variable {α : Type} [DecidableEq α]
def okHead (rows : List (List α)) (w : α) : Bool := rows.all fun o => !decide (w ∈ o.tail)
def isHead (rows : List (List α)) (r : List α) : Bool := match r with
  | [] => false
  | w :: _ => okHead rows w
def headOf (rows : List (List α)) : Option α := (rows.find? (isHead rows)).bind List.head?
def without (rows : List (List α)) (w : α) : List (List α) := (rows.map fun r => r.filter fun x => decide (x ≠ w)).filter fun r => !r.isEmpty
def size (rows : List (List α)) : Nat := (rows.map List.length).sum
def mrgF : Nat → List (List α) → List α → Option (List α)
  | 0, _, _ => none
  | n + 1, rows, acc => if rows.isEmpty then some acc else match headOf rows with
    | none => none
    | some w => mrgF n (without rows w) (acc ++ [w])
def full (rows : List (List α)) : List (List α) := rows.filter fun r => !r.isEmpty
def mrg (rows : List (List α)) : Option (List α) := mrgF (size (full rows) + 1) (full rows) []
theorem find_at {p : List α → Bool} : ∀ {rows : List (List α)} {i : Nat} {r : List α}, (∀ x ∈ rows.take i, p x = false) → rows[i]? = some r → p r = true → rows.find? p = some r
  | [], i, r, _, h, _ => by simp at h
  | a :: rows, 0, r, _, h, hp => by
    obtain rfl : a = r := by simpa using h
    rw [List.find?_cons_of_pos hp]
  | a :: rows, i + 1, r, hn, h, hp => by
    rw [List.find?_cons_of_neg (by simp [hn a (by simp)])]
    exact find_at (i := i) (fun x hx => hn x (by rw [List.take_succ_cons]; exact List.mem_cons_of_mem _ hx)) (by simpa using h) hp
theorem find_no {p : List α → Bool} {rows : List (List α)} (h : ∀ x ∈ rows, p x = false) : rows.find? p = none := by
  rw [List.find?_eq_none]
  intro x hx
  simp [h x hx]
theorem head_found {rows : List (List α)} {w : α} (h : headOf rows = some w) : ∃ r ∈ rows, ∃ t, r = w :: t ∧ okHead rows w = true := by
  unfold headOf at h
  cases e : rows.find? (isHead rows) with
  | none => rw [e] at h; cases h
  | some r =>
    rw [e] at h
    have hm := List.mem_of_find?_eq_some e
    have hp := List.find?_some e
    cases r with
    | nil => cases h
    | cons a t =>
      obtain rfl : a = w := by simpa using h
      exact ⟨_, hm, t, rfl, hp⟩
theorem size_cons (r : List α) (rows : List (List α)) : size (r :: rows) = r.length + size rows := by simp [size]
theorem size_filter (rows : List (List α)) : size (rows.filter fun r => !r.isEmpty) = size rows := by
  induction rows with
  | nil => rfl
  | cons a rows ih =>
    cases a with
    | nil => rw [List.filter_cons_of_neg (by simp), ih, size_cons]; simp
    | cons x t => rw [List.filter_cons_of_pos (by simp), size_cons, size_cons, ih]
theorem size_map_le (w : α) : ∀ rows : List (List α), size (rows.map fun r => r.filter fun x => decide (x ≠ w)) ≤ size rows
  | [] => Nat.le_refl _
  | a :: rows => by
    rw [List.map_cons, size_cons, size_cons]
    exact Nat.add_le_add (List.length_filter_le _ _) (size_map_le w rows)
theorem filter_lt {w : α} {t : List α} : ((w :: t).filter fun x => decide (x ≠ w)).length < (w :: t).length := by
  rw [List.filter_cons_of_neg (by simp)]
  exact Nat.lt_succ_of_le (List.length_filter_le _ _)
theorem size_map_lt {w : α} {t : List α} : ∀ {rows : List (List α)}, (w :: t) ∈ rows → size (rows.map fun r => r.filter fun x => decide (x ≠ w)) < size rows
  | [], h => by simp at h
  | a :: rows, h => by
    rw [List.map_cons, size_cons, size_cons]
    rcases List.mem_cons.mp h with e | e
    · subst e
      exact Nat.add_lt_add_of_lt_of_le filter_lt (size_map_le w rows)
    · exact Nat.add_lt_add_of_le_of_lt (List.length_filter_le _ _) (size_map_lt e)
theorem size_without {rows : List (List α)} {w : α} (h : headOf rows = some w) : size (without rows w) < size rows := by
  obtain ⟨r, hr, t, rfl, _⟩ := head_found h
  unfold without
  rw [size_filter]
  exact size_map_lt hr
theorem fuel : ∀ {n : Nat} {rows : List (List α)} {acc : List α}, size rows < n → mrgF n rows acc = mrgF (size rows + 1) rows acc
  | 0, rows, acc, h => by omega
  | n + 1, rows, acc, h => by
    unfold mrgF
    split
    · rfl
    · cases e : headOf rows with
      | none => rfl
      | some w =>
        have lt := size_without e
        show mrgF n _ _ = mrgF (size rows) _ _
        rw [fuel (n := n) (by omega), fuel (n := size rows) lt]
theorem mrg_end (acc : List α) : mrgF (size ([] : List (List α)) + 1) [] acc = some acc := rfl
theorem mrg_no {rows : List (List α)} {acc : List α} (h : rows.isEmpty = false) (e : headOf rows = none) : mrgF (size rows + 1) rows acc = none := by
  unfold mrgF
  rw [h, e]
  rfl
theorem mrg_step {rows : List (List α)} {acc : List α} {w : α} (h : rows.isEmpty = false) (e : headOf rows = some w) : mrgF (size rows + 1) rows acc = mrgF (size (without rows w) + 1) (without rows w) (acc ++ [w]) := by
  rw [← fuel (size_without e)]
  conv => lhs; unfold mrgF
  rw [h, e]
  rfl
theorem without_full (rows : List (List α)) (w : α) : ∀ r ∈ without rows w, r ≠ [] := by
  intro r hr e
  subst e
  simp [without] at hr
theorem full_full (rows : List (List α)) : ∀ r ∈ full rows, r ≠ [] := by
  intro r hr e
  subst e
  simp [full] at hr
end
end M6
/-! a dict display that begins with another dict: {**a, k: v} -/
namespace Dd
open PySem Sem
section
variable {prog : Program} {w : World} {K : Type} [DecidableEq K] {knd : KeyKind prog w K} {A : Around} {E : Value → Shared → Prop} {s : Shared} {d a : Addr}
/-- one pair put into a dict -/
theorem put_ok {kvs : List (K × Value)} {k : K} {key v : Value} {Q : Unit → Shared → Prop} (isk : knd.is k key = true) (dm : s.heap.DictOf knd d kvs) (few : kvs.length ≤ sizeLine)
    (q : ∀ h', h'.DictOf knd d (stored kvs k v) → Heap.SameBut d s.heap h' → Q () { s with heap := h' }) : wpAny (model prog w) A (dictPut d (knd.hash k) key v) Q E s := by
  obtain ⟨o, es, ep, ho, hc, hd, hk, hp, hn⟩ := dm
  have len : es.size ≤ sizeLine := by
    have e1 := hp.length
    have e2 : es.toList.length = es.size := by simp
    omega
  have same : (es.findIdx? fun e => knd.is k e.key) = kvs.findIdx? fun kv => decide (kv.1 = k) := by
    rw [← hp.findIdx k]
    obtain ⟨l⟩ := es
    simp
  unfold dictPut
  refine wpAny_bind (wpAny_dictFind_of isk ho hd hk ?_)
  cases at_ : es.findIdx? fun e => knd.is k e.key with
  | some i =>
    have ne : stored kvs k v = kvs.map fun kv => if kv.1 = k then (kv.1, v) else kv := by rw [stored, if_pos (any_of_findIdx_some (same ▸ at_))]
    have fl : (es.toList.findIdx? fun e => knd.is k e.key) = some i := by
      rw [← at_]
      obtain ⟨l⟩ := es
      simp
    have md := hp.modify hn fl v
    refine wpAny_updateDict ho hd (q _ ⟨_, _, ep, Heap.get?_update_self _ ho (Obj.isFreed_of_dict (Obj.data_mapDict hd _)), hc.mapDict _, Obj.data_mapDict hd _, hk.modify _ _, ?_, ?_⟩ (Heap.SameBut.update ..))
    · rw [stored, if_pos (any_of_findIdx_some (same ▸ at_))]
      obtain ⟨l⟩ := es
      simpa using md
    · rw [stored, if_pos (any_of_findIdx_some (same ▸ at_)), keys_map_store]
      exact hn
  | none =>
    have out : k ∉ kvs.map (·.1) := not_mem_of_findIdx_none (same ▸ at_)
    have no : ¬ (kvs.any fun kv => decide (kv.1 = k)) = true := fun z => by
      obtain ⟨kv, hkv, he⟩ := List.any_eq_true.mp z
      exact out (List.mem_map.mpr ⟨kv, hkv, of_decide_eq_true he⟩)
    refine wpAny_updateDictKeys (hz := len) ho hd (q _ ⟨_, _, ep + 1, Heap.get?_update_self _ ho (Obj.isFreed_of_dict (Obj.data_mapDictKeys hd _)), hc.mapDictKeys _, Obj.data_mapDictKeys hd _, hk.push isk _, ?_, ?_⟩ (Heap.SameBut.update ..))
    · rw [stored, if_neg no]
      have ap := hp.append isk (knd.hash k) v
      obtain ⟨l⟩ := es
      simpa using ap
    · rw [stored, if_neg no, List.map_append, List.nodup_append]
      refine ⟨hn, by simp, fun x hx y hy e => out ?_⟩
      have ey : y = k := by simpa using hy
      rw [← ey, ← e]
      exact hx
theorem merge_take {acc more : List (K × Value)} {i : Nat} {k : K} {v : Value} (h : more[i]? = some (k, v)) : merged acc (more.take (i + 1)) = stored (merged acc (more.take i)) k v := by
  rw [List.take_add_one, h]
  simp [merged, List.foldl_append]
theorem loop_ok {acc more : List (K × Value)} {n : Nat} {Q : PUnit → Shared → Prop} {body : Nat → PUnit → Sem (ForInStep PUnit)} {oa : Obj} (hn : more.length = n) (dm : s.heap.DictOf knd d acc) (ha : s.heap.get? a = some oa) (ne : d ≠ a)
    (turn : ∀ (i : Nat) (k : K) (v : Value) (h : Heap) (kvs : List (K × Value)) (R : ForInStep PUnit → Shared → Prop), more[i]? = some (k, v) → kvs.length ≤ acc.length + i → h.get? a = some oa → h.DictOf knd d kvs →
      (∀ h', h'.DictOf knd d (stored kvs k v) → Heap.SameBut d h h' → R (.yield PUnit.unit) { s with heap := h' }) → wpAny (model prog w) A (body i PUnit.unit) R E { s with heap := h })
    (q : ∀ h', h'.DictOf knd d (merged acc more) → Heap.SameBut d s.heap h' → Q PUnit.unit { s with heap := h' }) : wpAny (model prog w) A (forIn (List.range n) PUnit.unit body) Q E s := by
  subst hn
  refine wpAny_forIn_list _ (fun rest _ s' => ∃ h i, s' = { s with heap := h } ∧ rest = List.range' i (more.length - i) ∧ i ≤ more.length ∧ h.DictOf knd d (merged acc (more.take i)) ∧ h.get? a = some oa ∧ Heap.SameBut d s.heap h) _ ?_ ?_ _ _
    ⟨s.heap, 0, rfl, by rw [List.range_eq_range', Nat.sub_zero], Nat.zero_le _, by simpa [merged] using dm, ha, Heap.SameBut.refl _ _⟩
  · rintro x rest b s' ⟨h, i, rfl, er, hi, dh, ga, sb⟩
    have lt : i < more.length := by
      apply Classical.byContradiction
      intro c
      rw [show more.length - i = 0 by omega] at er
      cases er
    rw [show more.length - i = (more.length - (i + 1)) + 1 by omega, List.range'_succ] at er
    obtain ⟨rfl, rfl⟩ := List.cons.inj er
    have gi : more[x]? = some ((more[x]).1, (more[x]).2) := List.getElem?_eq_getElem lt
    refine turn x _ _ h _ _ gi ?_ ga dh fun h' d' sb' => ⟨h', x + 1, rfl, rfl, lt, ?_, ?_, sb.trans sb'⟩
    · have e1 := merged_length_le acc (more.take x)
      have e2 : (more.take x).length ≤ x := by rw [List.length_take]; omega
      omega
    · rw [merge_take gi]
      exact d'
    · rw [sb'.2 a (Ne.symm ne)]
      exact ga
  · rintro b s' ⟨h, i, rfl, er, hi, dh, ga, sb⟩
    have e : more.length - i = 0 := by
      apply Classical.byContradiction
      intro c
      rw [show more.length - i = (more.length - i - 1) + 1 by omega, List.range'_succ] at er
      cases er
    have e2 : more.take i = more := List.take_of_length_le (by omega)
    rw [e2] at dh
    exact q h dh sb
/-- all pairs of one dict put into another -/
theorem merge_ok {acc more : List (K × Value)} {Q : Unit → Shared → Prop} (ne : d ≠ a) (na : (a == sysModules) = false) (dm : s.heap.DictOf knd d acc) (am : s.heap.DictOf knd a more) (few : acc.length + more.length ≤ sizeLine)
    (q : ∀ h', h'.DictOf knd d (merged acc more) → Heap.SameBut d s.heap h' → Q () { s with heap := h' }) : wpAny (model prog w) A (mergeMapping d (.ref a) false) Q E s := by
  obtain ⟨oa, ea, pa, hoa, hca, hda, hka, hpa, hna⟩ := id am
  obtain ⟨od, ed, pd, hod, hcd, hdd, hkd, hpd, hnd⟩ := id dm
  have len : more.length = ea.size := by rw [← hpa.length]; simp
  unfold mergeMapping
  refine wpAny_bind (wpAny_isInstance am.typeIs isSubtype_dict_dict ?_)
  rw [if_pos rfl]
  refine wpAny_bind (wpAny_specialOf am.typeIs F.slot_dict_iter.lookup (wpAny_bind (wpAny_pure ?_)))
  simp only [beq_self_eq_true]
  rw [if_neg (by rw [na]; exact Bool.false_ne_true)]
  refine wpAny_bind (wpAny_dictEntries hod hdd ?_)
  have fin : ∀ {body : Nat → PUnit → Sem (ForInStep PUnit)}, (∀ (i : Nat) (k : K) (v : Value) (h : Heap) (kvs : List (K × Value)) (R : ForInStep PUnit → Shared → Prop), more[i]? = some (k, v) → kvs.length ≤ acc.length + i → h.get? a = some oa → h.DictOf knd d kvs →
      (∀ h', h'.DictOf knd d (stored kvs k v) → Heap.SameBut d h h' → R (.yield PUnit.unit) { s with heap := h' }) → wpAny (model prog w) A (body i PUnit.unit) R E { s with heap := h }) →
      wpAny (model prog w) A (forIn (List.range ea.size) PUnit.unit body >>= fun _ => Pure.pure ()) Q E s := fun {body} turn => wpAny_bind (loop_ok len dm hoa ne turn fun h' d' sb => wpAny_pure (q h' d' sb))
  refine wpAny_ite_split (fun _ => ?_) (fun _ => ?_)
  · refine wpAny_bind (wpAny_dictEntries hoa hda ?_)
    refine wpAny_bind ?_
    rw [← Array.forIn_toList]
    refine wpAny_forIn_list _ (fun rest _ s' => s' = s ∧ ∀ e ∈ rest, e ∈ ea.toList) _ ?_ ?_ _ _ ⟨rfl, fun _ h => h⟩
    · rintro e rest b s' ⟨rfl, all⟩
      obtain ⟨k, ik, _⟩ := hka e (by simpa using all e List.mem_cons_self)
      have bv := knd.byValue _ _ ik
      have rest' : ∀ x ∈ rest, x ∈ ea.toList := fun x hx => all x (List.mem_cons_of_mem _ hx)
      obtain ⟨hs, key, val⟩ := e
      cases key <;> first | exact wpAny_pure ⟨rfl, rest'⟩ | exact absurd bv (by simp [carriedByValue])
    rintro b s' ⟨rfl, _⟩
    refine wpAny_bind (wpAny_dictEntries hoa hda ?_)
    refine wpAny_bind (wpAny_dictEpoch hoa hda ?_)
    refine fin fun i k v h kvs R gi ll ga dh k2 => ?_
    refine wpAny_bind (wpAny_dictEntries ga hda ?_)
    have lt : i < ea.size := by
      rw [← len]
      exact (List.getElem?_eq_some_iff.mp gi).1
    rw [Array.getElem?_eq_getElem lt]
    obtain ⟨ik, iv⟩ := hpa.get? (e := ea[i]) (by simp [lt]) gi
    obtain ⟨k', ik', hh⟩ := hka ea[i] (Array.getElem_mem lt)
    obtain rfl : k' = k := knd.inj _ _ _ ik' ik
    dsimp only
    refine wpAny_bind (wpAny_holding ?_)
    rw [if_neg Bool.false_ne_true, hh, iv]
    refine put_ok ik dh (by omega) fun h' d' sb' => ?_
    have ga' : h'.get? a = some oa := by rw [sb'.2 a (Ne.symm ne)]; exact ga
    refine wpAny_bind (wpAny_dictEpoch ga' hda ?_)
    rw [if_neg (by simp)]
    exact wpAny_pure (k2 h' d' sb')
  · refine wpAny_bind (wpAny_dictEntries hoa hda ?_)
    refine wpAny_bind (wpAny_dictEpoch hoa hda ?_)
    refine fin fun i k v h kvs R gi ll ga dh k2 => ?_
    refine wpAny_bind (wpAny_dictEntries ga hda ?_)
    have lt : i < ea.size := by
      rw [← len]
      exact (List.getElem?_eq_some_iff.mp gi).1
    rw [Array.getElem?_eq_getElem lt]
    obtain ⟨ik, iv⟩ := hpa.get? (e := ea[i]) (by simp [lt]) gi
    obtain ⟨k', ik', hh⟩ := hka ea[i] (Array.getElem_mem lt)
    obtain rfl : k' = k := knd.inj _ _ _ ik' ik
    dsimp only
    refine wpAny_bind (wpAny_holding ?_)
    rw [if_neg Bool.false_ne_true, hh, iv]
    refine put_ok ik dh (by omega) fun h' d' sb' => ?_
    have ga' : h'.get? a = some oa := by rw [sb'.2 a (Ne.symm ne)]; exact ga
    refine wpAny_bind (wpAny_dictEpoch ga' hda ?_)
    rw [if_neg (by simp)]
    exact wpAny_pure (k2 h' d' sb')
end
end Dd
namespace Dd
open PySem L2 PySem.Spec PyProof.Rows
section
variable {X : Cx}
def tDStar (ta tk tv : TE) : TE := fun σ H Q => ∀ p, H p = none → ta σ (upd H p (.dK [])) fun x H1 => H1 p = some (.dK []) ∧ ∃ d kvs, x = .ref d ∧ d ≠ p ∧ L2.Rd H1 d (.dK kvs) ∧ kvs.length + 1 ≤ sizeLine ∧
  ∀ q, q ≠ p → H1 q = none → tk σ (upd (upd H1 p (.dK kvs)) q (.dK [])) fun y H3 => tv σ H3 fun z H4 => H4 q = some (.dK []) ∧ H4 p = some (.dK kvs) ∧ ∃ k : Str, y = .str k ∧ Q (.ref p) (upd (upd H4 q (.dK [(.inr k, z)])) p (.dK (putK kvs (.inr k) z)))
theorem pe_dstar {a k v : Expr} {ta tk tv : TE} {pos : Pos} (ha : PE X a ta) (hk : PE X k tk) (hv : PE X v tv) : PE X (.Dict [none, some k] [a, v] pos) (tDStar ta tk tv) := by
  refine ⟨fun pins s σ H Q I h => ?_⟩
  rw [arm_eval_Dict]
  refine wpAny_bind (wpAny_standAt ?_)
  show wpAny _ _ (dictDisplay [(none, do let x ← eval a X.env; standAt pos; Pure.pure x), (some (eval k X.env), do let x ← eval v X.env; standAt pos; Pure.pure x)]) _ _ _
  unfold dictDisplay
  simp only [List.forIn_cons, List.forIn_nil]
  have hn := I.hok.fresh (Nat.le_refl s.heap.objs.size)
  have q0 := h _ hn
  generalize ep : s.heap.objs.size = p at hn q0
  have I1 : Inv X pins σ (upd H p (.dK [])) { s with heap := s.heap.push { cls := .type "dict", data := .dict #[] } } := by
    subst ep
    exact I.laid (a := s.heap.objs.size) (o := .dK []) (t' := s.toks) (fun _ _ q => Heap.get?_push_of_some _ q) (Nat.le_refl _) (dk_empty s.heap I.big)
  refine wpAny_bind (wpAny_bind (wpAny_bind ?_))
  rw [if_pos (show List.isEmpty [] = true from rfl)]
  refine wpAny_pure ?_
  dsimp only
  refine wpAny_bind (wpAny_alloc ?_)
  rw [ep]
  refine wpAny_bind (wpAny_holding (wpAny_bind (thn (ha.run pins _ σ _ _ I1 q0) fun u s1 ⟨x, H1, I2, rx, e1, d, kvs, ex, ne, rd, few, q1⟩ => wpAny_bind (wpAny_standAt (wpAny_pure ?_)))))
  subst ex
  obtain rfl : u = Value.ref d := rx
  obtain ⟨z1, nd, vs, rel, dd⟩ := dk_rd I2.hok rd
  obtain ⟨z0, np, vs0, rel0, dp⟩ := dk_of I2.hok e1
  obtain rfl : vs0 = [] := by
    cases rel0
    rfl
  have lv : vs.length = kvs.length := rel.length.symm
  refine wpAny_bind (wpAny_onRaise (wpAny_tryCatch (wpAny_onRaise (wpAny_holding (merge_ok ne.symm nd dp dd (by rw [List.length_nil]; omega) fun h1 d1 sb1 => wpAny_pure ?_)))))
  have nodup : (vs.map (·.1)).Nodup := let ⟨_, _, _, _, _, _, _, _, n⟩ := dd; n
  rw [merged_nil_of_nodup vs nodup] at d1
  have gp : ∃ u, h1.get? p = some u := let ⟨o, _, _, g, _⟩ := d1; ⟨o, g⟩
  have I3 : Inv X pins σ (upd H1 p (.dK kvs)) { s1 with heap := h1 } := I2.write (t' := s1.toks) (by rw [e1]; exact True.intro) (.inl rfl) (fun b u hb g => by rw [sb1.2 b hb]; exact g) gp ⟨z1, np, vs, rel, d1⟩
  dsimp only
  refine wpAny_pure ?_
  dsimp only [List.nil_append]
  refine wpAny_bind ?_
  rw [if_neg (by simp)]
  have qn := I3.hok.fresh (Nat.le_refl h1.objs.size)
  generalize eq : h1.objs.size = q at qn
  have qp : q ≠ p := fun e => by rw [e, upd_same] at qn; cases qn
  have qn1 : H1 q = none := by rw [upd_ne qp] at qn; exact qn
  have I4 : Inv X pins σ (upd (upd H1 p (.dK kvs)) q (.dK [])) { s1 with heap := h1.push { cls := .type "dict", data := .dict #[] } } := by
    subst eq
    exact I3.laid (a := h1.objs.size) (o := .dK []) (t' := s1.toks) (fun _ _ q => Heap.get?_push_of_some _ q) (Nat.le_refl _) (dk_empty h1 I3.big)
  refine wpAny_bind (wpAny_holding (wpAny_subDict (knd := mixKind X.prog X.w) (by simp) ?_))
  show wpAny _ _ _ (fun vs s₁ => ∃ kvs, Carries (mixKind X.prog X.w) vs kvs ∧ s₁.heap.DictOf (mixKind X.prog X.w) h1.objs.size [] ∧ ∀ h', h'.DictOf (mixKind X.prog X.w) h1.objs.size (merged [] kvs) → Heap.SameBut h1.objs.size s₁.heap h' → _) _ { s1 with heap := h1.push { cls := .type "dict", data := .dict #[] } }
  rw [eq]
  refine evalPairs_cons (thn (hk.run pins _ σ _ _ I4 (q1 q qp qn1)) fun ku s3 ⟨y, H3, I5, ry, q3⟩ => wpAny_bind (thn (hv.run pins _ σ _ _ I5 q3) fun vu s4 ⟨z, H4, I6, rz, e4, e5, kk, ey, q4⟩ => wpAny_bind (wpAny_standAt (wpAny_pure (evalPairs_nil ?_)))))
  subst ey
  obtain ⟨_, nq, vq, relq, dq⟩ := dk_of I6.hok e4
  obtain rfl : vq = [] := by
    cases relq
    rfl
  refine ⟨[(.inr kk, vu)], ⟨kV_is (k := .inr kk) ry, rfl, True.intro⟩, dq, fun h2 d2 sb2 => ?_⟩
  have d2 : h2.DictOf (mixKind X.prog X.w) q [(.inr kk, vu)] := d2
  have gq : ∃ u, h2.get? q = some u := let ⟨o, _, _, g, _⟩ := d2; ⟨o, g⟩
  have I7 : Inv X pins σ (upd H4 q (.dK [(.inr kk, z)])) { s4 with heap := h2, toks := s4.toks + 1 } := I6.write (t' := s4.toks + 1) (by rw [e4]; exact True.intro) (.inl rfl) (fun b u hb g => by rw [sb2.2 b hb]; exact g) gq ⟨by show 1 ≤ sizeLine; decide, nq, _, .cons ⟨rfl, rz⟩ .nil, d2⟩
  have e7 : upd H4 q (.dK [(.inr kk, z)]) p = some (.dK kvs) := by rw [upd_ne (Ne.symm qp)]; exact e5
  obtain ⟨_, _, vs7, rel7, d7⟩ := dk_of I7.hok e7
  have l7 : vs7.length = kvs.length := rel7.length.symm
  refine wpAny_bind (wpAny_onRaise (wpAny_holding (merge_ok qp.symm nq d7 d2 (by rw [l7]; exact few) fun h3 d3 sb3 => ?_)))
  have d3 : h3.DictOf (mixKind X.prog X.w) p (stored vs7 (.inr kk) vu) := d3
  have g3 : ∃ u, h3.get? p = some u := let ⟨o, _, _, g, _⟩ := d3; ⟨o, g⟩
  have z3 : (putK kvs (.inr kk) z).length ≤ sizeLine := by
    have e := (rel7.put (.inr kk) rz).length
    have l := stored_length_le vs7 (.inr kk) vu
    omega
  have I8 : Inv X pins σ (upd (upd H4 q (.dK [(.inr kk, z)])) p (.dK (putK kvs (.inr kk) z))) { s4 with heap := h3, toks := s4.toks + 1 } :=
    I7.write (t' := s4.toks + 1) (by rw [e7]; exact True.intro) (.inl rfl) (fun b u hb g => by rw [sb3.2 b hb]; exact g) g3 ⟨z3, np, _, rel7.put (.inr kk) rz, d3⟩
  exact wpAny_pure (wpAny_pure ⟨.ref p, _, I8, rfl, q4⟩)
end
end Dd
/-! what is never come to; defs with a star parameter as methods; x in o by an own __contains__ -/
namespace Sm
open PySem.Spec PyProof.Rows StX
section
variable {X : Cx}
theorem ps_dead {st : Stmt} : PS X st (fun _ _ _ => False) := ⟨fun _ _ _ _ _ _ h => h.elim⟩
end
/-- a def's promise by its values as they are handed in -/
def FnS (P : Program) (w : World) (K : PySem.W.Frag) (mg : Str → Option Value) (base : Heap) (CX : CXT) (k : Nat) (f : Addr) (sp : Sp) : Prop :=
  ∀ (A : Around), A.guards = some [] → ∀ (outer : List Env) (s : Shared) (H : Hp) (us : List Value) (vs : List V) (Q : VK) (E : XK), Room k A → Env0 P w K mg base A outer s H → Vals vs us → sp vs H Q E →
    codeAny (model P w) A (.call (.ref f) ⟨us, []⟩) (CR CX outer P w H s Q E) s
/-- n values as they are, the others in a new tuple -/
def spStar (n : Nat) (sp : Sp) : Sp := fun vs H Q E => ∃ ws rest, vs = ws ++ rest ∧ ws.length = n ∧ rest.length ≤ sizeLine ∧ ∀ p, H p = none → sp (ws ++ [.ref p]) (upd H p (.tup rest)) Q E
section
variable {CX : CXT} {P : Program} {w : World} {K : PySem.W.Frag} {mg : Str → Option Value} {base : Heap}
theorem defS {k : Nat} {f : Addr} {x qual pv : Str} {st : Stmt} {fd : FuncData} {N ps : List Str} {sp : Sp} (F : Fun K x qual st f fd) (S : FnScope N (ps ++ [pv]) (defScope st)) (up : CXUp CX)
    (hb : ∀ us rest : List Value, us.length = ps.length → bindArgs fd ⟨us ++ rest, []⟩ = (newTuple rest >>= fun t => pure (ps.zip us ++ [(pv, t)])))
    (inner : ∀ (cd : Value) (A : Around), A.guards = some [] → ∀ (outer : List Env) (s : Shared) (H : Hp) (vs : List V) (Q : VK) (E : XK), Room k (A.deeper (envOfC qual (defScope st) s.heap.objs.size f cd)) → sp vs H Q E →
      ∃ t, PSs (cxOf CX P w K mg base N qual (defScope st) f cd A outer s H E) (defBody st) t ∧ t { nx := fun _ H' => Q .non H', rt := Q } (start N vs) H) : FnS P w K mg base CX (k + 1) f (spStar ps.length sp) := by
  obtain ⟨oc, od, kV, doc, pm, an, cd, ct, osl, rfl, lk, hcd⟩ := F.ex
  intro A gd outer s H us vs Q E hr e0 r hsp
  obtain ⟨ws, rest, rfl, hl, hz, hq⟩ := hsp
  obtain ⟨u1, u2, rfl, r1, r2⟩ := vals_split r
  have hn : H s.heap.objs.size = none := e0.hok.fresh (Nat.le_refl _)
  have l1 : u1.length = ps.length := r1.length.symm.trans hl
  have l2 : u2.length ≤ sizeLine := by rw [← r2.length]; exact hz
  refine run_bnd lk hcd S hr e0 (G := fun xs H2 => ∃ p, H p = none ∧ xs = ws ++ [V.ref p] ∧ H2 = upd H p (.tup rest)) (fun A' Ex Q' h => ?_) fun s2 H2 xs g hr' => ?_
  · rw [hb u1 u2 l1]
    refine wpAny_bind (wpAny_newTuple (wpAny_pure ?_) l2)
    have un := un_laid (fs := frs outer) (s := s) (o := ({ cls := .type "tuple", data := .seq u2.toArray } : Obj)) (u := .tup rest) hn
    have new : ObjOk P w (upd H s.heap.objs.size (.tup rest)) (s.heap.push ({ cls := .type "tuple", data := .seq u2.toArray } : Obj)) s.heap.objs.size (.tup rest) := ⟨hz, u2, r2, _, Heap.get?_push_size _ rfl, rfl, _, rfl⟩
    have z := h _ _ (ws ++ [V.ref s.heap.objs.size]) (u1 ++ [Value.ref s.heap.objs.size]) (env0_laid e0 new) un rfl (fun e s' => up outer s H _ _ E e s' un (fun b o q => Heap.get?_push_of_some _ q) rfl) (r1.append (.cons rfl .nil))
      (by rw [List.length_append, List.length_append, hl]; rfl) ⟨_, hn, rfl, rfl⟩
    rw [List.zip_append l1.symm] at z
    exact z
  · obtain ⟨p, hp, rfl, rfl⟩ := g
    exact inner _ A gd outer s2 _ _ Q E hr' (hq p hp)
/-- nothing is raised -/
theorem defS0 {k : Nat} {f : Addr} {x qual pv : Str} {st : Stmt} {fd : FuncData} {N ps : List Str} {sp : Sp} (F : Fun K x qual st f fd) (S : FnScope N (ps ++ [pv]) (defScope st))
    (hb : ∀ us rest : List Value, us.length = ps.length → bindArgs fd ⟨us ++ rest, []⟩ = (newTuple rest >>= fun t => pure (ps.zip us ++ [(pv, t)])))
    (inner : ∀ (cd : Value) (A : Around), A.guards = some [] → ∀ (outer : List Env) (s : Shared) (H : Hp) (vs : List V) (Q : VK) (E : XK), Room k (A.deeper (envOfC qual (defScope st) s.heap.objs.size f cd)) → sp vs H Q E →
      ∃ t, PSs (cxOf CX0 P w K mg base N qual (defScope st) f cd A outer s H E).nox (defBody st) t ∧ t { nx := fun _ H' => Q .non H', rt := Q } (start N vs) H) : FnS P w K mg base CX0 (k + 1) f (spStar ps.length sp) :=
  defS F S cxUp_none hb fun cd A g outer s H vs Q E hr h => let ⟨t, a, b⟩ := inner cd A g outer s H vs Q E hr h; ⟨t, a.nox, b⟩
def MCalS (P : Program) (w : World) (K : PySem.W.Frag) (mg : Str → Option Value) (base : Heap) (CX : CXT) (C : Addr) (k : Nat) (m : Str) (sp : Sp) : Prop := ∃ f : Addr, FnS P w K mg base CX k f sp ∧ Meth K C m f
end
section
variable {X : Cx} {CX : CXT} {k j : Nat} {C : Addr} {sp : Sp} {E : XK} {m : Str} {o e : Expr} {es : List Expr} {apos pos : Pos} {ta : TE} {t : TA}
theorem methS {pl : Sem Bool} (he : PE X o ta) (c : L2.Cls X.K C) (M : MCalS X.prog X.w X.K X.mg X.base CX C k m sp) (g : X.A.guards = some []) (hr : Room j X.A) (hk : k ≤ j) (hx : Passes CX X E) (ha : PA X (e :: es) t)
    (hst : starEach (e :: es) X.env = (false, eval e X.env) :: starEach es X.env := by rfl) (hpl : (backTo pos (starEach es X.env)).any (·.1) = false := by rfl)
    (ht : eval (.Call (.Attribute o m apos) (e :: es) [] pos) X.env = (do
      let ov ← eval o X.env
      standAt apos.atName
      let (f, first) ← holding [ov] (getMethod ov m pl)
      callWith pos f first (backTo pos (starEach (e :: es) X.env)) (backToKw pos (keywordEach [] X.env))) := by rfl) : PE X (.Call (.Attribute o m apos) (e :: es) [] pos) (tMeth C m sp [] E ta t) := by
  obtain ⟨f, F, hm⟩ := M
  refine ⟨fun pins s σ H Q I h => PySem.W.methodCall_KW (pl := pl) (thn (he.run pins s σ H _ I h) fun u s1 ⟨x, H1, I1, rx, a, dx, fs, ex, ea, l, q⟩ => ?_) ht⟩
  subst ex
  obtain rfl : u = Value.ref a := rx
  refine getmeth_ok I1 ea c hm l (PySem.W.callWith_K (first := [.ref a]) (h₀ := X.base) I.ok.mod.kin hm.kp (thn (ha.run pos pins s1 σ H1 _ I1 q) fun us s2 ⟨vs, H2, I2, r, q2⟩ => ⟨I2.kIn, wpAny_call ?_⟩) hst hpl)
  have q2 : sp (V.ref a :: (vs ++ [])) H2 Q E := q2
  rw [List.append_nil] at q2
  exact codeAny_mono (F X.A g X.stack s2 H2 _ _ Q E (hr.mono hk) I2.env0 (.cons (show RelV (.ref a) (.ref a) from rfl) r) q2) fun r s' z => Ob.flow hx I2 z
end
/-! ### x in o -/
section
variable {X : Cx} {CX : CXT} {k j : Nat} {C : Addr} {sp : Sp}
def InCal (P : Program) (w : World) (K : PySem.W.Frag) (mg : Str → Option Value) (base : Heap) (CX : CXT) (C : Addr) (k : Nat) (sp : Sp) : Prop :=
  ∃ (f : Addr) (fd : FuncData) (ps : List Str), FnG P w K mg base CX k f fd ps sp ∧ PySem.W.findIn K (.ref C) "__contains__" = some (some (.ref f)) ∧ PySem.W.isFn K (.ref f) = true ∧ Binds K fd ps []
def rInO (C : Addr) (sp : Sp) (neg : Bool) : R2 := fun x y H Q => ∃ (a dx : Addr) (fs : List (Str × V)), y = .ref a ∧ H a = some (.ins C dx fs) ∧ sp [.ref a, x] H (fun v H' => ∃ c : Bool, v = .bl c ∧ Q (.bl (if neg = true then !c else c)) H') E0
theorem op_inO (M : InCal X.prog X.w X.K X.mg X.base CX C k sp) (g : X.A.guards = some []) (hr : Room j X.A) (hk : k ≤ j) (hx : Passes CX X E0) : OpR X (compareOp .In) (rInO C sp false) := by
  obtain ⟨f, fd, ps, F, hs, hf, hb⟩ := M
  intro pins s σ H x y v u Q I rx ry h
  obtain ⟨a, dx, fs, rfl, ha, q⟩ := h
  obtain rfl : u = Value.ref a := ry
  obtain ⟨od, J⟩ := Ow.instAt I ha
  obtain ⟨m, hF⟩ := I.fr
  refine PySem.W.in_K hF I.ok.mod.kin J hs hf (wpAny_call (codeAny_mono (Ob.goG F g (hr.mono hk) I.env0 I.kIn hb (.cons (show RelV (.ref a) (.ref a) from rfl) (.cons rx .nil)) q) fun r s' z => ?_))
  match r, z with
  | .error er, z => exact hx pins σ H s er s' I z
  | .ok .next, z => exact z.elim
  | .ok .brk, z => exact z.elim
  | .ok .cont, z => exact z.elim
  | .ok (.ret u'), z =>
    obtain ⟨v, H', I', rv, c, rfl, q'⟩ := I.after z
    obtain rfl : u' = Value.bool c := rv
    exact wpAny_truthy_bool ⟨.bl c, H', I', rfl, q'⟩
theorem op_ninO (M : InCal X.prog X.w X.K X.mg X.base CX C k sp) (g : X.A.guards = some []) (hr : Room j X.A) (hk : k ≤ j) (hx : Passes CX X E0) : OpR X (compareOp .NotIn) (rInO C sp true) := by
  obtain ⟨f, fd, ps, F, hs, hf, hb⟩ := M
  intro pins s σ H x y v u Q I rx ry h
  obtain ⟨a, dx, fs, rfl, ha, q⟩ := h
  obtain rfl : u = Value.ref a := ry
  obtain ⟨od, J⟩ := Ow.instAt I ha
  obtain ⟨m, hF⟩ := I.fr
  refine PySem.W.notIn_K hF I.ok.mod.kin J hs hf (wpAny_call (codeAny_mono (Ob.goG F g (hr.mono hk) I.env0 I.kIn hb (.cons (show RelV (.ref a) (.ref a) from rfl) (.cons rx .nil)) q) fun r s' z => ?_))
  match r, z with
  | .error er, z => exact hx pins σ H s er s' I z
  | .ok .next, z => exact z.elim
  | .ok .brk, z => exact z.elim
  | .ok .cont, z => exact z.elim
  | .ok (.ret u'), z =>
    obtain ⟨v, H', I', rv, c, rfl, q'⟩ := I.after z
    obtain rfl : u' = Value.bool c := rv
    exact wpAny_truthy_bool ⟨.bl (!c), H', I', rfl, q'⟩
end
end Sm
namespace Od2
open PySem.Spec PyProof.Rows
def rDictD : List V → Hp → VK → Prop := fun xs H Q => ∃ (a : Addr) (kvs : List (Key × V)), xs = [.ref a] ∧ L2.Rd H a (.dK kvs) ∧ ∀ p, H p = none → Q (.ref p) (upd H p (.dK kvs))
theorem call_dict {X : Cx} : CallR X (.type "dict") rDictD := call_dictD
end Od2
namespace Ob
open PySem.Spec PyProof.Rows
section
variable {X : Cx} {CX : CXT} {k j : Nat} {C : Addr} {sp : Sp} {E : XK}
/-- x[k] and x[k] = v of the class at C -/
def GetCal (P : Program) (w : World) (K : PySem.W.Frag) (mg : Str → Option Value) (base : Heap) (CX : CXT) (C : Addr) (k : Nat) (m : Str) (sp : Sp) : Prop :=
  ∃ (g : Addr) (fd : FuncData) (ps : List Str), FnG P w K mg base CX k g fd ps sp ∧ Ow.SpC K C m g ∧ Binds K fd ps []
theorem getO {a b : Expr} {ta tb : TE} {pos : Pos} (M : GetCal X.prog X.w X.K X.mg X.base CX C k "__getitem__" sp) (g : X.A.guards = some []) (hr : Room j X.A) (hk : k + 1 ≤ j) (hx : Passes CX X E) (ha : PE X a ta) (hb : PE X b tb)
    (hs : ∀ (o i : Value), subscripted b true o i = runValue (.builtin "lifetime.subscript" ⟨[o, i], []⟩)) : PE X (.Subscript a b pos) (Ow.tGetO C sp E ta tb) := by
  obtain ⟨f, fd, ps, F, S, bd⟩ := M
  exact Ow.pe_getO S F g (hr.mono hk) bd hx ha hb hs
theorem setO (M : GetCal X.prog X.w X.K X.mg X.base CX C k "__setitem__" sp) (g : X.A.guards = some []) (hr : Room j X.A) (hk : k ≤ j) (hx : Passes CX X E) : PSet X (Ow.rSetO C sp E) := by
  obtain ⟨f, fd, ps, F, S, bd⟩ := M
  exact Ow.set_ownR S F g (hr.mono hk) bd hx
end
/-- what of the text an own class has -/
structure CF (K : PySem.W.Frag) (mg : Str → Option Value) (x : Str) (C : Addr) : Prop where
  cl : L2.Cls K C
  g : mg x = some (.ref C)
  ne : PySem.W.findIn K (.ref C) "__ne__" = some (some (.builtin "object.__ne__"))
  ob : PySem.W.mroIn K C (.type "object") = some true
/-- a method as the top has left it -/
def MethAt (K : PySem.W.Frag) (x qual : Str) (st : Stmt) (ps : List Str) (f : Addr) (fd : FuncData) : Prop := Fun K x qual st f fd ∧ Binds K fd ps []
section
variable {P : Program} {w : World} {K : PySem.W.Frag} {mg : Str → Option Value} {base : Heap}
theorem byG {x qual : Str} {st : Stmt} {ps N : List Str} {f : Addr} {fd : FuncData} {k : Nat} {sp : Sp} (D : MethAt K x qual st ps f fd) (S : FnScope N ps (defScope st)) (len : ∀ vs H Q E, sp vs H Q E → vs.length = ps.length)
    (inner : ∀ (cd : Value) (A : Around), A.guards = some [] → ∀ (outer : List Env) (s : Shared) (H : Hp) (vs : List V) (Q : VK) (E : XK),
      Room k (A.deeper (envOfC qual (defScope st) s.heap.objs.size f cd)) → sp vs H Q E →
      ∃ t, PSs (cxOf CX0 P w K mg base N qual (defScope st) f cd A outer s H E).nox (defBody st) t ∧ t { nx := fun _ H' => Q .non H', rt := Q } (start N vs) H) : FnG P w K mg base CX0 (k + 1) f fd ps sp :=
  defG0 D.1 S len inner
theorem byGX {x qual : Str} {st : Stmt} {ps N : List Str} {f : Addr} {fd : FuncData} {k : Nat} {sp : Sp} (D : MethAt K x qual st ps f fd) (S : FnScope N ps (defScope st)) (len : ∀ vs H Q E, sp vs H Q E → vs.length = ps.length)
    (inner : ∀ (cd : Value) (A : Around), A.guards = some [] → ∀ (outer : List Env) (s : Shared) (H : Hp) (vs : List V) (Q : VK) (E : XK),
      Room k (A.deeper (envOfC qual (defScope st) s.heap.objs.size f cd)) → sp vs H Q E →
      ∃ t, PSs (cxOf (L2.CX P w) P w K mg base N qual (defScope st) f cd A outer s H E) (defBody st) t ∧ t { nx := fun _ H' => Q .non H', rt := Q } (start N vs) H) : FnG P w K mg base (L2.CX P w) (k + 1) f fd ps sp :=
  defG D.1 S len inner
end
end Ob
namespace Ab
open PySem L2 Gk
def top (i : Nat) : Stmt := PySem.Challenge.pw_answersby_k85_entries_spread.main.body.getD i (.Pass ⟨0, 0, 0, 0⟩)
def clsBody : Stmt → List Stmt
  | .ClassDef _ _ _ b _ _ _ _ _ _ _ => b
  | _ => []
def meth (i j : Nat) : Stmt := (clsBody (top i)).getD j (.Pass ⟨0, 0, 0, 0⟩)
structure Txt (K : PySem.W.Frag) (mg : Str → Option Value) : Prop where
  int : mg "int" = none
  len : mg "len" = none
  max : mg "max" = none
  min : mg "min" = none
  isinstance : mg "isinstance" = none
  range : mg "range" = none
  list : mg "list" = none
  dict : mg "dict" = none
  tuple : mg "tuple" = none
  set : mg "set" = none
  str : mg "str" = none
  bool : mg "bool" = none
  repr : mg "repr" = none
  all : mg "all" = none
  any : mg "any" = none
  sum : mg "sum" = none
  zip : mg "zip" = none
  enumerate : mg "enumerate" = none

theorem one_ {n : Nat} (h : n + 64 < cLine) : n + 1 < cLine := by omega
theorem un80 {k : Nat} {A : Around} (r : Room k A) : A.units + 80 < cLine := by have := r.un; omega
/-! ### tables -/
def tab (l : List Str) (f : Str → V) : List (Key × V) := l.map fun o => (.inr o, f o)
theorem val_tab (l : List Str) (f : Str → V) {o : Str} (h : o ∈ l) : valV (tab l f) (.inr o) = some (f o) := by
  induction l with
  | nil => cases h
  | cons a l ih =>
    by_cases e : a = o
    · subst e
      simp [valV, tab]
    · have hm : o ∈ l := (List.mem_cons.mp h).resolve_left fun z => e z.symm
      have := ih hm
      simp only [valV, tab, List.map_cons] at this ⊢
      rw [List.find?_cons_of_neg (by simpa using e)]
      exact this
theorem none_tab (l : List Str) (f : Str → V) {o : Str} (h : o ∉ l) : valV (tab l f) (.inr o) = none := by
  induction l with
  | nil => rfl
  | cons a l ih =>
    have e : a ≠ o := fun z => h (by rw [z]; exact List.mem_cons_self)
    have := ih fun z => h (List.mem_cons_of_mem _ z)
    simp only [valV, tab, List.map_cons] at this ⊢
    rw [List.find?_cons_of_neg (by simpa using e)]
    exact this
def put (f : Str → V) (o : Str) (v : V) : Str → V := fun x => if x = o then v else f x
theorem put_tab (l : List Str) (f : Str → V) {o : Str} (v : V) (h : o ∈ l) : putK (tab l f) (.inr o) v = tab l (put f o v) := by
  have e : ((tab l f).any fun kv => decide (kv.1 = .inr o)) = true := by
    rw [List.any_eq_true]
    exact ⟨(.inr o, f o), List.mem_map.mpr ⟨o, h, rfl⟩, by simp⟩
  rw [putK, if_pos e]
  simp only [tab, List.map_map]
  refine List.map_congr_left fun x _ => ?_
  by_cases c : x = o
  · subst c; simp [put]
  · simp [put, c]
theorem putK_new (l : List Str) (f : Str → V) {o : Str} (v : V) (h : o ∉ l) : putK (tab l f) (.inr o) v = tab l f ++ [(.inr o, v)] := by
  have e : ¬ ((tab l f).any fun kv => decide (kv.1 = .inr o)) = true := by
    rw [List.any_eq_true]
    rintro ⟨kv, hm, hk⟩
    obtain ⟨x, hx, rfl⟩ := List.mem_map.mp hm
    have : x = o := by simpa using hk
    exact h (this ▸ hx)
  rw [putK, if_neg e]
theorem tab_snoc (l : List Str) (f : Str → V) (o : Str) : tab l f ++ [(.inr o, f o)] = tab (l ++ [o]) f := by simp [tab]
theorem tab_congr {l : List Str} {f g : Str → V} (h : ∀ o ∈ l, f o = g o) : tab l f = tab l g := List.map_congr_left fun o ho => by rw [h o ho]
theorem tab_len (l : List Str) (f : Str → V) : (tab l f).length = l.length := List.length_map ..
/-- the tables of the document -/
def ops : List Str := ["truth", "size", "each", "turned", "hash", "call", "member", "like", "unlike", "before", "behind", "grow"]
def menus : List (Str × List Str) := [("truth", ["truth", "length"]), ("size", ["length"]), ("each", ["walk", "item"]), ("turned", ["back", "count"]), ("hash", ["hash"]), ("call", ["call"]), ("member", ["has", "walk", "item"]), ("like", ["own", "turned"]),
  ("unlike", ["own", "like", "turned", "turned_like"]), ("before", ["own", "turned"]), ("behind", ["own", "turned"]), ("grow", ["grow", "plus"])]
def menu (o : Str) : List Str := (menus.lookup o).getD []
def flagsW : List Str := ["bars_hash", "ends_same", "ends_true"]
/-! ### heaps that go on -/
theorem sqT_same {K : PySem.W.Frag} {H H' : Hp} {p : Addr} {xs : List V} (s : Same H H') (h : SqT K H p xs) : SqT K H' p xs := Rd.tupS s h
/-- what stands at a is no tuple -/
def NoTup (H : Hp) (a : Addr) : Prop := ∀ u, H a = some u → (∀ xs, u ≠ .tup xs) ∧ ∀ o xs, u ≠ .frz o (.tup xs)
theorem sqT_upd {K : PySem.W.Frag} {H : Hp} {a p : Addr} {z : HO} {xs : List V} (n : NoTup H a) (h : SqT K H p xs) : SqT K (upd H a z) p xs := by
  rcases h with (h | ⟨o, h⟩) | h
  · refine .inl (.inl ?_)
    rw [upd_ne (fun e => by subst e; exact (n _ h).1 _ rfl)]
    exact h
  · refine .inl (.inr ⟨o, ?_⟩)
    rw [upd_ne (fun e => by subst e; exact (n _ h).2 _ _ rfl)]
    exact h
  · exact .inr h
theorem nt_dK {H : Hp} {a : Addr} {kvs : List (Key × V)} (h : H a = some (.dK kvs)) : NoTup H a := fun u e => by
  rw [h] at e; cases e; exact ⟨fun _ => by simp, fun _ _ => by simp⟩
theorem nt_lst {H : Hp} {a : Addr} {xs : List V} (h : H a = some (.lst xs)) : NoTup H a := fun u e => by
  rw [h] at e; cases e; exact ⟨fun _ => by simp, fun _ _ => by simp⟩
theorem nt_ins {H : Hp} {a C dx : Addr} {fs : List (Str × V)} (h : H a = some (.ins C dx fs)) : NoTup H a := fun u e => by
  rw [h] at e; cases e; exact ⟨fun _ => by simp, fun _ _ => by simp⟩
theorem nt_none {H : Hp} {a : Addr} (h : H a = none) : NoTup H a := fun u e => by rw [h] at e; cases e
theorem tup_ty {K : PySem.W.Frag} {H : Hp} {p : Addr} {xs : List V} (h : SqT K H p xs) : TyX K H (.ref p) (.type "tuple") := by
  rcases h with (h | ⟨o, h⟩) | ⟨o, its, n, h, c, _⟩
  · exact .base (.tup h)
  · exact .fTuple h
  · exact .kTuple h c
end Ab
/-! a try whose clauses name what they catch, one after the other; own methods and signs within a try -/
namespace Et
open PySem.Spec PyProof.Rows
abbrev Clause := Value × (Addr → Value → Option Addr → TS)
/-- the ends behind a suite: the name is gone -/
def goneE (i : Nat) (D : Ends) : Ends := { nx := fun u K => D.nx (u.set i none) K, rt := D.rt, bk := fun u K => D.bk (u.set i none) K, ct := fun u K => D.ct (u.set i none) K }
/-- what the clauses wish of an exception; slot i is the name's -/
def wAsN (K : PySem.W.Frag) (i : Nat) (out : WX) (D : Ends) : List Clause → WX
  | [] => out
  | (c, t) :: r => fun cls d τ G => ∃ y, PySem.W.exmOne K cls c = some y ∧ (y = true → ∀ e, G e = none → t e cls d (goneE i D) (τ.set i (some (.ref e))) G) ∧ (y = false → wAsN K i out D r cls d τ G)
inductive Clauses (X : Cx) (n : Str) : List ExceptHandler → List Clause → Prop
  | nil : Clauses X n [] []
  | cons {x : Str} {c : Value} {t : Addr → Value → Option Addr → TS} {b : Stmt} {bs : List Stmt} {p q : Pos} {hs : List ExceptHandler} {l : List Clause} (hc : Names X x c)
      (hb : ∀ (e : Addr) (oe : Obj) (cls : Value) (d : Option Addr) (pn : List (Addr × Obj)), Zc cls d oe → (∃ vs, oe.data = .fields vs) → PSs (X.suite e ((e, oe) :: pn)) (b :: bs) (t e cls d)) (r : Clauses X n hs l) :
      Clauses X n (.ExceptHandler (some (.Name x p)) (some n) (b :: bs) q :: hs) ((c, t) :: l)
/-- an exception at e that has come down to the frame of X: sI is the state without it -/
structure Down (X : Cx) (B : Heap) (pins : List (Addr × Obj)) (τ : L2.St) (G : Hp) (sI : Shared) (e : Addr) (cls : Value) (d : Option Addr) (s : Shared) : Prop where
  inv : Inv X pins τ G sI
  nb : ∀ b o, sI.heap.get? b = some o → b ∉ frs X.stack → B.get? b = some o
  up : sI.heap.UpToSlots s.heap
  fl : HandSPX.FlyingZ B (X.env :: X.outer) e (Zc cls d) s.heap
  na : G e = none
  os : s.os = sI.os
  ag : AllBare s.gens
section
variable {X : Cx} {B : Heap} {pins : List (Addr × Obj)} {τ : L2.St} {G : Hp} {sI s : Shared} {e : Addr} {cls : Value} {d : Option Addr}
theorem Down.here (z : Down X B pins τ G sI e cls d s) : Inv X pins τ G s := Inv.landed z.inv z.nb z.fl.1 z.up z.os z.ag
theorem Down.held (z : Down X B pins τ G sI e cls d s) (hf : X.env.frame = some X.env.locals) :
    ∃ oe vs, s.heap.get? e = some oe ∧ Zc cls d oe ∧ oe.data = .fields vs ∧ Inv (X.suite e ((e, oe) :: (X.pn ++ pins))) [] τ G s := by
  obtain ⟨oe, vs, h1, h2, h3⟩ := z.fl.there
  have no : e ∉ frs (X.env :: X.outer) := fun m => by
    obtain ⟨_, o, ho, hn⟩ := z.fl.2.2.1.mem m
    rw [ho] at h1
    exact hn vs (by rw [Option.some.inj h1]; exact h3)
  refine ⟨oe, vs, h1, h2, h3, z.here.suite h1 h3 z.na (fun q => no ?_) fun m => no ?_⟩
  · exact List.mem_filterMap.mpr ⟨X.env, List.mem_cons_self, by rw [q]; exact hf⟩
  · obtain ⟨v, hv, w⟩ := List.mem_filterMap.mp m
    exact List.mem_filterMap.mpr ⟨v, List.mem_cons_of_mem _ hv, w⟩
/-- no clause is left: it goes on -/
theorem Down.out {W : WX} {D : Ends} (z : Down X B pins τ G sI e cls d s) (hs : X.stack = X.env :: X.outer) (hf : X.env.frame = some X.env.locals) (tk : Takes X W) (w : W cls d τ G) :
    wpAny (model X.prog X.w) X.A (handleBy (.ref e) X.env []) (SP X pins D) X.xe s := by
  have fl := z.fl
  obtain ⟨_, _, _, oe, vs, T, oT, ts, h1, _, h3, h4, _⟩ := id fl
  have off : wpAny (model X.prog X.w) X.A (setFlight (.ref e) X.env.frame) (fun _ s' => wpAny (model X.prog X.w) X.A (throw (.ref e) : Sem Flow) (SP X pins D) X.xe s') X.xe s := by
    rw [hf]
    refine HandSPX.setFlight_upZ fl fun h4 hh up => wpAny_throw (tk _ _ ⟨e, B, sI, pins, τ, G, cls, d, rfl, z.inv, z.nb, z.up.trans up, ?_, z.na, z.os, z.ag, w⟩)
    rw [hs]
    exact .inr (.inr hh)
  refine wpAny_handleBy_nil ?_
  unfold PySem.passOn
  refine wpAny_bind (wpAny_field h1 h3 h4 ?_)
  rw [if_neg (show ¬ ((Value.ref T == Value.none) = true) by simp)]
  first
    | exact wpAny_bind (wpAny_pure (wpAny_bind off))
    | exact wpAny_bind off
/-- the clauses, one after the other -/
theorem Down.asked {i : Nat} {n : Str} {W : WX} {D : Ends} (hs : X.stack = X.env :: X.outer) (hf : X.env.frame = some X.env.locals) (hN : X.N.Nodup) (hi : X.N[i]? = some n) (hl : X.env.kindOf n = some .local) (tk : Takes X W)
    {hds : List ExceptHandler} {l : List Clause} (hc : Clauses X n hds l) : ∀ {s : Shared}, Down X B pins τ G sI e cls d s → wAsN X.K i W D l cls d τ G → wpAny (model X.prog X.w) X.A (handleBy (.ref e) X.env hds) (SP X pins D) X.xe s := by
  induction hc with
  | nil => exact fun z w => z.out hs hf tk w
  | @cons x c t b bs p q r l' names su _ ih =>
    rintro s z ⟨y, ym, yes, no⟩
    obtain ⟨oe, vs, h1, h2, h3, S⟩ := z.held hf
    have kind : PySem.W.Looks (model X.prog X.w) s.heap (typeOf (.ref e)) cls := fun A Q E s' k q => wpAny_typeOf_ref (k _ _ h1) (by rw [h2.1]; exact q)
    have asks := PySem.W.exm_one (M := model X.prog X.w) z.here.kIn kind ym
    refine wpAny_handleBy_cons (codeAny_handlers_test ?_) (by intro q; cases q)
    have nm : ∀ {Q : Value → Shared → Prop} {E : Value → Shared → Prop}, Q c s → wpAny (model X.prog X.w) (X.A.mark (some (.ref e))) (eval (.Name x p) X.env) Q E s := fun {Q E} k => by
      obtain ⟨g1, g2, g3⟩ := names
      rcases g3 with m | ⟨m, v, nn⟩
      · exact ld_glob (X := X.suite e ((e, oe) :: (X.pn ++ pins))) S g1 m k g2
      · exact ld_blt (X := X.suite e ((e, oe) :: (X.pn ++ pins))) S g1 m v k nn g2
    refine nm (asks.here ?_)
    cases y with
    | false => exact ih z (no rfl)
    | true =>
      refine codeAny_handlers_suite_as (HandSPX.lands_againZ z.fl fun h4 fl4 up4 => ?_)
      have z4 : Down X B pins τ G sI e cls d { s with heap := h4 } := ⟨z.inv, z.nb, z.up.trans up4, fl4, z.na, z.os, z.ag⟩
      obtain ⟨oe4, vs4, k1, k2, k3, S4⟩ := z4.held hf
      refine store_ok (X := X.suite e ((e, oe4) :: (X.pn ++ pins))) (v := .ref e) S4 hN hi (.inl hl) rfl (fun s5 S5 => ?_) (.inr hl)
      refine wpAny_mono ((su e oe4 cls d (X.pn ++ pins) k2 ⟨_, k3⟩).run [] s5 _ G _ S5 (yes rfl e z.na)) (fun f s6 q6 => ?_) (fun _ _ bad => False.elim bad)
      have leave : ∀ {τ' : L2.St} {G' : Hp} {R : Shared → Prop}, Inv (X.suite e ((e, oe4) :: (X.pn ++ pins))) [] τ' G' s6 → (∀ s7, Inv X pins (τ'.set i none) G' s7 → R s7) →
          wpAny (model X.prog X.w) X.A (do bindName X.env n .none; unbindBehindTheSuite X.env n q) (fun _ s7 => R s7) X.xe s6 := fun a k => gone_ok (a.unsuite z.inv.ok) hN hi hl k
      match f, q6 with
      | .next, q6 => obtain ⟨_, _, a, k⟩ := q6; exact leave a fun _ J => ⟨_, _, J, k⟩
      | .brk, q6 => obtain ⟨_, _, a, k⟩ := q6; exact leave a fun _ J => ⟨_, _, J, k⟩
      | .cont, q6 => obtain ⟨_, _, a, k⟩ := q6; exact leave a fun _ J => ⟨_, _, J, k⟩
      | .ret _, q6 => obtain ⟨_, _, _, a, v, k⟩ := q6; exact leave a fun _ J => ⟨_, _, _, J, v, k⟩
end
section
variable {X : Cx} {n : Str} {i : Nat} {body : List Stmt} {h0 : ExceptHandler} {hds : List ExceptHandler} {l : List Clause} {pos : Pos} {tb : WX → TS} {out : WX}
theorem ps_tryN (hs : X.stack = X.env :: X.outer) (hf : X.env.frame = some X.env.locals) (hN : X.N.Nodup) (hi : X.N[i]? = some n) (hl : X.env.kindOf n = some .local) (tk : Takes X out)
    (hb : ∀ (W : WX) (pn : List (Addr × Obj)) (xe : Value → Shared → Prop), Takes (X.tr pn xe) W → PassesOwn (model X.prog X.w) X.A X.env xe → PSs (X.tr pn xe) body (tb W))
    (hc : Clauses X n (h0 :: hds) l) : PS X (.Try body (h0 :: hds) [] [] pos) (fun D τ G => tb (wAsN X.K i out D l) D τ G) := by
  refine ⟨fun pins s τ G D I q => wpAny_Try_except (wpAny_mono ((hb (wAsN X.K i out D l) (X.pn ++ pins) (fun u t => wpAny (model X.prog X.w) X.A (noteFrame u X.env) (fun _ t' => wpAny (model X.prog X.w) X.A (setFlight u none)
    (fun _ t'' => wpAny (model X.prog X.w) X.A (handleBy u X.env (h0 :: hds)) (SP X pins D) X.xe t'') X.xe t') X.xe t) ?_ PassesOwn.looking).run [] s τ G D (I.toTry _) q) ?_ fun _ _ z => z)⟩
  · rintro u t ⟨e, B, sI, pins', τ', G', cls, d, rfl, J, nb, up, sky, na, os, ag, w⟩
    have J' : Inv X pins τ' G' sI := J.ofTry I.ok
    have sky' : Sky B (X.env :: X.outer) e (Zc cls d) X.env.locals t.heap := by rw [← hs]; exact sky
    exact Sky.land Zc.steady (by rw [I.ok.frames, hs]) hf sky' fun h3 fl3 up3 => Down.asked hs hf hN hi hl tk hc (s := { t with heap := h3 }) ⟨J', nb, up.trans up3, fl3, na, os, ag⟩ w
  · intro f t z
    match f, z with
    | .next, z => obtain ⟨_, _, J, k⟩ := z; exact wpAny_execs_nil ⟨_, _, J.ofTry I.ok, k⟩
    | .brk, z => obtain ⟨_, _, J, k⟩ := z; exact ⟨_, _, J.ofTry I.ok, k⟩
    | .cont, z => obtain ⟨_, _, J, k⟩ := z; exact ⟨_, _, J.ofTry I.ok, k⟩
    | .ret _, z => obtain ⟨_, _, _, J, v, k⟩ := z; exact ⟨_, _, _, J.ofTry I.ok, v, k⟩
end
/-! ### within a try -/
section
variable {X : Cx} {W : WX} {k j : Nat} {f C : Addr} {fd : FuncData} {ps : List Str} {sp : Sp}
theorem flowS {pins : List (Addr × Obj)} {τ : L2.St} {G : Hp} {s : Shared} {Q : VK} {r : Result} {s' : Shared} (tk : Takes X W) (I : Inv X pins τ G s) (h : CR (L2.CX X.prog X.w) X.stack X.prog X.w G s Q (WE W τ) r s') : wants (EP X pins τ Q) X.xe r s' := by
  match r, h with
  | .error e, z => exact passAt tk τ pins G s e s' I z
  | .ok (.ret u), z => exact I.after z
  | .ok .next, z => exact z.elim
  | .ok .brk, z => exact z.elim
  | .ok .cont, z => exact z.elim
def tMethS (m : Str) (C : Addr) (sp : Sp) (E : L2.St → XK) (ta : TE) (t : TA) : TE := fun τ G Q => ta τ G fun x G1 => ∃ a dx fs, x = .ref a ∧ G1 a = some (.ins C dx fs) ∧ fs.lookup m = none ∧ t τ G1 fun vs G2 => sp (x :: vs) G2 Q (E τ)
theorem methS {m : Str} {o e : Expr} {es : List Expr} {apos pos : Pos} {ta : TE} {t : TA} {pl : Sem Bool} (tk : Takes X W) (he : PE X o ta) (c : L2.Cls X.K C) (M : Ob.MCal X.prog X.w X.K X.mg X.base (L2.CX X.prog X.w) C k m sp) (g : X.A.guards = some []) (hr : Room j X.A) (hk : k ≤ j) (ha : PA X (e :: es) t)
    (hst : starEach (e :: es) X.env = (false, eval e X.env) :: starEach es X.env := by rfl) (hpl : (backTo pos (starEach es X.env)).any (·.1) = false := by rfl)
    (ht : eval (.Call (.Attribute o m apos) (e :: es) [] pos) X.env = (do
      let ov ← eval o X.env
      standAt apos.atName
      let (f, first) ← holding [ov] (getMethod ov m pl)
      callWith pos f first (backTo pos (starEach (e :: es) X.env)) (backToKw pos (keywordEach [] X.env))) := by rfl) : PE X (.Call (.Attribute o m apos) (e :: es) [] pos) (tMethS m C sp (WE W) ta t) := by
  obtain ⟨f, fd, ps, F, hm, hb⟩ := M
  refine ⟨fun pins s τ G Q I h => PySem.W.methodCall_KW (pl := pl) (thn (he.run pins s τ G _ I h) fun u s1 ⟨x, G1, I1, rx, a, dx, fs, ex, ea, l, q⟩ => ?_) ht⟩
  subst ex
  obtain rfl : u = Value.ref a := rx
  refine getmeth_ok I1 ea c hm l (PySem.W.callWith_K (first := [.ref a]) (h₀ := X.base) I.ok.mod.kin hm.kp (thn (ha.run pos pins s1 τ G1 _ I1 q) fun us s2 ⟨vs, G2, I2, r, q2⟩ => ⟨I2.kIn, wpAny_call ?_⟩) hst hpl)
  exact codeAny_mono (Ob.goG F g (hr.mono hk) I2.env0 I2.kIn hb (.cons (show RelV (.ref a) (.ref a) from rfl) r) q2) fun r s' z => flowS tk I2 z
/-- x[k] -/
def tGetS (C : Addr) (sp : Sp) (E : L2.St → XK) (ta tb : TE) : TE := fun τ G Q => ta τ G fun x G1 => tb τ G1 fun y G2 => ∃ a dx fs, x = .ref a ∧ G2 a = some (.ins C dx fs) ∧ sp [.ref a, y] G2 Q (E τ)
theorem getS {a b : Expr} {ta tb : TE} {pos : Pos} (tk : Takes X W) (M : Ob.GetCal X.prog X.w X.K X.mg X.base (L2.CX X.prog X.w) C k "__getitem__" sp) (gd : X.A.guards = some []) (hr : Room j X.A) (hk : k + 1 ≤ j) (ha : PE X a ta) (hb' : PE X b tb)
    (hs : ∀ (o i : Value), subscripted b true o i = runValue (.builtin "lifetime.subscript" ⟨[o, i], []⟩)) : PE X (.Subscript a b pos) (tGetS C sp (WE W) ta tb) := by
  obtain ⟨f, fd, ps, F, S, hb⟩ := M
  refine ⟨fun pins s τ G Q I h => Subscript_ (binT ha hb' I h fun v u s2 x y G2 I2 rx ry q => ?_)⟩
  obtain ⟨p, dx, fs, rfl, hp, q⟩ := q
  obtain rfl : v = Value.ref p := rx
  obtain ⟨m, fr⟩ := I2.fr
  obtain ⟨od, J⟩ := Ow.instAt I2 hp
  have isf : PySem.W.isFn X.K (.ref f) = true := by show (PySem.W.typeIn X.K (.ref f) == some (.type "function")) = true; rw [S.sp.fn] <;> rfl
  refine PySem.W.sub_K fr I2.ok.mod.kin J S.sp.at_ S.fi isf (wpAny_call ?_) (hs _ _)
  exact codeAny_mono (Ob.goG F (A := X.A.in1) gd (hr.mono hk).in1 I2.env0.in1 I2.kIn hb (.cons (show RelV (.ref p) (.ref p) from rfl) (.cons ry .nil)) q) fun r s' z => flowS tk I2 z
/-- x[k] = v -/
def gSetS (C : Addr) (sp : Sp) (E : L2.St → XK) (to ti : TE) : TG := fun v τ G Q => to τ G fun x G1 => ti τ G1 fun y G2 => ∃ a dx fs, x = .ref a ∧ G2 a = some (.ins C dx fs) ∧ sp [.ref a, y, v] G2 (fun _ G3 => Q τ G3) (E τ)
theorem pg_setS {o i : Expr} {to ti : TE} {pos : Pos} (tk : Takes X W) (M : Ob.GetCal X.prog X.w X.K X.mg X.base (L2.CX X.prog X.w) C k "__setitem__" sp) (gd : X.A.guards = some []) (hr : Room j X.A) (hk : k ≤ j) (ho : PE X o to) (hi : PE X i ti)
    (ha : ∀ v, assign (.Subscript o i pos) X.env v = (do
      let b ← holding [v] (eval o X.env)
      let c ← holding [v, b] (eval i X.env)
      standAt pos
      holding [v, b, c] (setItem b c v)
      release [v, b, c] []) := by intro _; rfl) : PG X (.Subscript o i pos) (gSetS C sp (WE W) to ti) := by
  obtain ⟨f, fd, ps, F, S, hb⟩ := M
  refine ⟨fun pins s τ G v u Q I r h => ?_⟩
  rw [ha]
  refine wpAny_bind (wpAny_holding (thn (ho.run pins s τ G _ I h) fun b s1 ⟨x, G1, I1, r1, q1⟩ => ?_))
  refine wpAny_bind (wpAny_holding (thn (hi.run pins s1 τ G1 _ I1 q1) fun c s2 ⟨y, G2, I2, r2, p, dx, fs, ep, hp, q2⟩ => ?_))
  subst ep
  obtain rfl : b = Value.ref p := r1
  obtain ⟨_, _, _, hob, _⟩ := I2.hok p _ hp
  refine wpAny_bind (wpAny_standAt (wpAny_bind (wpAny_holding (Ow.set_own I2.kIn hob rfl S.dq S.sp (wpAny_call ?_)))))
  refine codeAny_mono (Ob.goG F gd (hr.mono hk) I2.env0 I2.kIn hb (.cons (show RelV (.ref p) (.ref p) from rfl) (.cons r2 (.cons r .nil))) q2) fun z s' zz => ?_
  have := flowS tk I2 zz
  match z, this with
  | .error _, t => exact t
  | .ok (.ret w), t =>
    obtain ⟨_, G3, I3, _, q3⟩ := t
    exact wpAny_release ⟨τ, G3, I3, q3⟩
  | .ok .next, t => exact t.elim
  | .ok .brk, t => exact t.elim
  | .ok .cont, t => exact t.elim
end
end Et
/-! C(..) within a try -/
namespace Mt
open PySem.Spec PyProof.Rows
section
variable {X : Cx} {W : WX} {k j : Nat} {f C : Addr} {fd : FuncData} {ps : List Str} {sp : Sp} {x : Str} {e : Expr} {es : List Expr} {p pos : Pos} {t : TA}
def tMakeS (C : Addr) (sp : Sp) (E : L2.St → XK) (t : TA) : TE := fun σ H Q => t σ H fun vs H1 => ∀ x dx, H1 x = none → H1 dx = none → dx ≠ x → sp (.ref x :: vs) (upd (upd H1 dx (.own x)) x (.ins C dx [])) (fun v H2 => v = .non ∧ Q (.ref x) H2) (E σ)
theorem runS {pins : List (Addr × Obj)} {σ : L2.St} {H : Hp} {s : Shared} {Q : VK} {us : List Value} {vs : List V} (M : Mk X.K C f) (F : FnG X.prog X.w X.K X.mg X.base (L2.CX X.prog X.w) k f fd ps sp) (g : X.A.guards = some []) (hr : Room (k + 1) X.A) (hb : Binds X.K fd ps []) (tk : Takes X W) (I : Inv X pins σ H s) (r : Vals vs us)
    (h : ∀ x dx, H x = none → H dx = none → dx ≠ x → sp (.ref x :: vs) (upd (upd H dx (.own x)) x (.ins C dx [])) (fun v H2 => v = .non ∧ Q (.ref x) H2) (WE W σ)) : wpAny (model X.prog X.w) X.A (call (.ref C) us) (EP X pins σ Q) X.xe s := by
  have hq := h (s.heap.objs.size + 1) s.heap.objs.size (I.hok.fresh (Nat.le_succ _)) (I.hok.fresh (Nat.le_refl _)) (Nat.ne_of_lt (Nat.lt_succ_self _))
  have I2 := Inv.made (C := C) I
  have run := Ob.goG F (A := X.A.under (.builtin "type.__call__" ⟨.ref C :: us, []⟩)) (Ob.guards_make.trans g) (hr.make C us []) (I2.env0.make C us []) I2.kIn hb (.cons (show RelV (.ref (s.heap.objs.size + 1)) (.ref (s.heap.objs.size + 1)) from rfl) r) hq
  refine wpAny_call (make_map (f := f) I.kIn M.makes M.init (beq_iff_eq.mp M.fn) (codeAny_mono run fun r s' hq' => ?_))
  match r, hq' with
  | .error er, z => exact passAt tk σ pins _ _ er s' I2 z
  | .ok .next, z => exact z.elim
  | .ok .brk, z => exact z.elim
  | .ok .cont, z => exact z.elim
  | .ok (.ret u), z =>
    obtain ⟨v, H', I3, rv, ev, q3⟩ := I2.after z
    subst ev
    exact ⟨rv, ⟨V.ref (s.heap.objs.size + 1), H', I3, rfl, q3⟩⟩
theorem makeS (tk : Takes X W) (M : Ob.MkCal X.prog X.w X.K X.mg X.base (L2.CX X.prog X.w) C k x sp) (gd : X.A.guards = some []) (hr : Room j X.A) (hk : k + 1 ≤ j) (ha : PA X (e :: es) t) (hg : Gl X x := by rfl)
    (hdb : (x == ("__debug__" : Str)) = false := by decide) (he : starEach (e :: es) X.env = (false, eval e X.env) :: starEach es X.env := by rfl) (hpl : (backTo pos (starEach es X.env)).any (·.1) = false := by rfl) :
    PE X (.Call (.Name x p) (e :: es) [] pos) (tMakeS C sp (WE W) t) := by
  obtain ⟨f, fd, ps, F, M, hb, hm⟩ := M
  refine ⟨fun pins s σ H Q I h => wpAny_Call_Name_kw (ld_glob I hg hm ?_ hdb)⟩
  exact PySem.W.callWith_K (h₀ := X.base) I.ok.mod.kin M.kp (thn (ha.run pos pins s σ H _ I h) fun us s1 ⟨vs, H1, I1, r, q⟩ => ⟨I1.kIn, runS M F gd (hr.mono hk) hb tk I1 r q⟩) he hpl
end
theorem makeR {C : Addr} {sp : Sp} {E : L2.St → XK} {t : TA} {σ : L2.St} {H : Hp} {Q : VK} (k : t σ H fun vs H1 => ∀ x dx, H1 x = none → H1 dx = none → dx ≠ x → sp (.ref x :: vs) (upd (upd H1 dx (.own x)) x (.ins C dx [])) (fun v H2 => v = .non ∧ Q (.ref x) H2) (E σ)) : tMakeS C sp E t σ H Q := k
end Mt
namespace Ab
open PySem.Spec PyProof.Rows
def isStr : V → Bool
  | .str _ => true
  | _ => false
def isBl : V → Bool
  | .bl _ => true
  | _ => false
def isInt : V → Bool
  | .int _ => true
  | .bl _ => true
  | _ => false
/-- a value's own kind, as isinstance tells it -/
structure Kd (K : PySem.W.Frag) (H : Hp) (v : V) (tn : String) : Prop where
  ty : TyX K H v (.type tn)
  s : kitB tn "str" = some (isStr v)
  i : kitB tn "int" = some (isInt v)
  b : kitB tn "bool" = some (isBl v)
def isIn (v : V) (ws : List Str) : Bool := match v with
  | .str s => decide (s ∈ ws)
  | _ => false
def isNum : V → Bool
  | .int _ => true
  | _ => false
theorem isi {K : PySem.W.Frag} {H : Hp} {v : V} {tn c : String} {b : Bool} {Q : VK} (h : TyX K H v (.type tn)) (k : kitB tn c = some b) (q : Q (.bl b) H) : rIsi K [v, .ty c] H Q :=
  ⟨v, .ty c, .type tn, .type c, b, rfl, .ty c, h, kit_ty k, q⟩
theorem inT {K : PySem.W.Frag} {H : Hp} {x : V} {p : Addr} {xs : List V} {Q : VK} {neg : Bool} (h : SqT K H p xs) (hx : flatV x = true) (ha : xs.all flatV = true) (k : Q (.bl (if neg then !inV x xs else inV x xs)) H) : rIn K neg x (.ref p) H Q := ⟨p, xs, rfl, .inr h, hx, ha, k⟩
theorem inV_str (w : Str) (l : List Str) : inV (.str w) (l.map V.str) = decide (w ∈ l) := by
  induction l with
  | nil => rfl
  | cons a l ih =>
    show (eqV (.str a) (.str w) || inV (.str w) (l.map V.str)) = _
    rw [ih]
    show ((a == w) || _) = _
    by_cases e : a = w
    · subst e; simp
    · have e' : ¬ w = a := fun z => e z.symm
      simp [e, e']
theorem flat_strs (l : List Str) : (l.map V.str).all flatV = true := by
  rw [List.all_eq_true]
  intro x hx
  obtain ⟨s, _, rfl⟩ := List.mem_map.mp hx
  rfl
section
variable {P : Program} {w : World} {K : PySem.W.Frag} {mg : Str → Option Value} {base : Heap}
abbrev sIs_number : Stmt := top 16
abbrev nIs_number : List Str := ["value"]
theorem scIs_number : FnScope nIs_number ["value"] (defScope sIs_number) := ⟨rfl, rfl, rfl, by decide +kernel, rfl, by decide +kernel, by decide +kernel⟩
def spNum (K : PySem.W.Frag) : Sp := fun vs H Q _ => ∃ (v : V) (tn : String), vs = [v] ∧ Kd K H v tn ∧ Q (.bl (isNum v)) H
theorem ok_number (T : Txt K mg) (D : DefAt K mg "is_number" sIs_number ["value"]) : CalG P w K mg base 1 "is_number" (spNum K) := by
  refine D.by scIs_number (fun vs H Q E h => ?_) (fun f cd A hg outer s H vs Q E hr h => ?_)
  · obtain ⟨v, tn, rfl, _⟩ := h
    rfl
  · obtain ⟨v, tn, rfl, k, q⟩ := h
    refine ⟨_, (pss_one (ps_ret (pe_and (pe_callB (r := rIsi K) call_isi (by rfl) T.isinstance (by decide +kernel) (pa_cons (pv 0) (pa_cons (pe_bltn (v := .ty "int") (by rfl) T.int (by decide +kernel) rfl) pa_nil))) (pe_one (pe_not (pe_callB (r := rIsi K) call_isi (by rfl) T.isinstance (by decide +kernel) (pa_cons (pv 0) (pa_cons (pe_bltn (v := .ty "bool") (by rfl) T.bool (by decide +kernel) rfl) pa_nil)))))))), ?_⟩
    repeat walk_at "rd"
    refine isi k.ty k.i ?_
    repeat walk_at "rd"
    refine Rd.bool (fun c => ?_) (fun c => ?_)
    · repeat walk_at "rd"
      refine isi k.ty k.b ?_
      repeat walk_at "rd"
      have e : isNum v = !isBl v := by cases v <;> first | rfl | cases c
      rw [← e]
      exact q
    · have e : isNum v = false := by cases v <;> first | rfl | cases c
      rw [e] at q
      exact q
abbrev sIs_one_of : Stmt := top 18
abbrev nIs_one_of : List Str := ["value", "words"]
theorem scIs_one_of : FnScope nIs_one_of ["value", "words"] (defScope sIs_one_of) := ⟨rfl, rfl, rfl, by decide +kernel, rfl, by decide +kernel, by decide +kernel⟩
def spOneOf (K : PySem.W.Frag) : Sp := fun vs H Q _ => ∃ (v : V) (p : Addr) (tn : String) (ws : List Str), vs = [v, .ref p] ∧ Kd K H v tn ∧ SqT K H p (ws.map V.str) ∧ Q (.bl (isIn v ws)) H
theorem ok_one_of (T : Txt K mg) (D : DefAt K mg "is_one_of" sIs_one_of ["value", "words"]) : CalG P w K mg base 1 "is_one_of" (spOneOf K) := by
  refine D.by scIs_one_of (fun vs H Q E h => ?_) (fun f cd A hg outer s H vs Q E hr h => ?_)
  · obtain ⟨v, p, tn, ws, rfl, _⟩ := h
    rfl
  · obtain ⟨v, p, tn, ws, rfl, k, hp, q⟩ := h
    refine ⟨_, (pss_one (ps_ret (pe_and (pe_callB (r := rIsi K) call_isi (by rfl) T.isinstance (by decide +kernel) (pa_cons (pv 0) (pa_cons (pe_bltn (v := .ty "str") (by rfl) T.str (by decide +kernel) rfl) pa_nil))) (pe_one (pe_cmpR (r := rIn K false) op_in_seq (pv 0) (pv 1) (by rfl)))))), ?_⟩
    repeat walk_at "rd"
    refine isi k.ty k.s ?_
    repeat walk_at "rd"
    refine Rd.bool (fun c => ?_) (fun c => ?_)
    · obtain ⟨z, rfl⟩ : ∃ z, v = .str z := by cases v <;> first | exact ⟨_, rfl⟩ | cases c
      repeat walk_at "rd"
      refine inT hp rfl (flat_strs _) ?_
      have e : (if (false : Bool) = true then !inV (.str z) (ws.map V.str) else inV (.str z) (ws.map V.str)) = decide (z ∈ ws) := by rw [inV_str]; rfl
      rw [e]
      exact q
    · have e : isIn v ws = false := by cases v <;> first | rfl | cases c
      rw [e] at q
      exact q
abbrev sCheck_method : Stmt := top 27
abbrev nCheck_method : List Str := ["method"]
theorem scCheck_method : FnScope nCheck_method ["method"] (defScope sCheck_method) := ⟨rfl, rfl, rfl, by decide +kernel, rfl, by decide +kernel, by decide +kernel⟩
def spCheck (K : PySem.W.Frag) (C : Addr) (ws : List Str) : Sp := fun vs H Q E => ∃ (v : V) (tn : String), vs = [v] ∧ Kd K H v tn ∧ (isIn v ws = true → Q .non H) ∧ (isIn v ws = false → ∀ d, H d = none → E (.ref C) (some d) (upd H d (.xd [(("value" : Str), v)])))
theorem ok_check_method (T : Txt K mg) {C p_METHODS : Addr} {ws : List Str} (g_METHODS : mg "METHODS" = some (.ref p_METHODS)) (tM : ∀ H, SqT K H p_METHODS (ws.map V.str)) (T_NoName : Ex.ErrC K mg "NoName" "value" C) (M_NoName : Ex.InitOk P w K mg base "value" C)
    (D : DefAt K mg "check_method" sCheck_method ["method"]) (CIs_one_of : CalG P w K mg base 1 "is_one_of" (spOneOf K)) : Ex.CalX P w K mg base 3 "check_method" (spCheck K C ws) := by
  refine Ex.byX D scCheck_method (fun vs H Q E h => ?_) (fun f cd A hg outer s H vs Q E hr h => ?_)
  · obtain ⟨v, tn, rfl, _⟩ := h
    rfl
  · obtain ⟨v, tn, rfl, k, q1, q2⟩ := h
    refine ⟨_, (pss_one (ps_if (pt_not (pt_val (pe_cG CIs_one_of hg hr (by decide) (pa_cons (pv 0) (pa_cons (pe_glob (v := .ref p_METHODS) (by rfl) g_METHODS rfl) pa_nil)))))
  (pss_one (ps_raise rfl (takes_of rfl rfl rfl rfl) (Ex.pmkE T_NoName M_NoName hr (by decide) (pa_cons (pv 0) pa_nil))))
  pss_nil)), ?_⟩
    repeat walk_at "rd"
    refine ⟨v, p_METHODS, tn, ws, rfl, k, tM H, ?_⟩
    repeat walk_at "rd"
    refine Rd.bool (fun c => ?_) (fun c => ?_)
    · have c' : isIn v ws = false := by simpa using c
      refine Ex.mk ?_
      repeat walk_at "rd"
      exact Ex.made (q2 c')
    · have c' : isIn v ws = true := by simpa using c
      repeat walk_at "rd"
      exact q1 c'
end
end Ab
namespace Ab
open PySem.Spec PyProof.Rows
/-! ### the table of the document -/
def methods : List Str := ["truth", "length", "item", "walk", "back", "has", "like", "unlike", "before", "behind", "hash", "grow", "plus", "call"]
def operations : List Str := ["truth", "size", "each", "turned", "hash", "call", "member", "like", "unlike", "before", "behind", "grow"]
def kinds : List (Str × Str) := [("truth", "flag"), ("length", "count"), ("item", "item"), ("walk", "walker"), ("back", "walker"), ("has", "flag"), ("like", "flag"), ("unlike", "flag"), ("before", "flag"), ("behind", "flag"), ("hash", "count"), ("grow", "any"), ("plus", "any"), ("call", "any")]
def kindOf (s : Str) : Str := (kinds.lookup s).getD Str.empty
def others : List Str := ["has", "like", "unlike", "before", "behind", "grow", "plus"]
def decliners : List Str := ["like", "unlike", "before", "behind", "grow", "plus"]
def ones : List Str := ["truth", "size", "each", "turned", "hash", "call"]
/-- an error out of the class at C, that keeps v -/
def Out (C : Addr) (v : V) (H : Hp) (E : XK) : Prop := ∀ d, H d = none → E (.ref C) (some d) (upd H d (.xd [(("value" : Str), v)]))
section
variable {P : Program} {w : World} {K : PySem.W.Frag} {mg : Str → Option Value} {base : Heap}
abbrev sKind_of : Stmt := top 29
abbrev nKind_of : List Str := ["method"]
theorem scKind_of : FnScope nKind_of ["method"] (defScope sKind_of) := ⟨rfl, rfl, rfl, by decide +kernel, rfl, by decide +kernel, by decide +kernel⟩
def spKind (K : PySem.W.Frag) (C : Addr) : Sp := fun vs H Q E => ∃ (v : V) (tn : String), vs = [v] ∧ Kd K H v tn ∧ (∀ s, v = .str s → s ∈ methods → Q (.str (kindOf s)) H) ∧ (isIn v methods = false → Out C v H E)
theorem isIn_str {v : V} {ws : List Str} (h : isIn v ws = true) : ∃ s, v = .str s ∧ s ∈ ws := by
  cases v <;> first | (rename_i s; exact ⟨s, rfl, of_decide_eq_true h⟩) | cases h
theorem ok_kind_of (T : Txt K mg) {C p_KINDS : Addr} (g_KINDS : mg "KINDS" = some (.ref p_KINDS)) (tK : ∀ s ∈ methods, KDct K w p_KINDS s (.str (kindOf s)))
    (D : DefAt K mg "kind_of" sKind_of ["method"]) (CCheck_method : Ex.CalX P w K mg base 3 "check_method" (spCheck K C methods)) : Ex.CalX P w K mg base 4 "kind_of" (spKind K C) := by
  refine Ex.byX D scKind_of (fun vs H Q E h => ?_) (fun f cd A hg outer s H vs Q E hr h => ?_)
  · obtain ⟨v, tn, rfl, _⟩ := h
    rfl
  · obtain ⟨v, tn, rfl, k, q1, q2⟩ := h
    refine ⟨_, (pss_cons (ps_expr (Ex.pe_x CCheck_method hg hr (by decide) (takes_of rfl rfl rfl rfl) (pa_cons (pv 0) pa_nil)))
  (pss_one (ps_ret (pe_ix (r := rIxD K w) ix_kdict (pe_glob (v := .ref p_KINDS) (by rfl) g_KINDS rfl) (pv 0) (fun _ _ => rfl))))), ?_⟩
    repeat walk_at "rd"
    refine ⟨v, tn, rfl, k, fun c => ?_, q2⟩
    obtain ⟨s, rfl, hs⟩ := isIn_str c
    repeat walk_at "rd"
    exact ⟨p_KINDS, s, _, rfl, rfl, tK s hs, q1 s rfl hs⟩
def spIn (K : PySem.W.Frag) (C : Addr) (ms ws : List Str) : Sp := fun vs H Q E => ∃ (v : V) (tn : String), vs = [v] ∧ Kd K H v tn ∧ (∀ s, v = .str s → s ∈ ms → Q (.bl (decide (s ∈ ws))) H) ∧ (isIn v ms = false → Out C v H E)
abbrev sTakes_other : Stmt := top 30
abbrev nTakes_other : List Str := ["method"]
theorem scTakes_other : FnScope nTakes_other ["method"] (defScope sTakes_other) := ⟨rfl, rfl, rfl, by decide +kernel, rfl, by decide +kernel, by decide +kernel⟩
theorem ok_takes_other (T : Txt K mg) {C p_OTHER_TAKERS : Addr} {ws : List Str} (g_OTHER_TAKERS : mg "OTHER_TAKERS" = some (.ref p_OTHER_TAKERS)) (tO : ∀ H, SqT K H p_OTHER_TAKERS (ws.map V.str))
    (D : DefAt K mg "takes_other" sTakes_other ["method"]) (CCheck_method : Ex.CalX P w K mg base 3 "check_method" (spCheck K C methods)) : Ex.CalX P w K mg base 4 "takes_other" (spIn K C methods ws) := by
  refine Ex.byX D scTakes_other (fun vs H Q E h => ?_) (fun f cd A hg outer s H vs Q E hr h => ?_)
  · obtain ⟨v, tn, rfl, _⟩ := h
    rfl
  · obtain ⟨v, tn, rfl, k, q1, q2⟩ := h
    refine ⟨_, (pss_cons (ps_expr (Ex.pe_x CCheck_method hg hr (by decide) (takes_of rfl rfl rfl rfl) (pa_cons (pv 0) pa_nil)))
  (pss_one (ps_ret (pe_cmpR (r := rIn K false) op_in_seq (pv 0) (pe_glob (v := .ref p_OTHER_TAKERS) (by rfl) g_OTHER_TAKERS rfl) (by rfl))))), ?_⟩
    repeat walk_at "rd"
    refine ⟨v, tn, rfl, k, fun c => ?_, q2⟩
    obtain ⟨s, rfl, hs⟩ := isIn_str c
    repeat walk_at "rd"
    refine inT (tO H) rfl (flat_strs _) ?_
    have e : (if (false : Bool) = true then !inV (.str s) (ws.map V.str) else inV (.str s) (ws.map V.str)) = decide (s ∈ ws) := by rw [inV_str]; rfl
    rw [e]
    exact q1 s rfl hs
abbrev sMay_decline : Stmt := top 31
abbrev nMay_decline : List Str := ["method"]
theorem scMay_decline : FnScope nMay_decline ["method"] (defScope sMay_decline) := ⟨rfl, rfl, rfl, by decide +kernel, rfl, by decide +kernel, by decide +kernel⟩
theorem ok_may_decline (T : Txt K mg) {C p_DECLINERS : Addr} {ws : List Str} (g_DECLINERS : mg "DECLINERS" = some (.ref p_DECLINERS)) (tO : ∀ H, SqT K H p_DECLINERS (ws.map V.str))
    (D : DefAt K mg "may_decline" sMay_decline ["method"]) (CCheck_method : Ex.CalX P w K mg base 3 "check_method" (spCheck K C methods)) : Ex.CalX P w K mg base 4 "may_decline" (spIn K C methods ws) := by
  refine Ex.byX D scMay_decline (fun vs H Q E h => ?_) (fun f cd A hg outer s H vs Q E hr h => ?_)
  · obtain ⟨v, tn, rfl, _⟩ := h
    rfl
  · obtain ⟨v, tn, rfl, k, q1, q2⟩ := h
    refine ⟨_, (pss_cons (ps_expr (Ex.pe_x CCheck_method hg hr (by decide) (takes_of rfl rfl rfl rfl) (pa_cons (pv 0) pa_nil)))
  (pss_one (ps_ret (pe_cmpR (r := rIn K false) op_in_seq (pv 0) (pe_glob (v := .ref p_DECLINERS) (by rfl) g_DECLINERS rfl) (by rfl))))), ?_⟩
    repeat walk_at "rd"
    refine ⟨v, tn, rfl, k, fun c => ?_, q2⟩
    obtain ⟨s, rfl, hs⟩ := isIn_str c
    repeat walk_at "rd"
    refine inT (tO H) rfl (flat_strs _) ?_
    have e : (if (false : Bool) = true then !inV (.str s) (ws.map V.str) else inV (.str s) (ws.map V.str)) = decide (s ∈ ws) := by rw [inV_str]; rfl
    rw [e]
    exact q1 s rfl hs
end
end Ab
namespace Ab
open PySem.Spec PyProof.Rows
section
variable {K : PySem.W.Frag} {H : Hp}
theorem kd_str (z : Str) : Kd K H (.str z) "str" := ⟨.base (.str z), (by show kitB "str" "str" = some true; decide +kernel), (by show kitB "str" "int" = some false; decide +kernel), (by show kitB "str" "bool" = some false; decide +kernel)⟩
theorem kd_int (i : Int) : Kd K H (.int i) "int" := ⟨.base (.int i), rfl, rfl, rfl⟩
theorem kd_bl (b : Bool) : Kd K H (.bl b) "bool" := ⟨.base (.bl b), rfl, rfl, rfl⟩
theorem kd_non : Kd K H .non "NoneType" := ⟨.base .non, rfl, rfl, rfl⟩
theorem kd_tup {p : Addr} {xs : List V} (h : SqT K H p xs) : Kd K H (.ref p) "tuple" := ⟨tup_ty h, rfl, rfl, rfl⟩
theorem lst_ty {p : Addr} {xs : List V} (h : SqL K H p xs) : TyX K H (.ref p) (.type "list") := by
  rcases h with (h | ⟨o, h⟩) | ⟨o, its, n, h, c, _⟩
  · exact .base (.lst h)
  · exact .base (.frz h)
  · exact .kList h c
theorem kd_lst {p : Addr} {xs : List V} (h : SqL K H p xs) : Kd K H (.ref p) "list" := ⟨lst_ty h, rfl, rfl, rfl⟩
theorem dp_kd {v : V} {d : PyData} (h : Dp K H v d) : ∃ tn, Kd K H v tn := by
  cases h with
  | non => exact ⟨_, kd_non⟩
  | bl b => exact ⟨_, kd_bl b⟩
  | int i => exact ⟨_, kd_int i⟩
  | str z => exact ⟨_, kd_str z⟩
  | lst a b => exact ⟨_, kd_lst a⟩
  | tup a b => exact ⟨_, kd_tup a⟩
end
theorem tyX_mono {K : PySem.W.Frag} {H H' : Hp} {v : V} {t : Value} (s : Same H H') (h : TyX K H v t) : TyX K H' v t := by
  cases h with
  | base b =>
    refine .base ?_
    cases b with
    | non => exact .non
    | bl x => exact .bl x
    | int x => exact .int x
    | str x => exact .str x
    | flt x => exact .flt x
    | lst e => exact .lst (s _ _ e)
    | frz e => exact .frz (s _ _ e)
    | tup e => exact .tup (s _ _ e)
    | dK e => exact .dK (s _ _ e)
    | dT e => exact .dT (s _ _ e)
    | ins e a b c d f => exact .ins (s _ _ e) a b c d f
  | byt b => exact .byt b
  | set e => exact .set (s _ _ e)
  | kList e c => exact .kList e c
  | kTuple e c => exact .kTuple e c
  | kDict e c => exact .kDict e c
  | fTuple e => exact .fTuple (s _ _ e)
  | fDict e => exact .fDict (s _ _ e)
theorem Kd.mono {K : PySem.W.Frag} {H H' : Hp} {v : V} {tn : String} (s : Same H H') (k : Kd K H v tn) : Kd K H' v tn := ⟨tyX_mono s k.ty, k.s, k.i, k.b⟩
def rolesOf (m : Str) : List Str := if m ∈ others then ["self", "other"] else ["self"]
def answerW : List Str := ["yes", "no", "raise"]
def askOne : List Str := ["truth", "size", "hash"]
def askTwo : List Str := ["member", "like", "unlike", "before", "behind"]
def bodyKinds : List Str := ["flag", "count"]
def partW : List Str := ["not", "if"]
def aloneD (m z : Str) (t : Bool) : Bool := if z = "further" then t else if z = "decline" then t && decide (m ∈ decliners) else decide (z ∈ answerW)
def roleD (m : Str) : PyData → Bool
  | .str z => decide (z ∈ rolesOf m)
  | _ => false
def inD (ws : List Str) : PyData → Bool
  | .str z => decide (z ∈ ws)
  | _ => false
def cntD : PyData → Bool
  | .int i => decide (0 ≤ i) && decide (i ≤ 4)
  | _ => false
def askD (m : Str) : List PyData → Bool
  | [o, r] => inD askOne o && roleD m r
  | [o, r, q] => inD askTwo o && roleD m r && roleD m q && !(PyData.eqv r q)
  | _ => false
def cntL : List PyData → Bool
  | [c] => cntD c
  | _ => false
/-- a node by itself: its word w, what is behind it -/
def wordD (m w : Str) (ds : List PyData) (t : Bool) : Bool :=
  if w = "not" then ds.length == 1 else if w = "if" then ds.length == 3
  else if w = "count" then cntL ds
  else if w = "ask" then askD m ds else ds.isEmpty && aloneD m w t
def nodeD (m : Str) (t : Bool) : PyData → Bool
  | .tuple (.str w :: ds) => wordD m w ds t
  | _ => false
def kidsD : PyData → List PyData
  | .tuple (.str w :: ds) => if w ∈ partW then ds else []
  | _ => []
def tailsW (w : Str) (t : Bool) : List Bool := if w = "if" then [false, t, t] else if w = "not" then [false] else []
def tailsD (t : Bool) : PyData → List Bool
  | .tuple (.str w :: _) => tailsW w t
  | _ => []
/-- a node that waits: its depth, and whether it is at a tail -/
abbrev Wt := PyData × Nat × Bool
def kidsZ (z : Wt) : List Wt := ((kidsD z.1).zip (tailsD z.2.2 z.1)).map fun p => (p.1, z.2.1 + 1, p.2)
/-- the first wrong node, k numbers are left -/
def goW (m : Str) : Nat → List Wt → Option Nat
  | _, [] => none
  | 0, _ :: _ => some 16
  | k + 1, z :: st => if z.2.1 ≤ 6 ∧ nodeD m z.2.2 z.1 = true then goW m k (kidsZ z ++ st) else some (16 - (k + 1))
mutual
/-- the things that the law makes -/
def okU : PyData → Bool
  | .none => true
  | .bool _ => true
  | .int i => decide (0 ≤ i) && decide (i ≤ 5)
  | .str z => PyData.strOk z
  | .list xs => okUA xs
  | .tuple xs => okUA xs
  | .dict _ => false
def okUA : List PyData → Bool
  | [] => true
  | x :: xs => okU x && okUA xs
end
theorem okUA_iff : ∀ {xs : List PyData}, okUA xs = true ↔ ∀ x ∈ xs, okU x = true
  | [] => by simp [okUA]
  | x :: xs => by
    rw [okUA, Bool.and_eq_true, okUA_iff (xs := xs)]
    simp
theorem dpT {K : PySem.W.Frag} {H : Hp} {v : V} {ds : List PyData} (h : Dp K H v (.tuple ds)) : ∃ p xs, v = .ref p ∧ SqT K H p xs ∧ DpAll K H xs ds := by
  cases h with
  | tup a b => exact ⟨_, _, rfl, a, b⟩
theorem dpS {K : PySem.W.Frag} {H : Hp} {v : V} {z : Str} (h : Dp K H v (.str z)) : v = .str z := by cases h; rfl
theorem dpI {K : PySem.W.Frag} {H : Hp} {v : V} {i : Int} (h : Dp K H v (.int i)) : v = .int i := by cases h; rfl
theorem dpC {K : PySem.W.Frag} {H : Hp} {xs : List V} {d : PyData} {ds : List PyData} (h : DpAll K H xs (d :: ds)) : ∃ x r, xs = x :: r ∧ Dp K H x d ∧ DpAll K H r ds := by
  cases h with
  | cons a b => exact ⟨_, _, rfl, a, b⟩
theorem dpN {K : PySem.W.Frag} {H : Hp} {xs : List V} (h : DpAll K H xs []) : xs = [] := by cases h; rfl
theorem dpa_len {K : PySem.W.Frag} {H : Hp} : ∀ {xs : List V} {ds : List PyData}, DpAll K H xs ds → xs.length = ds.length
  | _, _, .nil => rfl
  | _, _, .cons _ b => by rw [List.length_cons, List.length_cons, dpa_len b]
mutual
theorem dp_mono {K : PySem.W.Frag} {H H' : Hp} (s : Same H H') : ∀ {v : V} {d : PyData}, Dp K H v d → Dp K H' v d
  | _, _, .non => .non
  | _, _, .bl b => .bl b
  | _, _, .int i => .int i
  | _, _, .str x => .str x
  | _, _, .lst a b => .lst (s.seq a) (dpa_mono s b)
  | _, _, .tup a b => .tup (sqT_same s a) (dpa_mono s b)
theorem dpa_mono {K : PySem.W.Frag} {H H' : Hp} (s : Same H H') : ∀ {vs : List V} {ds : List PyData}, DpAll K H vs ds → DpAll K H' vs ds
  | _, _, .nil => .nil
  | _, _, .cons a b => .cons (dp_mono s a) (dpa_mono s b)
end
theorem dp_isIn {K : PySem.W.Frag} {H : Hp} {v : V} {d : PyData} (ws : List Str) (h : Dp K H v d) : isIn v ws = inD ws d := by cases h <;> rfl
theorem dp_isStr {K : PySem.W.Frag} {H : Hp} {v : V} {d : PyData} (h : Dp K H v d) : isStr v = (match d with | .str _ => true | _ => false) := by cases h <;> rfl
theorem role_inD (m : Str) (d : PyData) : inD (rolesOf m) d = roleD m d := by cases d <;> rfl
def isCnt (v : V) : Bool := match v with
  | .int i => decide (0 ≤ i) && decide (i ≤ 4)
  | _ => false
theorem dp_isCnt {K : PySem.W.Frag} {H : Hp} {v : V} {d : PyData} (h : Dp K H v d) : isCnt v = cntD d := by cases h <;> rfl
theorem offI {A B : Prop} (h : B) : if false = true then A else B := by
  rw [if_neg Bool.false_ne_true]
  exact h
theorem cut_tail {x : V} {r : List V} : cutV (x :: r) (some 1) none = r := by
  unfold cutV
  have e1 : HT.sIx (x :: r).length 0 (some 1) = 1 := by simp [HT.sIx]
  have e2 : HT.sIx (x :: r).length (x :: r).length none = r.length + 1 := by simp [HT.sIx]
  rw [e1, e2]
  simp
theorem cutG {K : PySem.W.Frag} {a : Addr} {xs : List V} {lo hi : Option Int} {H : Hp} {Q : VK} (h : SqT K H a xs) (k : ∀ t H', Same H H' → SqT K H' t (cutV xs lo hi) → Q (.ref t) H') : rSlA K (.ref a) lo hi H Q := by
  refine ⟨a, xs, rfl, h, fun c => k a H (Same.refl _) ?_, fun _ p hp => k p _ (Rd.sNew hp) (.inl (.inl upd_same))⟩
  have e : cutV xs lo hi = xs := by
    unfold cutV
    rw [c.1, c.2]
    simp
  rw [e]
  exact h
abbrev rInKd (K : PySem.W.Frag) (p : Addr) : R2 := fun x y H Q => ∃ (z : Str) (r : Option Value), x = .str z ∧ y = .ref p ∧ PySem.W.nsIn K p z = some r ∧ Q (.bl r.isSome) H
theorem op_inKd {X : Cx} {p : Addr} {es : Array DictEntry} {n : Nat} (D : KDict X.K X.w p es n) : OpR X (compareOp .In) (rInKd X.K p) := op_in_kd D
/-- PARTS -/
structure PartsA (K : PySem.W.Frag) (w : World) (mg : Str → Option Value) (p : Addr) : Prop where
  g : mg "PARTS" = some (.ref p)
  D : ∃ es n, KDict K w p es n
  h : ∀ z : Str, PyData.strOk z = true → ∃ r, PySem.W.nsIn K p z = some r ∧ r.isSome = decide (z ∈ partW)
  n1 : KDct K w p "not" (.int 1)
  n3 : KDct K w p "if" (.int 3)
theorem starR {K : PySem.W.Frag} {n i : Nat} {t : TGs} {a : Addr} {xs : List V} {σ : L2.St} {H : Hp} {Q : L2.St → Hp → Prop} (h : SqT K H a xs) (h1 : i < n) (h2 : n ≤ xs.length + 1) (h3 : xs.length ≤ 10000)
    (k : ∀ D, H D = none → t (xs.take i ++ [.ref D] ++ (xs.drop i).drop (xs.length + 1 - n)) σ (upd H D (.lst ((xs.drop i).take (xs.length + 1 - n)))) Q) : Sr.gStar K n i t (.ref a) σ H Q := ⟨a, xs, rfl, h, h1, h2, h3, k⟩
theorem chainR {r1 r2 : R2} {ta tb tc : TE} {σ : L2.St} {H : Hp} {Q : VK} (k : tChain r1 r2 ta tb tc σ H Q) : tChain r1 r2 ta tb tc σ H Q := k
theorem str_sh {z : Str} (h : PyData.strOk z = true) : SeqAt.shaped (.str z) = true := by
  show (PyData.canLay0 (.str z) && decide (PyData.depth (.str z) ≤ 64)) = true
  rw [show PyData.canLay0 (.str z) = true from by simpa [PyData.canLay0] using h]
  simp [PyData.depth]
theorem eqv_str (a b : Str) : PyData.eqv (.str a) (.str b) = decide (a = b) := by
  simp only [PyData.eqv]
  by_cases e : a = b
  · subst e; simp
  · simp [e]
section
variable {P : Program} {w : World} {K : PySem.W.Frag} {mg : Str → Option Value} {base : Heap}
abbrev sIs_count : Stmt := top 32
abbrev nIs_count : List Str := ["value"]
theorem scIs_count : FnScope nIs_count ["value"] (defScope sIs_count) := ⟨rfl, rfl, rfl, by decide +kernel, rfl, by decide +kernel, by decide +kernel⟩
def spCnt (K : PySem.W.Frag) : Sp := fun vs H Q _ => ∃ (v : V) (tn : String), vs = [v] ∧ Kd K H v tn ∧ Q (.bl (isCnt v)) H
theorem ok_count (T : Txt K mg) {t4 : Tok} (g_MOST_COUNT : mg "MOST_COUNT" = some (.int 4 t4)) (D : DefAt K mg "is_count" sIs_count ["value"]) (CIs_number : CalG P w K mg base 1 "is_number" (spNum K)) : CalG P w K mg base 2 "is_count" (spCnt K) := by
  refine D.by scIs_count (fun vs H Q E h => ?_) (fun f cd A hg outer s H vs Q E hr h => ?_)
  · obtain ⟨v, tn, rfl, _⟩ := h
    rfl
  · obtain ⟨v, tn, rfl, kd, q⟩ := h
    refine ⟨_, (pss_one (ps_ret (pe_and (pe_cG CIs_number hg hr (by decide) (pa_cons (pv 0) pa_nil)) (pe_one (pe_chain op_le op_le pe_int (pv 0) (pe_glob (v := .int 4) (by rfl) g_MOST_COUNT ⟨_, rfl⟩)))))), ?_⟩
    repeat walk_at "rd"
    refine ⟨v, tn, rfl, kd, ?_⟩
    repeat walk_at "rd"
    refine Rd.bool (fun c => ?_) (fun c => ?_)
    · obtain ⟨i, rfl⟩ : ∃ i, v = .int i := by cases v <;> first | exact ⟨_, rfl⟩ | cases c
      have q : Q (.bl (decide (0 ≤ i) && decide (i ≤ 4))) H := q
      unfold tChain
      repeat walk_at "rd"
      refine Rd.bool (fun c => ?_) (fun c => ?_)
      · rw [c, Bool.true_and] at q
        repeat walk_at "rd"
        exact q
      · rw [c, Bool.false_and] at q
        exact q
    · have e : isCnt v = false := by cases v <;> first | rfl | cases c
      rw [e] at q
      exact q
abbrev sIs_role : Stmt := top 48
abbrev nIs_role : List Str := ["method", "value", "roles"]
theorem scIs_role : FnScope nIs_role ["method", "value"] (defScope sIs_role) := ⟨rfl, rfl, rfl, by decide +kernel, rfl, by decide +kernel, by decide +kernel⟩
def spRole (K : PySem.W.Frag) : Sp := fun vs H Q _ => ∃ (m : Str) (v : V) (tn : String), vs = [.str m, v] ∧ m ∈ methods ∧ Kd K H v tn ∧ ∀ H', Same H H' → Q (.bl (isIn v (rolesOf m))) H'
theorem ok_role (T : Txt K mg) {C : Addr} (D : DefAt K mg "_is_role" sIs_role ["method", "value"]) (CTakes_other : Ex.CalX P w K mg base 4 "takes_other" (spIn K C methods others)) (CIs_one_of : CalG P w K mg base 1 "is_one_of" (spOneOf K)) : CalG P w K mg base 5 "_is_role" (spRole K) := by
  refine D.by scIs_role (fun vs H Q E h => ?_) (fun f cd A hg outer s H vs Q E hr h => ?_)
  · obtain ⟨_, _, _, rfl, _⟩ := h
    rfl
  · obtain ⟨m, v, tn, rfl, hm, kd, q⟩ := h
    refine ⟨_, (pss_cons (ps_set (i := 2) scIs_role.nd rfl (Or.inl rfl) (pe_ifExp (pt_val (Ex.pe_x0 CTakes_other hg hr (by decide) (pa_cons (pv 0) pa_nil))) (pe_tup (pa_cons pe_str (pa_cons pe_str pa_nil))) (pe_tup (pa_cons pe_str pa_nil))))
  (pss_one (ps_ret (pe_cG CIs_one_of hg hr (by decide) (pa_cons (pv 1) (pa_cons (pv 2) pa_nil)))))), ?_⟩
    repeat walk_at "rd"
    refine ⟨_, _, rfl, kd_str m, fun z ez _ => ?_, fun c => ?_⟩
    · cases ez
      have fin : ∀ (ws : List Str) (p : Addr), ws = rolesOf m → H p = none → spOneOf K [v, .ref p] (upd H p (.tup (ws.map V.str))) Q E0 := fun ws p e hp =>
        ⟨v, p, tn, ws, rfl, kd.mono (Rd.sNew hp), .inl (.inl upd_same), by rw [e]; exact q _ (Rd.sNew hp)⟩
      repeat walk_at "rd"
      refine Rd.dec (fun c => ?_) (fun c => ?_)
      · repeat walk_at "rd"
        refine ⟨Rd.sz (by simp), fun p hp => ?_⟩
        repeat walk_at "rd"
        exact fin ["self", "other"] p (by rw [rolesOf, if_pos c]) hp
      · repeat walk_at "rd"
        refine ⟨Rd.sz (by simp), fun p hp => ?_⟩
        repeat walk_at "rd"
        exact fin ["self"] p (by rw [rolesOf, if_neg c]) hp
    · rw [show isIn (.str m) methods = true from decide_eq_true hm] at c; cases c
abbrev sIs_word_alone : Stmt := top 50
abbrev nIs_word_alone : List Str := ["method", "word", "tail"]
theorem scIs_word_alone : FnScope nIs_word_alone ["method", "word", "tail"] (defScope sIs_word_alone) := ⟨rfl, rfl, rfl, by decide +kernel, rfl, by decide +kernel, by decide +kernel⟩
def spAlone : Sp := fun vs H Q _ => ∃ (m z : Str) (tail : Bool), vs = [.str m, .str z, .bl tail] ∧ m ∈ methods ∧ Q (.bl (aloneD m z tail)) H
theorem ok_alone (T : Txt K mg) {C p_ANSWER_WORDS : Addr} (g_ANSWER_WORDS : mg "ANSWER_WORDS" = some (.ref p_ANSWER_WORDS)) (tA : ∀ H, SqT K H p_ANSWER_WORDS (answerW.map V.str)) (D : DefAt K mg "_is_word_alone" sIs_word_alone ["method", "word", "tail"]) (CMay_decline : Ex.CalX P w K mg base 4 "may_decline" (spIn K C methods decliners)) :
    CalG P w K mg base 5 "_is_word_alone" spAlone := by
  refine D.by scIs_word_alone (fun vs H Q E h => ?_) (fun f cd A hg outer s H vs Q E hr h => ?_)
  · obtain ⟨_, _, _, rfl, _⟩ := h
    rfl
  · obtain ⟨m, z, tail, rfl, hm, q⟩ := h
    refine ⟨_, (pss_cons (ps_if (pt_cmpR op_eq (pv 1) pe_str (nomark _))
  (pss_one (ps_ret (pv 2)))
  pss_nil)
  (pss_cons (ps_if (pt_cmpR op_eq (pv 1) pe_str (nomark _))
  (pss_one (ps_ret (pe_and (pv 2) (pe_one (Ex.pe_x0 CMay_decline hg hr (by decide) (pa_cons (pv 0) pa_nil))))))
  pss_nil)
  (pss_one (ps_ret (pe_cmpR (r := rIn K false) op_in_seq (pv 1) (pe_glob (v := .ref p_ANSWER_WORDS) (by rfl) g_ANSWER_WORDS rfl) (by rfl)))))), ?_⟩
    have q : Q (.bl (if z = "further" then tail else if z = "decline" then tail && decide (m ∈ decliners) else decide (z ∈ answerW))) H := q
    repeat walk_at "rd"
    refine Rd.dec (fun c => ?_) (fun c => ?_)
    · repeat walk_at "rd"
      rw [if_pos (V.str.inj c)] at q
      exact q
    · rw [if_neg (fun e => c (by rw [e]))] at q
      repeat walk_at "rd"
      refine Rd.dec (fun c => ?_) (fun c => ?_)
      · rw [if_pos (V.str.inj c)] at q
        repeat walk_at "rd"
        refine Rd.bool (fun c => ?_) (fun c => ?_)
        · rw [c, Bool.true_and] at q
          repeat walk_at "rd"
          refine ⟨_, _, rfl, kd_str m, fun z ez _ => ?_, fun c => ?_⟩
          · cases ez
            exact q
          · rw [show isIn (.str m) methods = true from decide_eq_true hm] at c; cases c
        · rw [c, Bool.false_and] at q
          exact q
      · rw [if_neg (fun e => c (by rw [e]))] at q
        repeat walk_at "rd"
        refine inT (tA H) rfl (flat_strs _) ?_
        rw [if_neg Bool.false_ne_true, inV_str]
        exact q
end
end Ab
namespace Ab
open PySem.Spec PyProof.Rows
local macro_rules | `(tactic| walk_at "rd") => `(tactic| (with_reducible first | refine Rd.tt_ ?_ | refine Rd.ff_ ?_))
theorem data_prd {K : PySem.W.Frag} {H : Hp} : ∀ {ds : List PyData} {xs : List V}, DpAll K H xs ds → Paired (fun d x => Dp K H x d) ds xs
  | [], _, h => by rw [dpN h]; exact .nil
  | d :: ds, _, h => by
    obtain ⟨x, l, rfl, h1, h2⟩ := dpC h
    exact .cons h1 (data_prd h2)
section
variable {P : Program} {w : World} {K : PySem.W.Frag} {mg : Str → Option Value} {base : Heap}
abbrev sParts : Stmt := top 52
abbrev nParts : List Str := ["node"]
theorem scParts : FnScope nParts ["node"] (defScope sParts) := ⟨rfl, rfl, rfl, by decide +kernel, rfl, by decide +kernel, by decide +kernel⟩
def spParts (K : PySem.W.Frag) : Sp := fun vs H Q _ => ∃ (p : Addr) (z : Str) (xs : List V), vs = [.ref p] ∧ SqT K H p (.str z :: xs) ∧ PyData.strOk z = true ∧ ∀ t H', Same H H' → SqT K H' t (if z ∈ partW then xs else []) → Q (.ref t) H'
theorem ok_parts (T : Txt K mg) {p_PARTS : Addr} (pt : PartsA K w mg p_PARTS) (D : DefAt K mg "_parts" sParts ["node"]) : CalG P w K mg base 1 "_parts" (spParts K) := by
  have g_PARTS := pt.g
  obtain ⟨es, n, D_PARTS⟩ := pt.D
  refine D.by scParts (fun vs H Q E h => ?_) (fun f cd A hg outer s H vs Q E hr h => ?_)
  · obtain ⟨_, _, _, rfl, _⟩ := h
    rfl
  · obtain ⟨p, z, xs, rfl, hs, hz, q⟩ := h
    obtain ⟨r, hr1, hr2⟩ := pt.h _ hz
    refine ⟨_, (pss_one (ps_ret (pe_ifExp (pt_cmpR (r := rInKd K p_PARTS) (op_inKd D_PARTS) (pe_ix (r := rIxT K) ix_tup (pv 0) pe_int (fun _ _ => rfl)) (pe_glob (v := .ref p_PARTS) (by rfl) g_PARTS rfl) (by rfl)) (pe_slice (r := rSlA K) sl_tupA (pv 0) (po_some pe_int) po_none) (pe_tup pa_nil)))), ?_⟩
    repeat walk_at "rd"
    refine Rd.ixT hs (Rd.atN (by decide) rfl) ?_
    refine ⟨z, r, rfl, rfl, hr1, ?_⟩
    rw [hr2]
    refine ⟨_, rfl, ?_⟩
    refine Rd.dec (fun c => ?_) (fun c => ?_)
    · rw [if_pos c] at q
      repeat walk_at "rd"
      refine cutG hs fun t H' s' ht => ?_
      rw [cut_tail] at ht
      exact q t H' s' ht
    · rw [if_neg c] at q
      repeat walk_at "rd"
      refine ⟨Rd.sz (by simp), fun t ht => ?_⟩
      exact q t _ (Rd.sNew ht) (.inl (.inl upd_same))
abbrev sTails : Stmt := top 53
abbrev nTails : List Str := ["node", "tail"]
theorem scTails : FnScope nTails ["node", "tail"] (defScope sTails) := ⟨rfl, rfl, rfl, by decide +kernel, rfl, by decide +kernel, by decide +kernel⟩
def spTails (K : PySem.W.Frag) : Sp := fun vs H Q _ => ∃ (p : Addr) (z : Str) (xs : List V) (tail : Bool), vs = [.ref p, .bl tail] ∧ SqT K H p (.str z :: xs) ∧ PyData.strOk z = true ∧ (z = "not" → xs.length = 1) ∧ ∀ t H', Same H H' → SqT K H' t ((tailsW z tail).map V.bl) → Q (.ref t) H'
theorem ok_tails (T : Txt K mg) (D : DefAt K mg "_tails" sTails ["node", "tail"]) (CParts : CalG P w K mg base 1 "_parts" (spParts K)) : CalG P w K mg base 2 "_tails" (spTails K) := by
  refine D.by scTails (fun vs H Q E h => ?_) (fun f cd A hg outer s H vs Q E hr h => ?_)
  · obtain ⟨_, _, _, _, rfl, _⟩ := h
    rfl
  · obtain ⟨p, z, xs, tail, rfl, hs, hz, hn, q⟩ := h
    refine ⟨_, (pss_cons (ps_if (pt_cmpR (r := rEqD K) (op_eqD hr.units) (pe_ix (r := rIxT K) ix_tup (pv 0) pe_int (fun _ _ => rfl)) pe_str (nomark _))
  (pss_one (ps_ret (pe_tup (pa_cons pe_bl (pa_cons (pv 1) (pa_cons (pv 1) pa_nil))))))
  pss_nil)
  (pss_one (ps_ret (pe_op (r := Rt.rMul1 K) Rt.op_mul1 (pe_tup (pa_cons pe_bl pa_nil)) (pe_callB (r := Rd.rLenK K) Rd.callLen (by rfl) T.len PySem.boot_len (pa_cons (pe_cG CParts hg hr (by decide) (pa_cons (pv 0) pa_nil)) pa_nil)))))), ?_⟩
    repeat walk_at "rd"
    refine Rd.ixT hs (Rd.atN (by decide) rfl) ?_
    repeat walk_at "rd"
    refine Rd.eqD (d := .str z) (e := .str "if") (.str _) (.str _) (str_sh hz) (by decide +kernel) ?_
    rw [eqv_str]
    refine ⟨_, rfl, ?_⟩
    refine Rd.dec (fun c => ?_) (fun c => ?_)
    · rw [tailsW, if_pos c] at q
      repeat walk_at "rd"
      refine ⟨Rd.sz (by simp), fun t ht => ?_⟩
      exact q t _ (Rd.sNew ht) (.inl (.inl upd_same))
    · rw [tailsW, if_neg c] at q
      repeat walk_at "rd"
      refine ⟨Rd.sz (by simp), fun t ht => ?_⟩
      have s1 := Rd.sNew (o := .tup [.bl false]) ht
      have t1 : SqT K (upd H t (.tup [.bl false])) t [.bl false] := .inl (.inl upd_same)
      have hs1 := sqT_same s1 hs
      generalize upd H t (.tup [.bl false]) = H1 at s1 t1 hs1 ⊢
      repeat walk_at "rd"
      refine ⟨p, z, xs, rfl, hs1, hz, fun p2 H2 s2 h2 => ?_⟩
      repeat walk_at "rd"
      refine Rd.lenT h2 ?_
      by_cases cn : z = "not"
      · rw [if_pos cn] at q
        have e : ((if z ∈ partW then xs else []).length : Int) = 1 := by rw [cn, if_pos (show ("not" : Str) ∈ partW by decide +kernel), hn cn]; rfl
        rw [e]
        exact ⟨t, [.bl false], rfl, sqT_same s2 t1, by simp, .inl ⟨rfl, q t H2 (s1.trans s2) (sqT_same s2 t1)⟩⟩
      · rw [if_neg cn] at q
        have e : ((if z ∈ partW then xs else []).length : Int) = 0 := by rw [if_neg (show z ∉ partW by simp only [partW, List.mem_cons, List.not_mem_nil, or_false, not_or]; exact ⟨cn, c⟩)]; rfl
        rw [e]
        exact ⟨t, [.bl false], rfl, sqT_same s2 t1, by simp, .inr ⟨rfl, fun p3 hp3 => q p3 _ ((s1.trans s2).trans (Rd.sNew hp3)) (.inl (.inl upd_same))⟩⟩
abbrev sIs_ask : Stmt := top 49
abbrev nIs_ask : List Str := ["method", "node", "operation", "roles", "role"]
theorem scIs_ask : FnScope nIs_ask ["method", "node"] (defScope sIs_ask) := ⟨rfl, rfl, rfl, by decide +kernel, rfl, by decide +kernel, by decide +kernel⟩
def spAsk (K : PySem.W.Frag) : Sp := fun vs H Q _ => ∃ (v : V) (m : Str) (ds : List PyData), vs = [.str m, v] ∧ Dp K H v (.tuple (.str "ask" :: ds)) ∧ okUA ds = true ∧ m ∈ methods ∧ ds.length ≤ 1000 ∧ ∀ H', Same H H' → Q (.bl (askD m ds)) H'
set_option pp.maxSteps 3000 in
theorem ok_ask (T : Txt K mg) {p_ASKED_OF_ONE p_ASKED_OF_TWO : Addr} (g_ASKED_OF_ONE : mg "ASKED_OF_ONE" = some (.ref p_ASKED_OF_ONE)) (t1 : ∀ H, SqT K H p_ASKED_OF_ONE (askOne.map V.str)) (g_ASKED_OF_TWO : mg "ASKED_OF_TWO" = some (.ref p_ASKED_OF_TWO)) (t2 : ∀ H, SqT K H p_ASKED_OF_TWO (askTwo.map V.str))
    (D : DefAt K mg "_is_ask" sIs_ask ["method", "node"]) (CIs_role : CalG P w K mg base 5 "_is_role" (spRole K)) (CIs_one_of : CalG P w K mg base 1 "is_one_of" (spOneOf K)) : CalG P w K mg base 6 "_is_ask" (spAsk K) := by
  refine D.by scIs_ask (fun vs H Q E h => ?_) (fun f cd A hg outer s H vs Q E hr h => ?_)
  · obtain ⟨_, _, _, rfl, _⟩ := h
    rfl
  · obtain ⟨v, m, ds, rfl, dp, ok, hm, hl, q⟩ := h
    obtain ⟨p, xs, rfl, hs, ha⟩ := dpT dp
    obtain ⟨x1, ys, rfl, h1, ha1⟩ := dpC ha
    obtain rfl := dpS h1
    have len := dpa_len ha1
    refine ⟨_, (pss_cons (ps_if (pt_cmpR (r := rIn K true) op_notIn_seq (pe_callB (r := Rd.rLenK K) Rd.callLen (by rfl) T.len PySem.boot_len (pa_cons (pv 1) pa_nil)) (pe_tup (pa_cons pe_int (pa_cons pe_int pa_nil))) (by rfl))
  (pss_one (ps_ret pe_bl))
  pss_nil)
  (pss_cons (ps_asg (pe_slice (r := rSlA K) sl_tupA (pv 1) (po_some pe_int) po_none) (Sr.pg_star (n := 2) (i := 1) (by rfl) (pgs_cons (pg_name (i := 2) scIs_ask.nd rfl (Or.inl rfl)) (pgs_cons (pg_name (i := 3) scIs_ask.nd rfl (Or.inl rfl)) pgs_nil))))
  (pss_cons (ps_if (pt_not (pt_val (pe_callB (r := rAll K) (cr_all rfl) (by rfl) T.all (by decide +kernel) (pa_cons (pe_lc (wi := iList K _) (own := [("role", 4)]) (g := gName 4) (by rfl) scIs_ask.nd (pi_list (pv 3)) (blkOk_by (N := nIs_ask) (sc := defScope sIs_ask) (by decide +kernel)) (fun _ _ _ _ _ => pg_name (i := 4) scIs_ask.nd rfl (Or.inl rfl)) (fun _ _ _ _ _ => pts_nil) (fun _ _ _ _ _ => (pe_cG CIs_role hg hr (by decide) (pa_cons (pv 0) (pa_cons (pv 4) pa_nil))))) pa_nil))))
  (pss_one (ps_ret pe_bl))
  pss_nil)
  (pss_cons (ps_if (pt_cmpR op_eq (pe_callB (r := Rd.rLenK K) Rd.callLen (by rfl) T.len PySem.boot_len (pa_cons (pv 3) pa_nil)) pe_int (nomark _))
  (pss_one (ps_ret (pe_cG CIs_one_of hg hr (by decide) (pa_cons (pv 2) (pa_cons (pe_glob (v := .ref p_ASKED_OF_ONE) (by rfl) g_ASKED_OF_ONE rfl) pa_nil)))))
  pss_nil)
  (pss_one (ps_ret (pe_and (pe_cG CIs_one_of hg hr (by decide) (pa_cons (pv 2) (pa_cons (pe_glob (v := .ref p_ASKED_OF_TWO) (by rfl) g_ASKED_OF_TWO rfl) pa_nil))) (pe_one (pe_cmpR (r := rNeD K) (op_neD hr.units) (pe_ix (r := rIxL K) ix_list (pv 3) pe_int (fun _ _ => rfl)) (pe_ix (r := rIxL K) ix_list (pv 3) pe_int (fun _ _ => rfl)) (nomark _)))))))))), ?_⟩
    repeat walk_at "rd"
    refine Rd.lenT hs ?_
    repeat walk_at "rd"
    refine ⟨Rd.sz (by simp), fun t ht => ?_⟩
    have s1 := Rd.sNew (o := .tup [.int 3, .int 4]) ht
    refine inT (xs := [.int 3, .int 4]) (.inl (.inl upd_same)) rfl rfl ?_
    have ev : (if true = true then !inV (.int (((V.str "ask" :: ys).length : Nat) : Int)) [.int 3, .int 4] else inV (.int (((V.str "ask" :: ys).length : Nat) : Int)) [.int 3, .int 4]) = !decide (ds.length = 2 ∨ ds.length = 3) := by
      rw [if_pos rfl, List.length_cons, len]
      show (!(((3 : Int) == ((ds.length + 1 : Nat) : Int)) || (((4 : Int) == ((ds.length + 1 : Nat) : Int)) || false))) = _
      by_cases a : ds.length = 2
      · rw [a]; rfl
      · by_cases b : ds.length = 3
        · rw [b]; rfl
        · have n1 : ((3 : Int) == ((ds.length + 1 : Nat) : Int)) = false := beq_eq_false_iff_ne.mpr (by omega)
          have n2 : ((4 : Int) == ((ds.length + 1 : Nat) : Int)) = false := beq_eq_false_iff_ne.mpr (by omega)
          rw [n1, n2, decide_eq_false (by omega)]
          rfl
    rw [ev]
    have hs1 := sqT_same s1 hs
    have ha1 := dpa_mono s1 ha1
    generalize upd H t (.tup [.int 3, .int 4]) = H1 at s1 hs1 ha1 ⊢
    refine ⟨_, rfl, ?_⟩
    refine Rd.ndec (fun c => ?_) (fun hk => ?_)
    · have e : askD m ds = false := by
        match ds, c with
        | [], _ => rfl
        | [_], _ => rfl
        | [_, _], c => exact absurd (.inl rfl) c
        | [_, _, _], c => exact absurd (.inr rfl) c
        | _ :: _ :: _ :: _ :: _, _ => rfl
      rw [e] at q
      repeat walk_at "rd"
      exact q _ s1
    repeat walk_at "rd"
    refine cutG hs1 fun t3 H2 s2 ht3 => ?_
    rw [cut_tail] at ht3
    obtain ⟨dO, rs, rfl⟩ : ∃ dO rs, ds = dO :: rs := by
      cases ds with
      | nil => simp at hk
      | cons a l => exact ⟨a, l, rfl⟩
    obtain ⟨o, ys, rfl, ho, har⟩ := dpC (dpa_mono s2 ha1)
    have lenr := dpa_len har
    rw [okUA, Bool.and_eq_true] at ok
    repeat walk_at "rd"
    refine starR ht3 (by decide) (by simp) (by rw [List.length_cons, lenr]; rw [List.length_cons] at hl; omega) fun Dd hD => ?_
    have e1 : (o :: ys).take 1 ++ [.ref Dd] ++ ((o :: ys).drop 1).drop ((o :: ys).length + 1 - 2) = [o, .ref Dd] := by simp
    have e2 : ((o :: ys).drop 1).take ((o :: ys).length + 1 - 2) = ys := by simp
    rw [e1, e2]
    have s3 := Rd.sNew (o := .lst ys) hD
    have hd3 : upd H2 Dd (.lst ys) Dd = some (.lst ys) := upd_same
    have ho := dp_mono s3 ho
    have har := dpa_mono s3 har
    generalize upd H2 Dd (.lst ys) = H3 at s3 hd3 ho har ⊢
    repeat walk_at "rd"
    refine Rd.lcL (K := K) (a := Dd) (xs := ys) (bs := rs) (fun d x H => Dp K H x d) (fun (b : Bool) y _ => y = .bl b) (fun _ => true) (fun d => roleD m d) (fun R k => Rd.var rfl k) (SqL.of hd3) (fun _ _ _ _ s h => dp_mono s h) (fun _ _ _ _ _ h => h) (data_prd har) (by rw [lenr]; rw [List.length_cons] at hl; omega) (fun _ => rfl) ?_ ?_ ?_
    · intro b x H4 R _ _ _ _ k
      repeat walk_at "rd"
      exact k _ (Same.refl _)
    · rintro b x H4 R _ _ _ db s4 k
      obtain ⟨tn, kd⟩ := dp_kd db
      repeat walk_at "rd"
      exact ⟨m, x, tn, rfl, hm, kd, fun H' s' => k _ H' s' (Rd.off_any (by rw [dp_isIn _ db, role_inD]))⟩
    · intro Dx zs H4 hDx s4 hd pr
      have e : zs = (rs.map fun r => roleD m r).map V.bl := by
        rw [List.filter_eq_self.mpr (fun _ _ => rfl)] at pr
        exact Rd.pair_map pr
      rw [e] at hd
      have S := ((s1.trans s2).trans s3).trans s4
      have hd4 := s4 _ _ hd3
      have ho := dp_mono s4 ho
      have har := dpa_mono s4 har
      obtain ⟨tno, kdo⟩ := dp_kd ho
      repeat walk_at "rd"
      refine Rd.all_ (SqL.of hd) ?_
      rw [show (rs.map fun r => roleD m r).all id = rs.all (roleD m) by rw [List.all_map]; rfl]
      refine ⟨_, rfl, ?_⟩
      refine Rd.bool (fun c => ?_) (fun c => ?_)
      · have c : rs.all (roleD m) = false := by simpa using c
        have e : askD m (dO :: rs) = false := by
          match rs, hk, c with
          | [r], _, c => show (inD askOne dO && roleD m r) = false; simp at c; simp [c]
          | [r, z], _, c =>
            show (inD askTwo dO && roleD m r && roleD m z && !(PyData.eqv r z)) = false
            have c : (roleD m r && roleD m z) = false := by simpa using c
            rw [Bool.and_assoc (inD askTwo dO), c]
            simp
          | [], hk, _ => simp at hk
          | _ :: _ :: _ :: _, hk, _ => simp at hk
        rw [e] at q
        repeat walk_at "rd"
        exact q _ S
      · have c : rs.all (roleD m) = true := by simpa using c
        repeat walk_at "rd"
        match rs, hk, c, ys, har, lenr, hd4, ok with
        | [r], _, c, [y], har, _, hd4, ok =>
          refine Rd.dec (fun _ => ?_) (fun z => absurd rfl z)
          have e : askD m [dO, r] = inD askOne dO := by
            show (inD askOne dO && roleD m r) = _
            rw [show roleD m r = true by simpa using c, Bool.and_true]
          rw [e] at q
          repeat walk_at "rd"
          refine ⟨o, p_ASKED_OF_ONE, tno, askOne, rfl, kdo, t1 _, ?_⟩
          rw [dp_isIn _ ho]
          exact q _ S
        | [r, z], _, c, [y, y2], har, _, hd4, ok =>
          obtain ⟨x1, l1, e, hr1, hx⟩ := dpC har
          cases e
          obtain ⟨x2, l2, e, hr2, _⟩ := dpC hx
          cases e
          have c2 : roleD m r = true ∧ roleD m z = true := by simpa using c
          refine Rd.dec (fun e => by cases e) (fun _ => ?_)
          have e : askD m [dO, r, z] = (inD askTwo dO && !(PyData.eqv r z)) := by
            show (inD askTwo dO && roleD m r && roleD m z && !(PyData.eqv r z)) = _
            rw [c2.1, c2.2, Bool.and_true, Bool.and_true]
          rw [e] at q
          repeat walk_at "rd"
          refine ⟨o, p_ASKED_OF_TWO, tno, askTwo, rfl, kdo, t2 _, ?_⟩
          rw [dp_isIn _ ho]
          refine ⟨_, rfl, ?_⟩
          refine Rd.bool (fun c => ?_) (fun c => ?_)
          · rw [c, Bool.true_and] at q
            have ok2 := ok.2
            rw [okUA, okUA, okUA, Bool.and_eq_true, Bool.and_eq_true] at ok2
            have sh : ∀ d, roleD m d = true → okU d = true → SeqAt.shaped d = true := by
              intro d h1 h2
              cases d with
              | str z => exact str_sh h2
              | _ => cases h1
            repeat walk_at "rd"
            refine Rd.neD hr1 hr2 (sh _ c2.1 ok2.1) (sh _ c2.2 ok2.2.1) ?_
            exact q _ S
          · rw [c, Bool.false_and] at q
            exact q _ S
        | [], hk, _, _, _, _, _, _ => simp at hk
        | _ :: _ :: _ :: _, hk, _, _, _, _, _, _ => simp at hk
end
end Ab
namespace Ab
open PySem.Spec PyProof.Rows
local macro_rules | `(tactic| walk_at "rd") => `(tactic| (with_reducible first | refine Rd.tt_ ?_ | refine Rd.ff_ ?_))
mutual
def wid : PyData → Nat
  | .list xs => max xs.length (widA xs)
  | .tuple xs => max xs.length (widA xs)
  | _ => 0
def widA : List PyData → Nat
  | [] => 0
  | x :: xs => max (wid x) (widA xs)
end
theorem widA_mem : ∀ {xs : List PyData} {x : PyData}, x ∈ xs → wid x ≤ widA xs
  | y :: ys, x, h => by
    rw [widA]
    rcases List.mem_cons.mp h with rfl | h
    · omega
    · have := widA_mem h; omega
theorem depA_mem : ∀ {xs : List PyData} {x : PyData}, x ∈ xs → PyData.depth x ≤ PyData.depthAll xs
  | y :: ys, x, h => by
    rw [PyData.depthAll]
    rcases List.mem_cons.mp h with rfl | h
    · omega
    · have := depA_mem h; omega
theorem wtA_mem : ∀ {xs : List PyData} {x : PyData}, x ∈ xs → PyData.weight x ≤ PyData.weightAll xs
  | y :: ys, x, h => by
    rw [PyData.weightAll]
    rcases List.mem_cons.mp h with rfl | h
    · omega
    · have := wtA_mem h; omega
def strD : PyData → Bool
  | .str _ => true
  | _ => false
theorem dp_strD {K : PySem.W.Frag} {H : Hp} {v : V} {d : PyData} (h : Dp K H v d) : isStr v = strD d := by cases h <;> rfl
structure Uni (d : PyData) : Prop where
  ok : okU d = true
  wd : wid d ≤ 100
  dp : PyData.depth d ≤ 500
theorem Uni.mem {ds : List PyData} {d : PyData} (h : Uni (.tuple ds)) (m : d ∈ ds) : Uni d := by
  obtain ⟨a, b, c⟩ := h
  rw [okU, okUA_iff] at a
  rw [wid] at b
  rw [PyData.depth] at c
  have h1 := widA_mem m
  have h2 := depA_mem m
  exact ⟨a d m, by omega, by omega⟩
theorem Uni.len {ds : List PyData} (h : Uni (.tuple ds)) : ds.length ≤ 100 := by
  have := h.wd
  rw [wid] at this
  omega
section
variable {P : Program} {w : World} {K : PySem.W.Frag} {mg : Str → Option Value} {base : Heap}
abbrev sIs_node : Stmt := top 51
abbrev nIs_node : List Str := ["method", "node", "tail", "word"]
theorem scIs_node : FnScope nIs_node ["method", "node", "tail"] (defScope sIs_node) := ⟨rfl, rfl, rfl, by decide +kernel, rfl, by decide +kernel, by decide +kernel⟩
def spNode (K : PySem.W.Frag) : Sp := fun vs H Q _ => ∃ (v : V) (m : Str) (d : PyData) (tail : Bool), vs = [.str m, v, .bl tail] ∧ Dp K H v d ∧ Uni d ∧ m ∈ methods ∧ ∀ H', Same H H' → Q (.bl (nodeD m tail d)) H'
set_option pp.maxSteps 3000 in
theorem ok_node (T : Txt K mg) {p_PARTS : Addr} (pt : PartsA K w mg p_PARTS) (D : DefAt K mg "_is_node" sIs_node ["method", "node", "tail"]) (CIs_count : CalG P w K mg base 2 "is_count" (spCnt K)) (CIs_ask : CalG P w K mg base 6 "_is_ask" (spAsk K)) (CIs_word_alone : CalG P w K mg base 5 "_is_word_alone" spAlone) :
    CalG P w K mg base 7 "_is_node" (spNode K) := by
  have g_PARTS := pt.g
  obtain ⟨es, n, D_PARTS⟩ := pt.D
  refine D.by scIs_node (fun vs H Q E h => ?_) (fun f cd A hg outer s H vs Q E hr h => ?_)
  · obtain ⟨_, _, _, _, rfl, _⟩ := h
    rfl
  · obtain ⟨v, m, d, tail, rfl, dp, uni, hm, q⟩ := h
    refine ⟨_, (pss_cons (ps_if (PW.pt (pw_or (pt_not (pt_val (pe_callB (r := rIsi K) call_isi (by rfl) T.isinstance (by decide +kernel) (pa_cons (pv 1) (pa_cons (pe_bltn (v := .ty "tuple") (by rfl) T.tuple (by decide +kernel) rfl) pa_nil))))) (pw_or (pt_not (Rd.ptTru (K := K) rfl (pt_truth (pv 1) (by intro _; rfl)))) (pw_or1 (pt_not (pt_val (pe_callB (r := rIsi K) call_isi (by rfl) T.isinstance (by decide +kernel) (pa_cons (pe_ix (r := rIxT K) ix_tup (pv 1) pe_int (fun _ _ => rfl)) (pa_cons (pe_bltn (v := .ty "str") (by rfl) T.str (by decide +kernel) rfl) pa_nil)))))))))
  (pss_one (ps_ret pe_bl))
  pss_nil)
  (pss_cons (ps_set (i := 3) scIs_node.nd rfl (Or.inl rfl) (pe_ix (r := rIxT K) ix_tup (pv 1) pe_int (fun _ _ => rfl)))
  (pss_cons (ps_if (pt_cmpR (r := rInKd K p_PARTS) (op_inKd D_PARTS) (pv 3) (pe_glob (v := .ref p_PARTS) (by rfl) g_PARTS rfl) (by rfl))
  (pss_one (ps_ret (pe_cmpR op_eq (pe_callB (r := Rd.rLenK K) Rd.callLen (by rfl) T.len PySem.boot_len (pa_cons (pv 1) pa_nil)) (pe_op op_add pe_int (pe_ix (r := rIxD K w) ix_kdict (pe_glob (v := .ref p_PARTS) (by rfl) g_PARTS rfl) (pv 3) (fun _ _ => rfl))) (nomark _))))
  pss_nil)
  (pss_cons (ps_if (pt_cmpR op_eq (pv 3) pe_str (nomark _))
  (pss_one (ps_ret (pe_and (pe_cmpR op_eq (pe_callB (r := Rd.rLenK K) Rd.callLen (by rfl) T.len PySem.boot_len (pa_cons (pv 1) pa_nil)) pe_int (nomark _)) (pe_one (pe_cG CIs_count hg hr (by decide) (pa_cons (pe_ix (r := rIxT K) ix_tup (pv 1) pe_int (fun _ _ => rfl)) pa_nil))))))
  pss_nil)
  (pss_cons (ps_if (pt_cmpR op_eq (pv 3) pe_str (nomark _))
  (pss_one (ps_ret (pe_cG CIs_ask hg hr (by decide) (pa_cons (pv 0) (pa_cons (pv 1) pa_nil)))))
  pss_nil)
  (pss_one (ps_ret (pe_and (pe_cmpR op_eq (pe_callB (r := Rd.rLenK K) Rd.callLen (by rfl) T.len PySem.boot_len (pa_cons (pv 1) pa_nil)) pe_int (nomark _)) (pe_one (pe_cG CIs_word_alone hg hr (by decide) (pa_cons (pv 0) (pa_cons (pv 3) (pa_cons (pv 2) pa_nil))))))))))))), ?_⟩
    have q0 := q H (Same.refl _)
    repeat walk_at "rd"
    have other : ∀ tn, TyX K H v (.type tn) → kitB tn "tuple" = some false → nodeD m tail d = false → rIsi K [v, .ty "tuple"] H (fun x H' => x = .bl false ∧ H' = H) := fun tn ty kt _ => isi ty kt ⟨rfl, rfl⟩
    clear other
    have bad : nodeD m tail d = false → Q (.bl false) H := fun e => by rw [e] at q0; exact q0
    cases d with
    | none => refine isi (.base (by cases dp; exact .non)) (by show kitB "NoneType" "tuple" = some false; decide +kernel) ?_; repeat walk_at "rd"; exact bad rfl
    | bool b => refine isi (.base (by cases dp; exact .bl b)) (by show kitB "bool" "tuple" = some false; decide +kernel) ?_; repeat walk_at "rd"; exact bad rfl
    | int i => refine isi (.base (by cases dp; exact .int i)) (by show kitB "int" "tuple" = some false; decide +kernel) ?_; repeat walk_at "rd"; exact bad rfl
    | str z => refine isi (.base (by cases dp; exact .str z)) (by show kitB "str" "tuple" = some false; decide +kernel) ?_; repeat walk_at "rd"; exact bad rfl
    | list xs =>
      cases dp with
      | lst a b => refine isi (lst_ty a) (by show kitB "list" "tuple" = some false; decide +kernel) ?_; repeat walk_at "rd"; exact bad rfl
    | dict xs => cases dp
    | tuple ds =>
      obtain ⟨p, xs, rfl, hs, ha⟩ := dpT dp
      have len := dpa_len ha
      refine isi (tup_ty hs) (by show kitB "tuple" "tuple" = some true; decide +kernel) ?_
      refine ⟨_, rfl, ?_⟩
      refine offI ?_
      repeat walk_at "rd"
      refine ⟨!xs.isEmpty, .inr (.inl ⟨_, hs, rfl⟩), ?_⟩
      cases ds with
      | nil =>
        obtain rfl := dpN ha
        refine Rd.tt_ ?_
        repeat walk_at "rd"
        exact bad rfl
      | cons d0 ds =>
        obtain ⟨x0, xs, rfl, h0, hax⟩ := dpC ha
        have lenx := dpa_len hax
        refine Rd.ff_ ?_
        repeat walk_at "rd"
        refine Rd.ixT hs (Rd.atN (by decide) rfl) ?_
        repeat walk_at "rd"
        obtain ⟨tn0, kd0⟩ := dp_kd h0
        refine isi kd0.ty kd0.s ?_
        rw [dp_strD h0]
        by_cases hw : ∃ z, d0 = .str z
        · obtain ⟨z, rfl⟩ := hw
          obtain rfl := dpS h0
          have zU : PyData.strOk z = true := (uni.mem List.mem_cons_self).ok
          obtain ⟨r, hr1, hr2⟩ := pt.h _ zU
          have dsU : ∀ x ∈ ds, Uni x := fun x hx => uni.mem (List.mem_cons_of_mem _ hx)
          have dl := uni.len
          rw [List.length_cons] at dl
          refine ⟨_, rfl, ?_⟩
          refine Rd.ff_ ?_
          repeat walk_at "rd"
          refine Rd.ixT hs (Rd.atN (by decide) rfl) ?_
          repeat walk_at "rd"
          refine ⟨z, r, rfl, rfl, hr1, ?_⟩
          rw [hr2]
          refine ⟨_, rfl, ?_⟩
          have q0 : Q (.bl (wordD m z ds tail)) H := q0
          have q : ∀ H', Same H H' → Q (.bl (wordD m z ds tail)) H' := q
          refine Rd.dec (fun c => ?_) (fun c => ?_)
          · have c : z = "not" ∨ z = "if" := by simpa [partW] using c
            repeat walk_at "rd"
            refine Rd.lenT hs ?_
            repeat walk_at "rd"
            rcases c with rfl | rfl
            · refine ⟨p_PARTS, "not", _, rfl, rfl, pt.n1, ?_⟩
              repeat walk_at "rd"
              have e : decide (V.int (((V.str "not" :: xs).length : Nat) : Int) = V.int (1 + 1)) = wordD m "not" ds tail := by
                show _ = (if ("not" : Str) = "not" then ds.length == 1 else _)
                rw [if_pos rfl, List.length_cons, lenx]
                by_cases e : ds.length = 1
                · rw [e]; rfl
                · rw [decide_eq_false (fun z => e (by have := V.int.inj z; omega))]
                  exact (beq_eq_false_iff_ne.mpr e).symm
              rw [e]
              exact q0
            · refine ⟨p_PARTS, "if", _, rfl, rfl, pt.n3, ?_⟩
              repeat walk_at "rd"
              have e : decide (V.int (((V.str "if" :: xs).length : Nat) : Int) = V.int (1 + 3)) = wordD m "if" ds tail := by
                show _ = (if ("if" : Str) = "not" then _ else if ("if" : Str) = "if" then ds.length == 3 else _)
                rw [if_neg (by decide +kernel), if_pos rfl, List.length_cons, lenx]
                by_cases e : ds.length = 3
                · rw [e]; rfl
                · rw [decide_eq_false (fun z => e (by have := V.int.inj z; omega))]
                  exact (beq_eq_false_iff_ne.mpr e).symm
              rw [e]
              exact q0
          · have c : z ≠ "not" ∧ z ≠ "if" := by simpa [partW, not_or] using c
            rw [wordD, if_neg c.1, if_neg c.2] at q0
            repeat walk_at "rd"
            refine Rd.dec (fun cc => ?_) (fun cc => ?_)
            · obtain rfl := V.str.inj cc
              rw [if_pos rfl] at q0
              repeat walk_at "rd"
              refine Rd.lenT hs ?_
              repeat walk_at "rd"
              refine Rd.dec (fun l2 => ?_) (fun l2 => ?_)
              · have l2 := V.int.inj l2
                rw [List.length_cons, lenx] at l2
                match ds, xs, hax, q0, l2 with
                | [dc], [y], hax, q0, _ =>
                  obtain ⟨y', _, e, hy, _⟩ := dpC hax
                  cases e
                  obtain ⟨tn, kd⟩ := dp_kd hy
                  repeat walk_at "rd"
                  refine Rd.ixT hs (Rd.atN (by decide) rfl) ?_
                  repeat walk_at "rd"
                  refine ⟨y, tn, rfl, kd, ?_⟩
                  rw [dp_isCnt hy]
                  exact q0
                | [], _, _, _, l2 => exact absurd l2 (by decide)
                | _ :: _ :: _, _, _, _, l2 => simp at l2; omega
              · match ds, q0, l2 with
                | [], q0, _ => exact q0
                | [_], _, l2 => exact absurd (by rw [List.length_cons, lenx]; rfl) l2
                | _ :: _ :: _, q0, _ => exact q0
            · have cc : z ≠ "count" := fun e => cc (by rw [e])
              rw [if_neg cc] at q0
              repeat walk_at "rd"
              refine Rd.dec (fun ca => ?_) (fun ca => ?_)
              · obtain rfl := V.str.inj ca
                repeat walk_at "rd"
                refine ⟨.ref p, m, ds, rfl, dp, okUA_iff.mpr fun x hx => (dsU x hx).ok, hm, by omega, fun H' s' => ?_⟩
                have := q H' s'
                rw [wordD, if_neg c.1, if_neg c.2, if_neg cc, if_pos rfl] at this
                exact this
              · have ca : z ≠ "ask" := fun e => ca (by rw [e])
                rw [if_neg ca] at q0
                repeat walk_at "rd"
                refine Rd.lenT hs ?_
                repeat walk_at "rd"
                refine Rd.dec (fun l1 => ?_) (fun l1 => ?_)
                · have l1 := V.int.inj l1
                  rw [List.length_cons, lenx] at l1
                  have e : ds = [] := List.length_eq_zero_iff.mp (by omega)
                  rw [e] at q0
                  repeat walk_at "rd"
                  exact ⟨m, z, tail, rfl, hm, q0⟩
                · have e : ds.isEmpty = false := by
                    cases ds with
                    | nil => exact absurd (by rw [List.length_cons, lenx]; rfl) l1
                    | cons _ _ => rfl
                  rw [e, Bool.false_and] at q0
                  exact q0
        · have e1 : strD d0 = false := by
            cases d0 with
            | str z => exact absurd ⟨z, rfl⟩ hw
            | _ => rfl
          have e2 : nodeD m tail (.tuple (d0 :: ds)) = false := by
            cases d0 with
            | str z => exact absurd ⟨z, rfl⟩ hw
            | _ => rfl
          rw [e1]
          refine ⟨_, rfl, ?_⟩
          refine Rd.tt_ ?_
          repeat walk_at "rd"
          exact bad e2
end
end Ab
namespace Ab
open PySem.Spec PyProof.Rows
local macro_rules | `(tactic| walk_at "rd") => `(tactic| (with_reducible first | refine Rd.tt_ ?_ | refine Rd.ff_ ?_))
theorem walk_zipT {K : PySem.W.Frag} {a b : Addr} {xs ys : List V} (e : ys.length = xs.length) : Walk (RZ.ItzT K a b) xs.length (fun H => SqT K H a xs ∧ SqT K H b ys) (YPair (fun i => xs[i]?) (fun i => ys[i]?)) :=
  ⟨fun i _ hi q => ⟨xs, ys, xs[i], ys[i]'(by omega), q.1, q.2, List.getElem?_eq_getElem hi, List.getElem?_eq_getElem (by omega)⟩, fun _ q => ⟨xs, ys, q.1, q.2, .inl (Nat.le_refl _)⟩,
    fun _ _ _ _ _ q ⟨t, x, y, h1, h2, h3, h4, h5⟩ => ⟨t, x, y, h1, h2, h3, h4 xs q.1, h5 ys q.2⟩⟩
/-- all but what stands at p stays -/
def Keep (p : Addr) (H H' : Hp) : Prop := ∀ b o, b ≠ p → H b = some o → H' b = some o
theorem Keep.same {p : Addr} {H H1 : Hp} (s : Same H H1) : Keep p H H1 := fun b u _ e => s b u e
theorem Keep.put {p : Addr} {H H1 : Hp} {o : HO} (a : Keep p H H1) : Keep p H (upd H1 p o) := fun b u n e => by rw [upd_ne n]; exact a b u n e
theorem Keep.trans {p : Addr} {H H1 H2 : Hp} (a : Keep p H H1) (b : Keep p H1 H2) : Keep p H H2 := fun q u n e => b q u n (a q u n e)
theorem sqT_keep {K : PySem.W.Frag} {p a : Addr} {H H' : Hp} {xs : List V} (k : Keep p H H') (n : NoTup H p) (h : SqT K H a xs) : SqT K H' a xs := by
  rcases h with (h | ⟨o, h⟩) | h
  · exact .inl (.inl (k _ _ (fun e => by subst e; exact (n _ h).1 _ rfl) h))
  · exact .inl (.inr ⟨o, k _ _ (fun e => by subst e; exact (n _ h).2 _ _ rfl) h⟩)
  · exact .inr h
/-- it waits in the heap; its data stand in H0 -/
def ItB (K : PySem.W.Frag) (H0 H : Hp) (z : Wt) (x : V) : Prop := ∃ t v, x = .ref t ∧ SqT K H t [v, .int (z.2.1 : Int), .bl z.2.2] ∧ Dp K H0 v z.1 ∧ Uni z.1
theorem ItB.keep {K : PySem.W.Frag} {p : Addr} {H0 H H' : Hp} {z : Wt} {x : V} (k : Keep p H H') (n : NoTup H p) (h : ItB K H0 H z x) : ItB K H0 H' z x :=
  let ⟨t, v, e, h1, h2⟩ := h
  ⟨t, v, e, sqT_keep k n h1, h2⟩
theorem ItB.mono {K : PySem.W.Frag} {H0 H H' : Hp} {z : Wt} {x : V} (s : Same H H') (h : ItB K H0 H z x) : ItB K H0 H' z x :=
  let ⟨t, v, e, h1, h2⟩ := h
  ⟨t, v, e, sqT_same s h1, h2⟩
theorem pair_cat {α β : Type} {F : α → β → Prop} : ∀ {as as' : List α} {bs bs' : List β}, Paired F as bs → Paired F as' bs' → Paired F (as ++ as') (bs ++ bs')
  | _, _, _, _, .nil, h => h
  | _, _, _, _, .cons a b, h => .cons a (pair_cat b h)
theorem pair_len' {α β : Type} {F : α → β → Prop} : ∀ {as : List α} {bs : List β}, Paired F as bs → as.length = bs.length
  | _, _, .nil => rfl
  | _, _, .cons _ t => by rw [List.length_cons, List.length_cons, pair_len' t]
theorem dpa_get {K : PySem.W.Frag} {H : Hp} : ∀ {xs : List V} {ds : List PyData} {i : Nat} {x : V} {d : PyData}, DpAll K H xs ds → xs[i]? = some x → ds[i]? = some d → Dp K H x d
  | _, _, 0, _, _, .cons a _, h1, h2 => by
    rw [List.getElem?_cons_zero] at h1 h2
    cases h1
    cases h2
    exact a
  | _, _, i + 1, _, _, .cons _ b, h1, h2 => by
    rw [List.getElem?_cons_succ] at h1 h2
    exact dpa_get b h1 h2
  | _, _, _, _, _, .nil, h1, _ => by simp at h1
theorem zipK {K : PySem.W.Frag} {te : TE} {vs : List Nat} {i j d : Nat} {σ : L2.St} {H0 H1 : Hp} {Q : VK} {a b : Addr} {xs : List V} {ds : List PyData} {ts : List Bool} (hx : SqT K H1 a xs) (hd : DpAll K H0 xs ds) (hu : ∀ x ∈ ds, Uni x) (hb : SqT K H1 b (ts.map V.bl)) (kt : ts.length = ds.length) (l3 : ds.length ≤ 3)
    (hw : ∀ x y, wipe (((wipe σ vs).set i (some x)).set j (some y)) vs = wipe σ vs)
    (elem : ∀ x (c : Bool) H2 (R : VK), Same H1 H2 → (∀ p, H2 p = none → R (.ref p) (upd H2 p (.tup [x, .int ((d + 1 : Nat) : Int), .bl c]))) → te (((wipe σ vs).set i (some x)).set j (some (.bl c))) H2 R)
    (fin : ∀ D ys H2, H1 D = none → Same H1 H2 → H2 D = some (.lst ys) → Paired (ItB K H0 H2) ((ds.zip ts).map fun p => (p.1, d + 1, p.2)) ys → Q (.ref D) H2) : Rd.LcGo (RZ.ItzT K a b) (gTup K 2 (gCons (gName i) (gCons (gName j) gNil))) tYes te vs σ Q H1 := by
  intro D hD
  have len := dpa_len hd
  have lk : ((ds.zip ts).map fun p => ((p.1, d + 1, p.2) : Wt)).length = xs.length := by
    rw [List.length_map, List.length_zip, kt, len]
    omega
  have le : (ts.map V.bl).length = xs.length := by rw [List.length_map, kt, len]
  have lx : xs.length ≤ 3 := by rw [len]; exact l3
  refine lc_it (walk_zipT (K := K) (a := a) (b := b) (xs := xs) (ys := ts.map V.bl) le) (fun n H2 => ∃ ys, H2 D = some (.lst ys) ∧ ys.length ≤ n ∧ Same H1 H2 ∧ Paired (ItB K H0 H2) (((ds.zip ts).map fun p => ((p.1, d + 1, p.2) : Wt)).take n) ys) ⟨[], upd_same, Nat.le_refl _, Rd.sNew hD, .nil⟩ ?_ ?_ ?_
  · rintro n H2 _ ⟨ys, _, _, s, _⟩
    exact ⟨sqT_same s hx, sqT_same s hb⟩
  · rintro n v H2 H3 hn ⟨ys, h2, hy, s, pr⟩ ⟨T, x, y, rfl, hT, rfl, ex, ey⟩
    have ex : xs[n]? = some x := ex
    have ey : (ts.map V.bl)[n]? = some y := ey
    rw [List.getElem?_map] at ey
    have ln : n < ts.length := by rw [List.length_map] at le; omega
    rw [List.getElem?_eq_getElem ln] at ey
    cases ey
    have lkn : n < ds.length := by omega
    have s3 := Rd.sNew (o := .tup [x, V.bl ts[n]]) hT
    refine ⟨T, _, rfl, .inl (.inl upd_same), rfl, ⟨_, _, rfl, ⟨_, _, rfl, ⟨rfl, ?_⟩⟩⟩⟩
    refine ⟨hw _ _, Rd.yes (Rd.tt_ ?_)⟩
    refine elem _ _ _ _ (s.trans s3) fun p hp => ?_
    have s4 := Rd.sNew (o := .tup [x, .int ((d + 1 : Nat) : Int), .bl ts[n]]) hp
    have h4 := s4 _ _ (s3 _ _ h2)
    have nt := nt_lst h4
    refine ⟨ys, h4, Rd.szl (by omega), ys ++ [.ref p], upd_same, by rw [List.length_append]; simp; omega, Rd.sMut ((s.trans s3).trans s4) hD, ?_⟩
    have kz : ((ds.zip ts).map fun p => ((p.1, d + 1, p.2) : Wt))[n]? = some (ds[n], d + 1, ts[n]) := by
      rw [List.getElem?_map, (List.getElem?_zip_eq_some (z := (ds[n], ts[n]))).mpr ⟨List.getElem?_eq_getElem lkn, List.getElem?_eq_getElem ln⟩]
      rfl
    rw [List.take_add_one, kz]
    have kp : Keep D H2 (upd (upd (upd H2 T (.tup [x, V.bl ts[n]])) p (.tup [x, .int ((d + 1 : Nat) : Int), .bl ts[n]])) D (.lst (ys ++ [.ref p]))) := (Keep.same (s3.trans s4)).put
    refine pair_cat (Rd.pair_imp (fun z x h => ItB.keep kp (nt_lst h2) h) pr) (.cons ⟨p, x, rfl, sqT_upd nt (.inl (.inl upd_same)), ?_⟩ .nil)
    exact ⟨dpa_get hd ex (List.getElem?_eq_getElem lkn), hu _ (List.getElem_mem lkn)⟩
  · rintro H2 ⟨ys, h2, hy, s, pr⟩
    rw [← lk, List.take_length] at pr
    exact fin D ys H2 hD s h2 pr
theorem zipD {K : PySem.W.Frag} {ta : TA} {g : TG} {tt : TT} {te : TE} {vs0 : List Nat} {σ : L2.St} {H : Hp} {Q : VK} (k : ta σ H fun vs H1 => ∃ a b xs ys, vs = [.ref a, .ref b] ∧ ((SqL K H1 a xs ∧ SqL K H1 b ys ∧ Rd.LcGo (Itz K a b) g tt te vs0 σ Q H1) ∨ (SqT K H1 a xs ∧ SqT K H1 b ys ∧ Rd.LcGo (RZ.ItzT K a b) g tt te vs0 σ Q H1))) : tLc (RZ.iZipA K ta) g tt te vs0 σ H Q := k
theorem revL {K : PySem.W.Frag} {te : TE} {σ : L2.St} {H : Hp} {Q : VK} (k : te σ H fun x H1 => ∃ a xs, x = .ref a ∧ SqL K H1 a xs ∧ ∀ p, H1 p = none → Q (.ref p) (upd H1 p (.lst xs.reverse))) : tRevL K te σ H Q := k
def numV : Option Nat → V
  | none => .non
  | some n => .int (n : Int)
/-- a right node by itself -/
theorem node_ok {m : Str} {t : Bool} {d : PyData} (h : nodeD m t d = true) : ∃ z ds, d = .tuple (.str z :: ds) ∧ (z = "not" → ds.length = 1) ∧ (z = "if" → ds.length = 3) ∧ (tailsW z t).length = (if z ∈ partW then ds else []).length ∧ (if z ∈ partW then ds else []).length ≤ 3 := by
  match d, h with
  | .tuple (.str z :: ds), h =>
    have h : wordD m z ds t = true := h
    have n1 : z = "not" → ds.length = 1 := fun e => by
      rw [wordD, if_pos e] at h
      exact beq_iff_eq.mp h
    have n3 : z = "if" → ds.length = 3 := fun e => by
      rw [wordD, if_neg (fun z' => by rw [z'] at e; exact absurd e (by decide +kernel)), if_pos e] at h
      exact beq_iff_eq.mp h
    refine ⟨z, ds, rfl, n1, n3, ?_⟩
    by_cases a : z = "if"
    · rw [tailsW, if_pos a, if_pos (show z ∈ partW by rw [a]; decide +kernel), n3 a]
      exact ⟨rfl, by decide⟩
    · by_cases b : z = "not"
      · rw [tailsW, if_neg a, if_pos b, if_pos (show z ∈ partW by rw [b]; decide +kernel), n1 b]
        exact ⟨rfl, by decide⟩
      · rw [tailsW, if_neg a, if_neg b, if_neg (show z ∉ partW by simp only [partW, List.mem_cons, List.not_mem_nil, or_false, not_or]; exact ⟨b, a⟩)]
        exact ⟨rfl, by decide⟩
section
variable {P : Program} {w : World} {K : PySem.W.Frag} {mg : Str → Option Value} {base : Heap}
abbrev sFirst_wrong : Stmt := top 54
abbrev nFirst_wrong : List Str := ["method", "expression", "waiting", "place", "node", "depth", "tail", "parts", "part", "at_tail"]
theorem scFirst_wrong : FnScope nFirst_wrong ["method", "expression"] (defScope sFirst_wrong) := ⟨rfl, rfl, rfl, by decide +kernel, rfl, by decide +kernel, by decide +kernel⟩
def spFirst (K : PySem.W.Frag) : Sp := fun vs H Q _ => ∃ (v : V) (m : Str) (d : PyData), vs = [.str m, v] ∧ Dp K H v d ∧ Uni d ∧ m ∈ methods ∧ ∀ H', Same H H' → Q (numV (goW m 16 [(d, 1, true)])) H'
set_option pp.maxSteps 3000 in
theorem ok_first (T : Txt K mg) {t16 t6 : Tok} (g_MOST_NODES : mg "MOST_NODES" = some (.int 16 t16)) (g_MOST_DEPTH : mg "MOST_DEPTH" = some (.int 6 t6)) (D : DefAt K mg "_first_wrong" sFirst_wrong ["method", "expression"]) (CParts : CalG P w K mg base 1 "_parts" (spParts K)) (CTails : CalG P w K mg base 2 "_tails" (spTails K))
    (CIs_node : CalG P w K mg base 7 "_is_node" (spNode K)) : CalG P w K mg base 8 "_first_wrong" (spFirst K) := by
  refine D.by scFirst_wrong (fun vs H Q E h => ?_) (fun f cd A hg outer s H vs Q E hr h => ?_)
  · obtain ⟨_, _, _, rfl, _⟩ := h
    rfl
  · obtain ⟨v0, m, d0, rfl, dp0, un0, hm, q⟩ := h
    refine ⟨_, (pss_cons (ps_set (i := 2) scFirst_wrong.nd rfl (Or.inl rfl) (pe_lst (pa_cons (pe_tup (pa_cons (pv 1) (pa_cons pe_int (pa_cons pe_bl pa_nil)))) pa_nil)))
  (pss_cons (ps_set (i := 3) scFirst_wrong.nd rfl (Or.inl rfl) pe_int)
  (pss_cons (ps_while PassesOwn.never (Rd.ptTru (K := K) rfl (pt_truth (pv 2) (by intro _; rfl)))
  (pss_cons (ps_asg (pe_bm0 PySem.F.plainAttrs_list PySem.F.slot_list_pop PySem.F.type_list_pop mt_pop (pv 2)) (pg_tup (by rfl) (pgs_cons (pg_name (i := 4) scFirst_wrong.nd rfl (Or.inl rfl)) (pgs_cons (pg_name (i := 5) scFirst_wrong.nd rfl (Or.inr rfl)) (pgs_cons (pg_name (i := 6) scFirst_wrong.nd rfl (Or.inl rfl)) pgs_nil)))))
  (pss_cons (ps_if (PW.pt (pw_or (pt_cmpR op_eq (pv 3) (pe_glob (v := .int 16) (by rfl) g_MOST_NODES ⟨_, rfl⟩) (nomark _)) (pw_or (pt_cmpR op_gt (pv 5) (pe_glob (v := .int 6) (by rfl) g_MOST_DEPTH ⟨_, rfl⟩) (nomark _)) (pw_or1 (pt_not (pt_val (pe_cG CIs_node hg hr (by decide) (pa_cons (pv 0) (pa_cons (pv 4) (pa_cons (pv 6) pa_nil))))))))))
  (pss_one (ps_ret (pv 3)))
  pss_nil)
  (pss_cons (ps_setLc (i := 7) (wi := RZ.iZipA K _) (own := [("part", 8), ("at_tail", 9)]) (g := gTup K 2 (gCons (gName 8) (gCons (gName 9) gNil))) (by rfl) scFirst_wrong.nd rfl rfl (sw_true rfl rfl rfl (by decide +kernel)) (RZ.pi_zipA (by rfl) T.zip (pa_cons (pe_cG CParts hg hr (by decide) (pa_cons (pv 4) pa_nil)) (pa_cons (pe_cG CTails hg hr (by decide) (pa_cons (pv 4) (pa_cons (pv 6) pa_nil))) pa_nil))) (blkOk_by (N := nFirst_wrong) (sc := defScope sFirst_wrong) (by decide +kernel)) (fun _ _ _ _ _ => pg_tup (by rfl) (pgs_cons (pg_name (i := 8) scFirst_wrong.nd rfl (Or.inl rfl)) (pgs_cons (pg_name (i := 9) scFirst_wrong.nd rfl (Or.inl rfl)) pgs_nil))) (fun _ _ _ _ _ => pts_nil) (fun _ _ _ _ _ => (pe_tup (pa_cons (pv 8) (pa_cons (pe_op op_add (pv 5) pe_int) (pa_cons (pv 9) pa_nil))))))
  (pss_cons (ps_expr (pe_bm PySem.F.plainAttrs_list PySem.F.slot_list_extend PySem.F.type_list_extend mt_extend (pv 2) (pa_cons (pe_revL (pv 7)) pa_nil)))
  (pss_one (ps_aug (i := 3) scFirst_wrong.nd rfl (Or.inl rfl) pe_int ip_add)))))))
  (pss_one (ps_ret pe_non))))), ?_⟩
    repeat walk_at "rd"
    refine ⟨Rd.sz (by simp), fun t0 ht0 => ?_⟩
    have s1 := Rd.sNew (o := .tup [v0, .int 1, .bl true]) ht0
    have e1 : upd H t0 (.tup [v0, .int 1, .bl true]) t0 = some (.tup [v0, .int 1, .bl true]) := upd_same
    generalize upd H t0 (.tup [v0, .int 1, .bl true]) = H1 at s1 e1 ⊢
    repeat walk_at "rd"
    refine ⟨Rd.sz (by simp), fun wl hwl => ?_⟩
    have s2 := Rd.sNew (o := .lst [.ref t0]) hwl
    have nw : H wl = none := by
      cases z : H wl with
      | none => rfl
      | some u => rw [s1 _ _ z] at hwl; cases hwl
    have e2 : upd H1 wl (.lst [.ref t0]) wl = some (.lst [.ref t0]) := upd_same
    have e3 := s2 _ _ e1
    have s12 := s1.trans s2
    generalize upd H1 wl (.lst [.ref t0]) = H2 at s2 e2 e3 s12 ⊢
    repeat walk_at "rd"
    refine ⟨fun k σ H' => ∃ (pl : Int) (st : List Wt) (xs : List V) (z4 z5 z6 z7 : Option V), σ = [some (.str m), some v0, some (.ref wl), some (.int pl), z4, z5, z6, z7, none, none] ∧ pl = 16 - (k : Int) ∧ k ≤ 16 ∧ Same H H' ∧ H' wl = some (.lst xs) ∧ Paired (ItB K H H') st xs.reverse ∧ goW m k st = goW m 16 [(d0, 1, true)] ∧ xs.length ≤ 1000 - 3 * k,
      ⟨16, 0, [(d0, 1, true)], [.ref t0], _, _, _, _, rfl, rfl, Nat.le_refl _, s12, e2, .cons ⟨t0, v0, rfl, .inl (.inl e3), dp0, un0⟩ .nil, rfl, by simp⟩, ?_⟩
    · rintro k σ H3 ⟨pl, st, xs, z4, z5, z6, z7, rfl, epl, k16, s3, hw, pr, eq, xl⟩
      repeat walk_at "rd"
      refine Rd.bool (fun c => ?_) (fun c => ?_)
      · have xne : xs ≠ [] := fun e => by rw [e] at c; cases c
        obtain ⟨r, x, rfl⟩ : ∃ r x, xs = r ++ [x] := ⟨xs.dropLast, xs.getLast xne, (List.dropLast_concat_getLast xne).symm⟩
        rw [List.reverse_append, List.reverse_singleton, List.singleton_append] at pr
        cases pr with
        | @cons z _ st' _ iz pr =>
          obtain ⟨nd, d, b⟩ := z
          obtain ⟨t, v, rfl, ht, dp, un⟩ := iz
          have ht : SqT K H3 t [v, .int (d : Int), .bl b] := ht
          have dp : Dp K H v nd := dp
          have un : Uni nd := un
          refine ⟨fun σ' H' => ∃ m', m' < k ∧ (∃ (pl : Int) (st : List Wt) (xs : List V) (z4 z5 z6 z7 : Option V), σ' = [some (.str m), some v0, some (.ref wl), some (.int pl), z4, z5, z6, z7, none, none] ∧ pl = 16 - (m' : Int) ∧ m' ≤ 16 ∧ Same H H' ∧ H' wl = some (.lst xs) ∧ Paired (ItB K H H') st xs.reverse ∧ goW m m' st = goW m 16 [(d0, 1, true)] ∧ xs.length ≤ 1000 - 3 * m'), fun _ _ h => h, ?_⟩
          repeat walk_at "rd"
          refine ⟨Rd.ty_list hw, ?_⟩
          refine ⟨wl, _, .ref t, rfl, rfl, hw, by simp, ?_⟩
          rw [List.dropLast_concat]
          have k4 : Keep wl H3 (upd H3 wl (.lst r)) := Keep.put (fun _ _ _ e => e)
          have ht4 := sqT_keep k4 (nt_lst hw) ht
          have hw4 : upd H3 wl (.lst r) wl = some (.lst r) := upd_same
          have s4 : Same H (upd H3 wl (.lst r)) := Rd.sMut s3 nw
          have pr4 := Rd.pair_imp (fun z x h => ItB.keep k4 (nt_lst hw) h) pr
          rw [List.length_append] at xl
          generalize upd H3 wl (.lst r) = H4 at ht4 hw4 s4 pr4 ⊢
          refine ⟨t, _, rfl, ht4, rfl, ?_⟩
          have stop : ∀ H', Same H H' → (k = 0 ∨ ¬ (d ≤ 6 ∧ nodeD m b nd = true)) → Q (.int pl) H' := fun H' s' h => by
            have := q H' s'
            rw [← eq] at this
            have e1 : pl = ((16 - k : Nat) : Int) := by omega
            rw [e1]
            cases k with
            | zero => exact this
            | succ k =>
              rw [goW, if_neg (h.resolve_left (by omega))] at this
              exact this
          repeat walk_at "rd"
          refine Rd.dec (fun c => ?_) (fun ck => ?_)
          · have := V.int.inj c
            repeat walk_at "rd"
            exact stop _ s4 (.inl (by omega))
          have kp : 0 < k := by
            have : pl ≠ 16 := fun e => ck (by rw [e])
            omega
          obtain ⟨k, rfl⟩ : ∃ j, k = j + 1 := ⟨k - 1, by omega⟩
          repeat walk_at "rd"
          refine Rd.dec (fun c => ?_) (fun cd => ?_)
          · repeat walk_at "rd"
            exact stop _ s4 (.inr fun h => by omega)
          repeat walk_at "rd"
          refine ⟨v, m, nd, b, rfl, dp_mono s4 dp, un, hm, fun H5 s5 => ?_⟩
          refine ⟨_, rfl, ?_⟩
          refine Rd.bool (fun c => ?_) (fun c => ?_)
          · repeat walk_at "rd"
            exact stop _ (s4.trans s5) (.inr fun h => by rw [h.2] at c; cases c)
          have nok : nodeD m b nd = true := by
            cases e : nodeD m b nd with
            | true => rfl
            | false => rw [e] at c; cases c
          rw [goW, if_pos ⟨by show d ≤ 6; omega, nok⟩] at eq
          obtain ⟨z, ds, rfl, hn1, hn3, kt, l3⟩ := node_ok nok
          have dp5 := dp_mono (s4.trans s5) dp
          obtain ⟨pn, xs5, rfl, hs5, ha5⟩ := dpT dp
          obtain ⟨x5, xs5, rfl, hx5, hb5⟩ := dpC ha5
          obtain rfl := dpS hx5
          have zU : PyData.strOk z = true := (un.mem List.mem_cons_self).ok
          have len5 := dpa_len hb5
          have hs5' := sqT_same (s4.trans s5) hs5
          repeat walk_at "rd"
          refine zipD ?_
          repeat walk_at "rd"
          refine ⟨pn, z, xs5, rfl, hs5', zU, fun pa H6 s6 ha6 => ?_⟩
          repeat walk_at "rd"
          refine ⟨pn, z, xs5, b, rfl, sqT_same s6 hs5', zU, fun e => by rw [len5]; exact hn1 e, fun pb H7 s7 hb7 => ?_⟩
          repeat walk_at "rd"
          have hdk : DpAll K H (if z ∈ partW then xs5 else []) (if z ∈ partW then ds else []) := by
            split
            · exact hb5
            · exact .nil
          have huk : ∀ x ∈ (if z ∈ partW then ds else []), Uni x := by
            intro x hx
            split at hx
            · exact un.mem (List.mem_cons_of_mem _ hx)
            · cases hx
          refine ⟨pa, pb, (if z ∈ partW then xs5 else []), _, rfl, .inr ⟨sqT_same s7 ha6, hb7, zipK (i := 8) (j := 9) (d := d) (ds := if z ∈ partW then ds else []) (ts := tailsW z b) (sqT_same s7 ha6) hdk huk hb7 kt l3 (fun _ _ => rfl) (fun x c H8 R s8 k => ?_) fun Dl ys H8 hD s8 hd8 pr8 => ?_⟩⟩
          · repeat walk_at "rd"
            exact ⟨Rd.sz (by simp), fun p hp => k p hp⟩
          · have S48 := ((s5.trans s6).trans s7).trans s8
            have hw8 := S48 _ _ hw4
            repeat walk_at "rd"
            refine ⟨Rd.ty_list hw8, ?_⟩
            repeat walk_at "rd"
            refine revL ?_
            repeat walk_at "rd"
            refine ⟨Dl, ys, rfl, SqL.of hd8, fun p hp => ?_⟩
            have s9 := Rd.sNew (o := .lst ys.reverse) hp
            have hw9 := s9 _ _ hw8
            have lys := pair_len' pr8
            rw [List.length_map, List.length_zip] at lys
            rw [List.length_singleton] at xl
            have ys3 : ys.length ≤ 3 := by omega
            repeat walk_at "rd"
            refine ⟨wl, p, r, ys.reverse, rfl, rfl, hw9, upd_same, by rw [List.length_reverse]; exact Nat.le_of_lt (Rd.szl (by omega)), ?_⟩
            have kf : Keep wl H4 (upd (upd H8 p (.lst ys.reverse)) wl (.lst (r ++ ys.reverse))) := (Keep.same (S48.trans s9)).put
            have kf8 : Keep wl H8 (upd (upd H8 p (.lst ys.reverse)) wl (.lst (r ++ ys.reverse))) := (Keep.same s9).put
            repeat walk_at "rd"
            refine ⟨_, rfl, ?_⟩
            repeat walk_at "rd"
            refine ⟨_, _, rfl, rfl, ?_⟩
            refine ⟨k, Nat.lt_succ_self k, _, kidsZ (.tuple (.str z :: ds), d, b) ++ st', r ++ ys.reverse, _, _, _, _, rfl, (by show pl + 1 = 16 - (k : Int); omega), by omega, Rd.sMut (s4.trans (S48.trans s9)) nw, upd_same, ?_, eq, ?_⟩
            · rw [List.reverse_append, List.reverse_reverse]
              exact pair_cat (Rd.pair_imp (fun z x h => ItB.keep kf8 (nt_lst hw8) h) pr8) (Rd.pair_imp (fun z x h => ItB.keep kf (nt_lst hw4) h) pr4)
            · rw [List.length_append, List.length_reverse]
              omega
      · have xe : xs = [] := by cases xs with
          | nil => rfl
          | cons a l => cases c
        subst xe
        cases pr
        have := q H3 s3
        rw [← eq] at this
        repeat walk_at "rd"
        cases k <;> exact this
end
end Ab
namespace Ab
open PySem.Spec PyProof.Rows
local macro_rules | `(tactic| walk_at "rd") => `(tactic| (with_reducible first | refine Rd.tt_ ?_ | refine Rd.ff_ ?_))
/-! ### nodes of a body -/
inductive Nd where
  | word (z : Str)
  | cnt (i : Int)
  | ask1 (o r : Str)
  | ask2 (o r q : Str)
  | no (a : Nd)
  | iff (a b c : Nd)
def Nd.d : Nd → PyData
  | .word z => .tuple [.str z]
  | .cnt i => .tuple [.str "count", .int i]
  | .ask1 o r => .tuple [.str "ask", .str o, .str r]
  | .ask2 o r q => .tuple [.str "ask", .str o, .str r, .str q]
  | .no a => .tuple [.str "not", a.d]
  | .iff a b c => .tuple [.str "if", a.d, b.d, c.d]
/-- the node itself is right for m -/
def Nd.top (m : Str) (tail : Bool) : Nd → Bool
  | .word z => if z = "further" then tail else if z = "decline" then tail && decide (m ∈ decliners) else decide (z ∈ answerW)
  | .cnt i => decide (0 ≤ i) && decide (i ≤ 4)
  | .ask1 o r => decide (o ∈ askOne) && decide (r ∈ rolesOf m)
  | .ask2 o r q => decide (o ∈ askTwo) && decide (r ∈ rolesOf m) && decide (q ∈ rolesOf m) && decide (r ≠ q)
  | .no _ => true
  | .iff _ _ _ => true
def headW : List Str := ["yes", "no", "raise", "further", "decline", "count", "ask", "not", "if"]
def Nd.head : Nd → Str
  | .word z => z
  | .cnt _ => "count"
  | .ask1 _ _ => "ask"
  | .ask2 _ _ _ => "ask"
  | .no _ => "not"
  | .iff _ _ _ => "if"
def Nd.kids : Nd → List Nd
  | .no a => [a]
  | .iff a b c => [a, b, c]
  | _ => []
def Nd.tails (tail : Bool) : Nd → List Bool
  | .no _ => [false]
  | .iff _ _ _ => [false, tail, tail]
  | _ => []
/-- the words of the document, none of them a part's -/
def Nd.wd : Nd → Bool
  | .word z => decide (z ∈ (["yes", "no", "raise", "further", "decline"] : List Str))
  | _ => true
theorem top_wd {m : Str} {tail : Bool} {nd : Nd} (h : nd.top m tail = true) : nd.wd = true := by
  cases nd with
  | word z =>
    have h : (if z = "further" then tail else if z = "decline" then tail && decide (m ∈ decliners) else decide (z ∈ answerW)) = true := h
    by_cases e1 : z = "further"
    · subst e1; decide +kernel
    · rw [if_neg e1] at h
      by_cases e2 : z = "decline"
      · subst e2; decide +kernel
      · rw [if_neg e2] at h
        have h := of_decide_eq_true h
        simp only [answerW, List.mem_cons, List.not_mem_nil, or_false] at h
        rcases h with rfl | rfl | rfl <;> decide +kernel
  | _ => rfl
theorem head_in {nd : Nd} (h : nd.wd = true) : nd.head ∈ headW ∧ (nd.head ∈ partW ↔ nd.kids ≠ []) := by
  cases nd with
  | word z =>
    have h := of_decide_eq_true h
    simp only [List.mem_cons, List.not_mem_nil, or_false] at h
    rcases h with rfl | rfl | rfl | rfl | rfl <;> exact ⟨by decide +kernel, ⟨fun z => absurd z (by decide +kernel), fun z => absurd rfl z⟩⟩
  | cnt i => exact ⟨by show ("count" : Str) ∈ headW; decide +kernel, ⟨fun z => absurd (show ("count" : Str) ∈ partW from z) (by decide +kernel), fun z => absurd rfl z⟩⟩
  | ask1 o r => exact ⟨by show ("ask" : Str) ∈ headW; decide +kernel, ⟨fun z => absurd (show ("ask" : Str) ∈ partW from z) (by decide +kernel), fun z => absurd rfl z⟩⟩
  | ask2 o r q => exact ⟨by show ("ask" : Str) ∈ headW; decide +kernel, ⟨fun z => absurd (show ("ask" : Str) ∈ partW from z) (by decide +kernel), fun z => absurd rfl z⟩⟩
  | no a => exact ⟨by show ("not" : Str) ∈ headW; decide +kernel, ⟨fun _ => by simp [Nd.kids], fun _ => by show ("not" : Str) ∈ partW; decide +kernel⟩⟩
  | iff a b c => exact ⟨by show ("if" : Str) ∈ headW; decide +kernel, ⟨fun _ => by simp [Nd.kids], fun _ => by show ("if" : Str) ∈ partW; decide +kernel⟩⟩
/-- a node in the heap: its tuple, the word first -/
theorem nd_at {K : PySem.W.Frag} {H : Hp} {v : V} {nd : Nd} (h : Dp K H v nd.d) : ∃ p xs ds, v = .ref p ∧ SqT K H p (.str nd.head :: xs) ∧ DpAll K H xs ds ∧ nd.d = .tuple (.str nd.head :: ds) ∧ (nd.kids ≠ [] → ds = nd.kids.map Nd.d) := by
  have go : ∀ ds, nd.d = .tuple (.str nd.head :: ds) → (nd.kids ≠ [] → ds = nd.kids.map Nd.d) → ∃ p xs ds, v = .ref p ∧ SqT K H p (.str nd.head :: xs) ∧ DpAll K H xs ds ∧ nd.d = .tuple (.str nd.head :: ds) ∧ (nd.kids ≠ [] → ds = nd.kids.map Nd.d) := by
    intro ds e k
    rw [e] at h
    obtain ⟨p, xs, rfl, hs, ha⟩ := dpT h
    obtain ⟨x, r, rfl, hx, hr⟩ := dpC ha
    rw [dpS hx] at hs
    exact ⟨p, r, ds, rfl, hs, hr, e, k⟩
  cases nd with
  | word z => exact go [] rfl fun z => absurd rfl z
  | cnt i => exact go _ rfl fun z => absurd rfl z
  | ask1 o r => exact go _ rfl fun z => absurd rfl z
  | ask2 o r q => exact go _ rfl fun z => absurd rfl z
  | no a => exact go _ rfl fun _ => rfl
  | iff a b c => exact go _ rfl fun _ => rfl
def spPartsN (K : PySem.W.Frag) : Sp := fun vs H Q _ => ∃ (v : V) (nd : Nd), vs = [v] ∧ Dp K H v nd.d ∧ nd.wd = true ∧ ∀ p xs H', Same H H' → SqT K H' p xs → DpAll K H' xs (nd.kids.map Nd.d) → Q (.ref p) H'
theorem nd_keep {K : PySem.W.Frag} {p : Addr} {H H' : Hp} (k : Keep p H H') (n : NoTup H p) : ∀ (nd : Nd) (v : V), Dp K H v nd.d → Dp K H' v nd.d
  | .word z, v, h => by
    obtain ⟨a, xs, rfl, hs, ha⟩ := dpT h
    obtain ⟨x, l, rfl, h1, h2⟩ := dpC ha
    obtain rfl := dpN h2
    obtain rfl := dpS h1
    exact .tup (sqT_keep k n hs) (.cons (.str _) .nil)
  | .cnt i, v, h => by
    obtain ⟨a, xs, rfl, hs, ha⟩ := dpT h
    obtain ⟨x, l, rfl, h1, h2⟩ := dpC ha
    obtain ⟨y, l2, rfl, h3, h4⟩ := dpC h2
    obtain rfl := dpN h4
    obtain rfl := dpS h1
    obtain rfl := dpI h3
    exact .tup (sqT_keep k n hs) (.cons (.str _) (.cons (.int _) .nil))
  | .ask1 o r, v, h => by
    obtain ⟨a, xs, rfl, hs, ha⟩ := dpT h
    obtain ⟨x, l, rfl, h1, h2⟩ := dpC ha
    obtain ⟨y, l2, rfl, h3, h4⟩ := dpC h2
    obtain ⟨y2, l3, rfl, h5, h6⟩ := dpC h4
    obtain rfl := dpN h6
    obtain rfl := dpS h1
    obtain rfl := dpS h3
    obtain rfl := dpS h5
    exact .tup (sqT_keep k n hs) (.cons (.str _) (.cons (.str _) (.cons (.str _) .nil)))
  | .ask2 o r q, v, h => by
    obtain ⟨a, xs, rfl, hs, ha⟩ := dpT h
    obtain ⟨x, l, rfl, h1, h2⟩ := dpC ha
    obtain ⟨y, l2, rfl, h3, h4⟩ := dpC h2
    obtain ⟨y2, l3, rfl, h5, h6⟩ := dpC h4
    obtain ⟨y3, l4, rfl, h7, h8⟩ := dpC h6
    obtain rfl := dpN h8
    obtain rfl := dpS h1
    obtain rfl := dpS h3
    obtain rfl := dpS h5
    obtain rfl := dpS h7
    exact .tup (sqT_keep k n hs) (.cons (.str _) (.cons (.str _) (.cons (.str _) (.cons (.str _) .nil))))
  | .no b, v, h => by
    obtain ⟨a, xs, rfl, hs, ha⟩ := dpT h
    obtain ⟨x, l, rfl, h1, h2⟩ := dpC ha
    obtain ⟨y, l2, rfl, h3, h4⟩ := dpC h2
    obtain rfl := dpN h4
    obtain rfl := dpS h1
    exact .tup (sqT_keep k n hs) (.cons (.str _) (.cons (nd_keep k n b y h3) .nil))
  | .iff b c d, v, h => by
    obtain ⟨a, xs, rfl, hs, ha⟩ := dpT h
    obtain ⟨x, l, rfl, h1, h2⟩ := dpC ha
    obtain ⟨y, l2, rfl, h3, h4⟩ := dpC h2
    obtain ⟨y2, l3, rfl, h5, h6⟩ := dpC h4
    obtain ⟨y3, l4, rfl, h7, h8⟩ := dpC h6
    obtain rfl := dpN h8
    obtain rfl := dpS h1
    exact .tup (sqT_keep k n hs) (.cons (.str _) (.cons (nd_keep k n b y h3) (.cons (nd_keep k n c y2 h5) (.cons (nd_keep k n d y3 h7) .nil))))
def Nd.size : Nd → Nat
  | .no a => a.size + 1
  | .iff a b c => a.size + b.size + c.size + 1
  | _ => 1
def Nd.dep : Nd → Nat
  | .no a => a.dep + 1
  | .iff a b c => max a.dep (max b.dep c.dep) + 1
  | _ => 1
def Nd.all (m : Str) : Bool → Nd → Bool
  | _, .no a => a.all m false
  | t, .iff a b c => a.all m false && b.all m t && c.all m t
  | t, nd => nd.top m t
theorem all_top {m : Str} {t : Bool} {nd : Nd} (h : nd.all m t = true) : nd.top m t = true := by
  cases nd with
  | no a => rfl
  | iff a b c => rfl
  | word z => exact h
  | cnt i => exact h
  | ask1 o r => exact h
  | ask2 o r q => exact h
theorem size_pos (nd : Nd) : 1 ≤ nd.size := by cases nd <;> simp [Nd.size]
theorem dep_pos (nd : Nd) : 1 ≤ nd.dep := by cases nd <;> simp [Nd.dep]
theorem FnG.imp {P : Program} {w : World} {K : PySem.W.Frag} {mg : Str → Option Value} {base : Heap} {CX : CXT} {k : Nat} {f : Addr} {fd : FuncData} {ps : List Str} {sp sp' : Sp} (F : FnG P w K mg base CX k f fd ps sp) (h : ∀ vs H Q E, sp' vs H Q E → sp vs H Q E) : FnG P w K mg base CX k f fd ps sp' :=
  ⟨fun vs H Q E z => F.len vs H Q E (h _ _ _ _ z), fun A g outer s H args us vs Q E hr e0 hb r z => F.go A g outer s H args us vs Q E hr e0 hb r (h _ _ _ _ z)⟩
theorem CalG.imp {P : Program} {w : World} {K : PySem.W.Frag} {mg : Str → Option Value} {base : Heap} {k : Nat} {x : Str} {sp sp' : Sp} (C : CalG P w K mg base k x sp) (h : ∀ vs H Q E, sp' vs H Q E → sp vs H Q E) : CalG P w K mg base k x sp' :=
  let ⟨f, fd, ps, F, a, b, c⟩ := C
  ⟨f, fd, ps, FnG.imp F h, a, b, c⟩
theorem parts_nd {K : PySem.W.Frag} : ∀ vs H Q E, spPartsN K vs H Q E → spParts K vs H Q E := by
  rintro vs H Q E ⟨v, nd, rfl, dp, wd, q⟩
  obtain ⟨p, xs, ds, rfl, hs, ha, e, kd⟩ := nd_at dp
  obtain ⟨hh, hk⟩ := head_in wd
  have hU : PyData.strOk nd.head = true := (show ∀ z ∈ headW, PyData.strOk z = true by decide +kernel) _ hh
  refine ⟨p, nd.head, xs, rfl, hs, hU, fun t H' s' ht => ?_⟩
  by_cases c : nd.head ∈ partW
  · rw [if_pos c] at ht
    exact q t xs H' s' ht (by rw [← kd (hk.mp c)]; exact dpa_mono s' ha)
  · rw [if_neg c] at ht
    have ne : nd.kids = [] := Classical.byContradiction fun z => c (hk.mpr z)
    exact q t [] H' s' ht (by rw [ne]; exact .nil)
end Ab
namespace Ab
open PySem.Spec PyProof.Rows
mutual
def noList : PyData → Bool
  | .list _ => false
  | .tuple xs => noListA xs
  | .dict _ => false
  | _ => true
def noListA : List PyData → Bool
  | [] => true
  | x :: xs => noList x && noListA xs
end
mutual
theorem dp_keepT {K : PySem.W.Frag} {p : Addr} {H H' : Hp} (k : Keep p H H') (n : NoTup H p) : ∀ {v : V} {d : PyData}, Dp K H v d → noList d = true → Dp K H' v d
  | _, _, .non, _ => .non
  | _, _, .bl b, _ => .bl b
  | _, _, .int i, _ => .int i
  | _, _, .str x, _ => .str x
  | _, _, .lst _ _, h => by cases h
  | _, _, .tup a b, h => .tup (sqT_keep k n a) (dpa_keepT k n b h)
theorem dpa_keepT {K : PySem.W.Frag} {p : Addr} {H H' : Hp} (k : Keep p H H') (n : NoTup H p) : ∀ {vs : List V} {ds : List PyData}, DpAll K H vs ds → noListA ds = true → DpAll K H' vs ds
  | _, _, .nil, _ => .nil
  | _, _, .cons a b, h => by
    have h : (noList _ && noListA _) = true := h
    rw [Bool.and_eq_true] at h
    exact .cons (dp_keepT k n a h.1) (dpa_keepT k n b h.2)
end
theorem noListA_app : ∀ a b : List PyData, noListA (a ++ b) = (noListA a && noListA b)
  | [], _ => rfl
  | x :: a, b => by
    show (noList x && noListA (a ++ b)) = ((noList x && noListA a) && noListA b)
    rw [noListA_app a b, Bool.and_assoc]
def Nd.rows : Nd → Nat → List PyData
  | .no a, i => .tuple [.str "not", .int ((i + 1 : Nat) : Int)] :: a.rows (i + 1)
  | .iff a b c, i => .tuple [.str "if", .int ((i + 1 : Nat) : Int), .int ((i + 1 + a.size : Nat) : Int), .int ((i + 1 + a.size + b.size : Nat) : Int)] :: (a.rows (i + 1) ++ (b.rows (i + 1 + a.size) ++ c.rows (i + 1 + a.size + b.size)))
  | nd, _ => [nd.d]
def numsL : Nat → List Nd → List Nat
  | _, [] => []
  | i, k :: r => i :: numsL (i + k.size) r
def rowsL : Nat → List Nd → List PyData
  | _, [] => []
  | i, k :: r => k.rows i ++ rowsL (i + k.size) r
def sumL (l : List Nd) : Nat := (l.map Nd.size).sum
def Nd.headD (nd : Nd) (i : Nat) : PyData := if nd.kids = [] then nd.d else .tuple (.str nd.head :: (numsL (i + 1) nd.kids).map fun n : Nat => PyData.int (n : Int))
theorem rows_eq (nd : Nd) (i : Nat) : nd.rows i = nd.headD i :: rowsL (i + 1) nd.kids := by
  cases nd <;> simp [Nd.rows, Nd.headD, Nd.kids, rowsL, numsL, Nd.head]
theorem rows_len : ∀ (nd : Nd) (i : Nat), (nd.rows i).length = nd.size
  | .no a, i => by simp [Nd.rows, Nd.size, rows_len a]
  | .iff a b c, i => by
    simp [Nd.rows, Nd.size, rows_len a, rows_len b, rows_len c]
    omega
  | .word _, _ => rfl
  | .cnt _, _ => rfl
  | .ask1 _ _, _ => rfl
  | .ask2 _ _ _, _ => rfl
theorem nd_noList : ∀ nd : Nd, noList nd.d = true
  | .no a => by
    show (true && (noList a.d && true)) = true
    rw [nd_noList a]; rfl
  | .iff a b c => by
    show (true && (noList a.d && (noList b.d && (noList c.d && true)))) = true
    rw [nd_noList a, nd_noList b, nd_noList c]; rfl
  | .word _ => rfl
  | .cnt _ => rfl
  | .ask1 _ _ => rfl
  | .ask2 _ _ _ => rfl
theorem rows_noList : ∀ (nd : Nd) (i : Nat), noListA (nd.rows i) = true
  | .no a, i => by
    show (true && noListA (a.rows (i + 1))) = true
    rw [rows_noList a]; rfl
  | .iff a b c, i => by
    show (true && noListA (a.rows (i + 1) ++ (b.rows (i + 1 + a.size) ++ c.rows (i + 1 + a.size + b.size)))) = true
    rw [noListA_app, noListA_app, rows_noList a, rows_noList b, rows_noList c]; rfl
  | .word _, _ => rfl
  | .cnt _, _ => rfl
  | .ask1 _ _, _ => rfl
  | .ask2 _ _ _, _ => rfl
theorem rowsL_noList : ∀ (l : List Nd) (i : Nat), noListA (rowsL i l) = true
  | [], _ => rfl
  | k :: r, i => by
    show noListA (k.rows i ++ rowsL (i + k.size) r) = true
    rw [noListA_app, rows_noList, rowsL_noList r]; rfl
theorem sumL_snoc (l : List Nd) (k : Nd) : sumL (l ++ [k]) = sumL l + k.size := by simp [sumL]
theorem rowsL_snoc : ∀ (l : List Nd) (k : Nd) (i : Nat), rowsL i (l ++ [k]) = rowsL i l ++ k.rows (i + sumL l)
  | [], k, i => by simp [rowsL, sumL]
  | a :: l, k, i => by
    show a.rows i ++ rowsL (i + a.size) (l ++ [k]) = (a.rows i ++ rowsL (i + a.size) l) ++ k.rows (i + sumL (a :: l))
    rw [rowsL_snoc l k, List.append_assoc]
    have : i + a.size + sumL l = i + sumL (a :: l) := by simp [sumL]; omega
    rw [this]
theorem numsL_snoc : ∀ (l : List Nd) (k : Nd) (i : Nat), numsL i (l ++ [k]) = numsL i l ++ [i + sumL l]
  | [], k, i => by simp [numsL, sumL]
  | a :: l, k, i => by
    show i :: numsL (i + a.size) (l ++ [k]) = i :: numsL (i + a.size) l ++ [i + sumL (a :: l)]
    rw [numsL_snoc l k]
    have : i + a.size + sumL l = i + sumL (a :: l) := by simp [sumL]; omega
    rw [this]
    rfl
theorem rowsL_len : ∀ (l : List Nd) (i : Nat), (rowsL i l).length = sumL l
  | [], _ => rfl
  | a :: l, i => by
    show (a.rows i ++ rowsL (i + a.size) l).length = sumL (a :: l)
    rw [List.length_append, rows_len, rowsL_len l]
    simp [sumL]
theorem numsL_len : ∀ (l : List Nd) (i : Nat), (numsL i l).length = l.length
  | [], _ => rfl
  | a :: l, i => by
    show (numsL (i + a.size) l).length + 1 = l.length + 1
    rw [numsL_len l]
theorem dpa_app {K : PySem.W.Frag} {H : Hp} : ∀ {xs ys : List V} {ds es : List PyData}, DpAll K H xs ds → DpAll K H ys es → DpAll K H (xs ++ ys) (ds ++ es)
  | _, _, _, _, .nil, h => h
  | _, _, _, _, .cons a b, h => .cons a (dpa_app b h)
theorem dpa_ints {K : PySem.W.Frag} {H : Hp} : ∀ l : List Nat, DpAll K H (l.map fun n : Nat => V.int (n : Int)) (l.map fun n : Nat => PyData.int (n : Int))
  | [] => .nil
  | _ :: l => .cons (.int _) (dpa_ints l)
theorem starT {K : PySem.W.Frag} {te : TE} {t : TA} {σ : L2.St} {H : Hp} {Q : List V → Hp → Prop} (k : te σ H fun x H1 => ∃ p xs, x = V.ref p ∧ (SqT K H1 p xs ∨ SqL K H1 p xs) ∧ t σ H1 fun ys H2 => Q (xs ++ ys) H2) : StX.tStar K te t σ H Q := k
theorem forT {K : PySem.W.Frag} {tl : TE} {g : TG} {tb : TS} {D : Ends} {σ : L2.St} {H : Hp} (k : tl σ H fun x H1 => tFor (iTup K (tC x)) g tb D σ H1) : tFor (iTup K tl) g tb D σ H := k
/-- right words all over -/
def Nd.wdA : Nd → Bool
  | .no a => a.wdA
  | .iff a b c => a.wdA && b.wdA && c.wdA
  | nd => nd.wd
theorem wdA_wd {nd : Nd} (h : nd.wdA = true) : nd.wd = true ∧ ∀ k ∈ nd.kids, k.wdA = true := by
  cases nd with
  | no a => exact ⟨rfl, fun k hk => by rw [List.mem_singleton.mp hk]; exact h⟩
  | iff a b c =>
    have h : (a.wdA && b.wdA && c.wdA) = true := h
    rw [Bool.and_eq_true, Bool.and_eq_true] at h
    refine ⟨rfl, fun k hk => ?_⟩
    have hk : k ∈ [a, b, c] := hk
    simp only [List.mem_cons, List.not_mem_nil, or_false] at hk
    rcases hk with rfl | rfl | rfl
    · exact h.1.1
    · exact h.1.2
    · exact h.2
  | word z => exact ⟨h, fun k hk => by cases hk⟩
  | cnt i => exact ⟨rfl, fun k hk => by cases hk⟩
  | ask1 o r => exact ⟨rfl, fun k hk => by cases hk⟩
  | ask2 o r q => exact ⟨rfl, fun k hk => by cases hk⟩
theorem kid_dep {nd k : Nd} (h : k ∈ nd.kids) : k.dep + 1 ≤ nd.dep ∧ sumL nd.kids + 1 = nd.size := by
  cases nd with
  | no a => rw [List.mem_singleton.mp h]; exact ⟨Nat.le_refl _, by simp [sumL, Nd.kids, Nd.size]⟩
  | iff a b c =>
    have hk : k ∈ [a, b, c] := h
    simp only [List.mem_cons, List.not_mem_nil, or_false] at hk
    refine ⟨?_, by simp [sumL, Nd.kids, Nd.size]; omega⟩
    rcases hk with rfl | rfl | rfl <;> simp [Nd.dep] <;> omega
  | word z => cases h
  | cnt i => cases h
  | ask1 o r => cases h
  | ask2 o r q => cases h
end Ab
namespace Ab
open PySem.Spec PyProof.Rows
theorem sumL_app (a b : List Nd) : sumL (a ++ b) = sumL a + sumL b := by simp [sumL]
section
variable {P : Program} {w : World} {K : PySem.W.Frag} {mg : Str → Option Value} {base : Heap}
abbrev sNumbered : Stmt := top 55
abbrev nNumbered : List Str := ["node", "number", "rows", "numbers", "part", "at", "head"]
theorem scNumbered : FnScope nNumbered ["node", "number"] (defScope sNumbered) := ⟨rfl, rfl, rfl, by decide +kernel, rfl, by decide +kernel, by decide +kernel⟩
def spNumb (K : PySem.W.Frag) (n : Nat) : Sp := fun vs H Q _ => ∃ (v : V) (nd : Nd) (i : Nat), vs = [v, .int (i : Int)] ∧ Dp K H v nd.d ∧ nd.wdA = true ∧ nd.dep ≤ n ∧ nd.size ≤ 16 ∧
  ∀ L ys H', Same H H' → H L = none → H' L = some (.lst ys) → DpAll K H' ys (nd.rows i) → Q (.ref L) H'
theorem ok_numb (T : Txt K mg) (D : DefAt K mg "_numbered" sNumbered ["node", "number"]) (CParts : CalG P w K mg base 1 "_parts" (spPartsN K)) : ∀ n, CalG P w K mg base (n + 2) "_numbered" (spNumb K n)
  | 0 => D.by scNumbered (fun vs H Q E h => by obtain ⟨_, _, _, rfl, _⟩ := h; rfl) (fun f cd A hg outer s H vs Q E hr h => by
    obtain ⟨_, nd, _, _, _, _, h, _⟩ := h
    have := dep_pos nd
    omega)
  | n + 1 => by
    have CNumbered := ok_numb T D CParts n
    refine D.by scNumbered (fun vs H Q E h => ?_) (fun f cd A hg outer s H vs Q E hr h => ?_)
    · obtain ⟨_, _, _, rfl, _⟩ := h
      rfl
    · obtain ⟨v, nd, i, rfl, dp, wda, hdep, hsz, q⟩ := h
      obtain ⟨wd, wdk⟩ := wdA_wd wda
      refine ⟨_, (pss_cons (ps_set (i := 2) scNumbered.nd rfl (Or.inl rfl) (pe_lst pa_nil))
  (pss_cons (ps_set (i := 3) scNumbered.nd rfl (Or.inl rfl) (pe_lst pa_nil))
  (pss_cons (ps_for (wi := iTup K _) PassesOwn.never rfl (pi_tup (pe_cG CParts hg hr (by omega) (pa_cons (pv 0) pa_nil))) (pg_name (i := 4) scNumbered.nd rfl (Or.inl rfl))
  (pss_cons (ps_set (i := 5) scNumbered.nd rfl (Or.inl rfl) (pe_op op_add (pe_op op_add (pv 1) pe_int) (pe_callB (r := Rd.rLenK K) Rd.callLen (by rfl) T.len PySem.boot_len (pa_cons (pv 2) pa_nil))))
  (pss_cons (ps_expr (pe_bm PySem.F.plainAttrs_list PySem.F.slot_list_append PySem.F.type_list_append mt_append (pv 3) (pa_cons (pv 5) pa_nil)))
  (pss_one (ps_expr (pe_bm PySem.F.plainAttrs_list PySem.F.slot_list_extend PySem.F.type_list_extend mt_extend (pv 2) (pa_cons (pe_cG CNumbered hg hr (by omega) (pa_cons (pv 4) (pa_cons (pv 5) pa_nil))) pa_nil)))))))
  (pss_cons (ps_set (i := 6) scNumbered.nd rfl (Or.inl rfl) (pe_ifExp (Rd.ptTru (K := K) rfl (pt_truth (pv 3) (by intro _; rfl))) (pe_tup (pa_cons (pe_ix (r := rIxT K) ix_tup (pv 0) pe_int (fun _ _ => rfl)) (StX.pa_star (pv 3) pa_nil))) (pv 0)))
  (pss_one (ps_ret (pe_lst (pa_cons (pv 6) (StX.pa_star (pv 2) pa_nil))))))))), ?_⟩
      repeat walk_at "rd"
      refine ⟨Rd.sz (by simp), fun R hR => ?_⟩
      have s1 := Rd.sNew (o := .lst []) hR
      have r1 : upd H R (.lst []) R = some (.lst []) := upd_same
      generalize upd H R (.lst []) = H1 at s1 r1 ⊢
      repeat walk_at "rd"
      refine ⟨Rd.sz (by simp), fun N hN => ?_⟩
      have s2 := Rd.sNew (o := .lst []) hN
      have n2 : upd H1 N (.lst []) N = some (.lst []) := upd_same
      have r2 := s2 _ _ r1
      have RN : R ≠ N := fun e => by rw [← e, r1] at hN; cases hN
      have nN : H N = none := by
        cases z : H N with
        | none => rfl
        | some u => rw [s1 _ _ z] at hN; cases hN
      have s12 := s1.trans s2
      generalize upd H1 N (.lst []) = H2 at s2 n2 r2 s12 ⊢
      repeat walk_at "rd"
      refine forT ?_
      repeat walk_at "rd"
      refine ⟨v, nd, rfl, dp_mono s12 dp, wd, fun pa xs H3 s3 ha hd => ?_⟩
      have lk := dpa_len hd
      rw [List.length_map] at lk
      refine ⟨pa, rfl, ⟨_, ha⟩, ?_⟩
      refine for_tup (K := K) (a := pa) (xs := xs) (fun j σ H' => ∃ z4 z5 ys, σ = [some v, some (.int (i : Int)), some (.ref R), some (.ref N), z4, z5, none] ∧ Same H H' ∧ SqT K H' pa xs ∧ DpAll K H' xs (nd.kids.map Nd.d) ∧ H' R = some (.lst ys) ∧
        DpAll K H' ys (rowsL (i + 1) (nd.kids.take j)) ∧ H' N = some (.lst ((numsL (i + 1) (nd.kids.take j)).map fun n : Nat => V.int (n : Int)))) ⟨_, _, [], rfl, s12.trans s3, ha, hd, s3 _ _ r2, .nil, s3 _ _ n2⟩ ?_ ?_ ?_
      · rintro j σ H' _ ⟨_, _, _, _, _, h, _⟩
        exact h
      · rintro j x σ H4 hx ⟨z4, z5, ys, rfl, s4, ha4, hd4, r4, dr4, n4⟩
        have hj : j < nd.kids.length := by
          have := (List.getElem?_eq_some_iff.mp hx).1
          omega
        have dk : Dp K H4 x (nd.kids[j]).d := dpa_get hd4 hx (by rw [List.getElem?_map, List.getElem?_eq_getElem hj]; rfl)
        have km : nd.kids[j] ∈ nd.kids := List.getElem_mem hj
        have ylen := dpa_len dr4
        rw [rowsL_len] at ylen
        have tk : nd.kids.take (j + 1) = nd.kids.take j ++ [nd.kids[j]] := by rw [List.take_add_one, List.getElem?_eq_getElem hj]; rfl
        obtain ⟨kdep, ksum⟩ := kid_dep km
        have kw := wdk _ km
        have tot : sumL (nd.kids.take j) + (nd.kids[j]).size ≤ sumL nd.kids := by
          have : sumL nd.kids = sumL (nd.kids.take (j + 1)) + sumL (nd.kids.drop (j + 1)) := by
            rw [← sumL_app, List.take_append_drop]
          rw [tk, sumL_snoc] at this
          omega
        generalize nd.kids[j] = k at dk km tk kdep kw tot
        have nlen : (numsL (i + 1) (nd.kids.take j)).length ≤ 100 := by
          rw [numsL_len, List.length_take]
          have : nd.kids.length ≤ 3 := by cases nd <;> simp [Nd.kids]
          omega
        repeat walk_at "rd"
        have at_ : (i : Int) + 1 + (ys.length : Int) = ((i + 1 + sumL (nd.kids.take j) : Nat) : Int) := by rw [ylen]; omega
        rw [at_]
        refine ⟨Rd.ty_list n4, ?_⟩
        repeat walk_at "rd"
        refine Rd.app n4 (by rw [List.length_map]; exact Rd.szl (by omega)) ?_
        have k5 : Keep N H4 (upd H4 N (.lst ((numsL (i + 1) (nd.kids.take j)).map (fun n : Nat => V.int (n : Int)) ++ [.int ((i + 1 + sumL (nd.kids.take j) : Nat) : Int)]))) := Keep.put (fun _ _ _ e => e)
        have nt4 := nt_lst n4
        have n5 : upd H4 N (.lst ((numsL (i + 1) (nd.kids.take j)).map (fun n : Nat => V.int (n : Int)) ++ [.int ((i + 1 + sumL (nd.kids.take j) : Nat) : Int)])) N = some (.lst ((numsL (i + 1) (nd.kids.take (j + 1))).map fun n : Nat => V.int (n : Int))) := by
          rw [upd_same, tk, numsL_snoc, List.map_append]
          rfl
        have r5 := k5 _ _ RN r4
        have s5 : Same H (upd H4 N (.lst ((numsL (i + 1) (nd.kids.take j)).map (fun n : Nat => V.int (n : Int)) ++ [.int ((i + 1 + sumL (nd.kids.take j) : Nat) : Int)]))) := Rd.sMut s4 nN
        have ha5 := sqT_keep k5 nt4 ha4
        have kidsNL : noListA (nd.kids.map Nd.d) = true := by
          generalize nd.kids = l
          induction l with
          | nil => rfl
          | cons a l ih =>
            show (noList a.d && noListA (l.map Nd.d)) = true
            rw [nd_noList, ih]; rfl
        have hd5 := dpa_keepT k5 nt4 hd4 kidsNL
        have dr5 := dpa_keepT k5 nt4 dr4 (rowsL_noList _ _)
        have dk5 := dp_keepT k5 nt4 dk (nd_noList _)
        generalize upd H4 N (.lst ((numsL (i + 1) (nd.kids.take j)).map (fun n : Nat => V.int (n : Int)) ++ [.int ((i + 1 + sumL (nd.kids.take j) : Nat) : Int)])) = H5 at k5 n5 r5 s5 ha5 hd5 dr5 dk5 ⊢
        repeat walk_at "rd"
        refine ⟨Rd.ty_list r5, ?_⟩
        repeat walk_at "rd"
        refine ⟨x, k, i + 1 + sumL (nd.kids.take j), rfl, dk5, kw, by omega, by omega, fun L zs H6 s6 _ hL dz => ?_⟩
        have r6 := s6 _ _ r5
        have zl := dpa_len dz
        rw [rows_len] at zl
        repeat walk_at "rd"
        refine ⟨R, L, ys, zs, rfl, rfl, r6, hL, Nat.le_of_lt (Rd.szl (by omega)), ?_⟩
        have k7 : Keep R H6 (upd H6 R (.lst (ys ++ zs))) := Keep.put (fun _ _ _ e => e)
        have nt6 := nt_lst r6
        repeat walk_at "rd"
        refine ⟨_, _, ys ++ zs, rfl, Rd.sMut (s5.trans s6) hR, sqT_keep k7 nt6 (sqT_same s6 ha5), dpa_keepT k7 nt6 (dpa_mono s6 hd5) kidsNL, upd_same, ?_, k7 _ _ (fun e => RN e.symm) (s6 _ _ n5)⟩
        rw [tk, rowsL_snoc]
        refine dpa_app (dpa_keepT k7 nt6 (dpa_mono s6 dr5) (rowsL_noList _ _)) (dpa_keepT k7 nt6 dz (rows_noList _ _))
      · rintro σ H4 ⟨z4, z5, ys, rfl, s4, ha4, hd4, r4, dr4, n4⟩
        rw [lk, List.take_length] at dr4 n4
        have dp4 := dp_mono s4 dp
        obtain ⟨p, hx, ds, rfl, hs, hh, he, hk⟩ := nd_at dp4
        have ylen := dpa_len dr4
        rw [rowsL_len] at ylen
        have fin : ∀ (hv : V) H5, Same H4 H5 → Dp K H5 hv (nd.headD i) → ∀ L, H5 L = none → Q (.ref L) (upd H5 L (.lst (hv :: (ys ++ [])))) := fun hv H5 s5 dh L hL => by
          rw [List.append_nil]
          have s6 := Rd.sNew (o := .lst (hv :: ys)) hL
          refine q L _ _ ((s4.trans s5).trans s6) ?_ upd_same ?_
          · cases z : H L with
            | none => rfl
            | some u => rw [s5 _ _ (s4 _ _ z)] at hL; cases hL
          · rw [rows_eq]
            exact .cons (dp_mono s6 dh) (dpa_mono (s5.trans s6) dr4)
        repeat walk_at "rd"
        refine Rd.bool (fun c => ?_) (fun c => ?_)
        · have ne : nd.kids ≠ [] := fun e => by rw [e] at c; cases c
          repeat walk_at "rd"
          refine Rd.ixT hs (Rd.atN (by decide) rfl) ?_
          refine starT ?_
          repeat walk_at "rd"
          refine ⟨N, _, rfl, .inr (SqL.of n4), ?_⟩
          have nlen : (numsL (i + 1) nd.kids).length ≤ 100 := by
            rw [numsL_len]
            have : nd.kids.length ≤ 3 := by cases nd <;> simp [Nd.kids]
            omega
          repeat walk_at "rd"
          rw [List.append_nil]
          refine ⟨Rd.sz (by rw [List.length_cons, List.length_map]; omega), fun t ht => ?_⟩
          have s5 := Rd.sNew (o := .tup (.str nd.head :: (numsL (i + 1) nd.kids).map fun n : Nat => V.int (n : Int))) ht
          have dh : Dp K (upd H4 t (.tup (.str nd.head :: (numsL (i + 1) nd.kids).map fun n : Nat => V.int (n : Int)))) (.ref t) (nd.headD i) := by
            rw [Nd.headD, if_neg ne]
            exact .tup (.inl (.inl upd_same)) (.cons (.str _) (dpa_ints _))
          generalize upd H4 t (.tup (.str nd.head :: (numsL (i + 1) nd.kids).map fun n : Nat => V.int (n : Int))) = H5 at s5 dh ⊢
          repeat walk_at "rd"
          refine starT ?_
          repeat walk_at "rd"
          refine ⟨R, ys, rfl, .inr (SqL.of (s5 _ _ r4)), ?_⟩
          repeat walk_at "rd"
          refine ⟨Rd.sz ?_, fun L hL => fin _ H5 s5 dh L hL⟩
          obtain ⟨_, ks⟩ := kid_dep (List.head_mem ne)
          rw [List.length_cons, List.length_append]
          simp only [List.length_nil]
          omega
        · have ne : nd.kids = [] := by
            cases z : nd.kids with
            | nil => rfl
            | cons a l => rw [z] at c; cases c
          have dh : Dp K H4 (.ref p) (nd.headD i) := by
            rw [Nd.headD, if_pos ne]
            exact dp4
          repeat walk_at "rd"
          refine starT ?_
          repeat walk_at "rd"
          refine ⟨R, ys, rfl, .inr (SqL.of r4), ?_⟩
          repeat walk_at "rd"
          refine ⟨Rd.sz ?_, fun L hL => fin _ H4 (Same.refl _) dh L hL⟩
          rw [ne] at ylen
          have : sumL [] = 0 := rfl
          rw [List.length_cons, List.length_append]
          simp only [List.length_nil]
          omega
end
end Ab
namespace Ab
open PySem.Spec PyProof.Rows
/-! ### the same, by recursion -/
def foldW (g : PyData → Bool → Nat → Option Nat × Nat) : List (PyData × Bool) → Nat → Option Nat × Nat
  | [], k => (none, k)
  | p :: r, k => match g p.1 p.2 k with
    | (some n, k') => (some n, k')
    | (none, k') => foldW g r k'
/-- f levels are left, k numbers -/
def wrF (m : Str) : Nat → PyData → Bool → Nat → Option Nat × Nat
  | 0, _, _, k => (some (16 - k), k)
  | f + 1, d, t, k => if k = 0 ∨ nodeD m t d = false then (some (16 - k), k) else foldW (wrF m f) ((kidsD d).zip (tailsD t d)) (k - 1)
def onW (m : Str) (st : List Wt) : Option Nat × Nat → Option Nat
  | (some n, _) => some n
  | (none, k) => goW m k st
theorem goW_wr (m : Str) : ∀ (f : Nat), f ≤ 6 → ∀ (d : PyData) (t : Bool) (k : Nat) (st : List Wt), goW m k ((d, 7 - f, t) :: st) = onW m st (wrF m f d t k)
  | 0, _, d, t, k, st => by
    cases k with
    | zero => rfl
    | succ k =>
      rw [goW, if_neg (fun h => absurd h.1 (by show ¬ (7 ≤ 6); decide))]
      rfl
  | f + 1, hf, d, t, k, st => by
    have ih := goW_wr m f (by omega)
    have fold : ∀ (l : List (PyData × Bool)) (k : Nat) (st : List Wt), goW m k (l.map (fun p => ((p.1, 7 - f, p.2) : Wt)) ++ st) = onW m st (foldW (wrF m f) l k) := by
      intro l
      induction l with
      | nil => intro k st; rfl
      | cons p r ihl =>
        intro k st
        rw [List.map_cons, List.cons_append, ih, foldW]
        cases e : wrF m f p.1 p.2 k with
        | mk a k' =>
          cases a with
          | none =>
            show goW m k' _ = _
            rw [ihl]
          | some n => rfl
    rw [wrF]
    cases k with
    | zero => rw [if_pos (.inl rfl)]; rfl
    | succ k =>
      rw [goW]
      by_cases h : nodeD m t d = true
      · rw [if_pos ⟨by show 7 - (f + 1) ≤ 6; omega, h⟩, if_neg (fun z => z.elim (fun e => absurd e (Nat.succ_ne_zero k)) (fun e => by rw [h] at e; cases e))]
        have e : kidsZ (d, 7 - (f + 1), t) = ((kidsD d).zip (tailsD t d)).map (fun p => ((p.1, 7 - f, p.2) : Wt)) := by
          unfold kidsZ
          have : 7 - (f + 1) + 1 = 7 - f := by omega
          show ((kidsD d).zip (tailsD t d)).map (fun p => ((p.1, 7 - (f + 1) + 1, p.2) : Wt)) = _
          rw [this]
        rw [e]
        exact fold _ _ _
      · have h' : nodeD m t d = false := by cases z : nodeD m t d with
          | true => exact absurd z h
          | false => rfl
        rw [if_neg (fun z => h z.2), if_pos (.inr h')]
        rfl
theorem goW_top (m : Str) (d : PyData) : goW m 16 [(d, 1, true)] = (wrF m 6 d true 16).1 := by
  have h := goW_wr m 6 (Nat.le_refl _) d true 16 []
  rw [show ((d, 7 - 6, true) : Wt) = (d, 1, true) from rfl] at h
  rw [h]
  cases e : wrF m 6 d true 16 with
  | mk a k =>
    cases a with
    | none => show goW m k [] = none; cases k <;> rfl
    | some n => rfl
theorem inD_str {ws : List Str} {d : PyData} (h : inD ws d = true) : ∃ z, d = .str z ∧ z ∈ ws := by
  cases d with
  | str z => exact ⟨z, rfl, of_decide_eq_true h⟩
  | _ => cases h
theorem roleD_str {m : Str} {d : PyData} (h : roleD m d = true) : ∃ z, d = .str z ∧ z ∈ rolesOf m := by
  cases d with
  | str z => exact ⟨z, rfl, of_decide_eq_true h⟩
  | _ => cases h
/-- what has no wrong node is a right body -/
theorem wr_nd (m : Str) : ∀ (f : Nat) (d : PyData) (t : Bool) (k k' : Nat), wrF m f d t k = (none, k') → ∃ nd : Nd, d = nd.d ∧ nd.all m t = true ∧ nd.dep ≤ f ∧ nd.size + k' = k
  | 0, d, t, k, k', h => by rw [wrF] at h; cases h
  | f + 1, d, t, k, k', h => by
    have ih := wr_nd m f
    rw [wrF] at h
    by_cases c : k = 0 ∨ nodeD m t d = false
    · rw [if_pos c] at h; cases h
    · rw [if_neg c] at h
      have k0 : k ≠ 0 := fun e => c (.inl e)
      have nt : nodeD m t d = true := by
        cases z : nodeD m t d with
        | true => rfl
        | false => exact absurd (.inr z) c
      match d, nt, h with
      | .tuple (.str w :: ds), nt, h =>
        have nt : wordD m w ds t = true := nt
        have h : foldW (wrF m f) ((if w ∈ partW then ds else []).zip (tailsW w t)) (k - 1) = (none, k') := h
        by_cases wn : w = "not"
        · subst wn
          rw [wordD, if_pos rfl] at nt
          rw [if_pos (by decide +kernel), tailsW, if_neg (by decide +kernel), if_pos rfl] at h
          match ds, nt, h with
          | [c], _, h =>
            have h : (match wrF m f c false (k - 1) with | (some n, k') => (some n, k') | (none, k') => (none, k')) = ((none : Option Nat), k') := h
            cases e : wrF m f c false (k - 1) with
            | mk a k2 =>
              rw [e] at h
              cases a with
              | some n => cases h
              | none =>
                cases h
                obtain ⟨nd, rfl, h1, h2, h3⟩ := ih _ _ _ _ e
                exact ⟨.no nd, rfl, h1, by show nd.dep + 1 ≤ f + 1; omega, by show nd.size + 1 + k' = k; omega⟩
          | [], nt, _ => exact absurd nt (by decide)
          | _ :: _ :: _, nt, _ => exact absurd nt (by simp)
        · by_cases wi : w = "if"
          · subst wi
            rw [wordD, if_neg (by decide +kernel), if_pos rfl] at nt
            rw [if_pos (by decide +kernel), tailsW, if_pos rfl] at h
            match ds, nt, h with
            | [c1, c2, c3], _, h =>
              have h : foldW (wrF m f) [(c1, false), (c2, t), (c3, t)] (k - 1) = (none, k') := h
              rw [foldW] at h
              cases e1 : wrF m f c1 false (k - 1) with
              | mk a k2 =>
                rw [e1] at h
                cases a with
                | some n => cases h
                | none =>
                  have h : foldW (wrF m f) [(c2, t), (c3, t)] k2 = (none, k') := h
                  rw [foldW] at h
                  cases e2 : wrF m f c2 t k2 with
                  | mk a k3 =>
                    rw [e2] at h
                    cases a with
                    | some n => cases h
                    | none =>
                      have h : foldW (wrF m f) [(c3, t)] k3 = (none, k') := h
                      rw [foldW] at h
                      cases e3 : wrF m f c3 t k3 with
                      | mk a k4 =>
                        rw [e3] at h
                        cases a with
                        | some n => cases h
                        | none =>
                          have h : ((none : Option Nat), k4) = (none, k') := h
                          cases h
                          obtain ⟨n1, rfl, a1, a2, a3⟩ := ih _ _ _ _ e1
                          obtain ⟨n2, rfl, b1, b2, b3⟩ := ih _ _ _ _ e2
                          obtain ⟨n3, rfl, d1, d2, d3⟩ := ih _ _ _ _ e3
                          refine ⟨.iff n1 n2 n3, rfl, ?_, ?_, ?_⟩
                          · show (n1.all m false && n2.all m t && n3.all m t) = true
                            rw [a1, b1, d1]; rfl
                          · show max n1.dep (max n2.dep n3.dep) + 1 ≤ f + 1; omega
                          · show n1.size + n2.size + n3.size + 1 + k' = k; omega
            | [], nt, _ => exact absurd nt (by decide)
            | [_], nt, _ => exact absurd nt (by simp)
            | [_, _], nt, _ => exact absurd nt (by simp)
            | _ :: _ :: _ :: _ :: _, nt, _ => exact absurd nt (by simp)
          · rw [wordD, if_neg wn, if_neg wi] at nt
            rw [if_neg (show w ∉ partW by simp only [partW, List.mem_cons, List.not_mem_nil, or_false, not_or]; exact ⟨wn, wi⟩), List.zip_nil_left, foldW] at h
            have h : k - 1 = k' := by cases h; rfl
            by_cases wc : w = "count"
            · subst wc
              rw [if_pos rfl] at nt
              match ds, nt with
              | [c], nt =>
                cases c with
                | int i => exact ⟨.cnt i, rfl, nt, by show 1 ≤ f + 1; omega, by show 1 + k' = k; omega⟩
                | _ => cases nt
              | [], nt => cases nt
              | _ :: _ :: _, nt => cases nt
            · rw [if_neg wc] at nt
              by_cases wa : w = "ask"
              · subst wa
                rw [if_pos rfl] at nt
                match ds, nt with
                | [o, r], nt =>
                  have nt : (inD askOne o && roleD m r) = true := nt
                  rw [Bool.and_eq_true] at nt
                  obtain ⟨o, rfl, ho⟩ := inD_str nt.1
                  obtain ⟨r, rfl, hr⟩ := roleD_str nt.2
                  refine ⟨.ask1 o r, rfl, ?_, by show 1 ≤ f + 1; omega, by show 1 + k' = k; omega⟩
                  show (decide (o ∈ askOne) && decide (r ∈ rolesOf m)) = true
                  rw [decide_eq_true ho, decide_eq_true hr]; rfl
                | [o, r, q], nt =>
                  have nt : (inD askTwo o && roleD m r && roleD m q && !(PyData.eqv r q)) = true := nt
                  simp only [Bool.and_eq_true] at nt
                  obtain ⟨o, rfl, ho⟩ := inD_str nt.1.1.1
                  obtain ⟨r, rfl, hr⟩ := roleD_str nt.1.1.2
                  obtain ⟨q, rfl, hq⟩ := roleD_str nt.1.2
                  have ne := nt.2
                  rw [eqv_str] at ne
                  have ne : r ≠ q := by simpa using ne
                  refine ⟨.ask2 o r q, rfl, ?_, by show 1 ≤ f + 1; omega, by show 1 + k' = k; omega⟩
                  show (decide (o ∈ askTwo) && decide (r ∈ rolesOf m) && decide (q ∈ rolesOf m) && decide (r ≠ q)) = true
                  rw [decide_eq_true ho, decide_eq_true hr, decide_eq_true hq, decide_eq_true ne]; rfl
                | [], nt => cases nt
                | [_], nt => cases nt
                | _ :: _ :: _ :: _ :: _, nt => cases nt
              · rw [if_neg wa, Bool.and_eq_true] at nt
                match ds, nt with
                | [], nt => exact ⟨.word w, rfl, nt.2, by show 1 ≤ f + 1; omega, by show 1 + k' = k; omega⟩
                | _ :: _, nt => exact absurd nt.1 (by simp)
theorem goW_none {m : Str} {d : PyData} (h : goW m 16 [(d, 1, true)] = none) : ∃ nd : Nd, d = nd.d ∧ nd.all m true = true ∧ nd.dep ≤ 6 ∧ nd.size ≤ 16 := by
  rw [goW_top] at h
  cases e : wrF m 6 d true 16 with
  | mk a k =>
    rw [e] at h
    cases (show a = none from h)
    obtain ⟨nd, h1, h2, h3, h4⟩ := wr_nd m 6 d true 16 k e
    exact ⟨nd, h1, h2, h3, by omega⟩
end Ab
namespace Rd
open PySem.Spec PyProof.Rows
section
variable {K : PySem.W.Frag} {σ : L2.St} {H : Hp} {Q : VK} {D : Ends} {n : Nat} {a C dx : Addr} {fs : List (Str × V)} {f : Str} {v : V} {ta tb tv td ty : TE} {t : TA} {sp : Sp} {E : XK}
theorem fldV (h : σ[n]? = some (some (.ref a))) (e : H a = some (.ins C dx fs)) (c : L2.Cls K C) (na : NoAttr K C f) (l : fs.lookup f = some v) (k : Q v H) : tFld K (tVar n) f σ H Q := ⟨.ref a, h, a, C, dx, fs, v, rfl, e, c, na, l, k⟩
theorem sfld (k : tv σ H fun y H1 => ta σ H1 fun x H2 => ∃ a C dx fs, x = .ref a ∧ H2 a = some (.ins C dx fs) ∧ L2.Cls K C ∧ NoAttr K C f ∧ fs.length < 1000 ∧ D.nx σ (upd H2 a (.ins C dx (putF f y fs)))) : sFld K ta tv f D σ H := k
theorem dget (k : td σ H fun x H1 => ty σ H1 fun y H2 => ∃ a v, x = .ref a ∧ DGet H2 a y (some v) ∧ Q v H2) : tDGet td ty σ H Q := k
theorem methR {m : Str} (k : ta σ H fun x H1 => ∃ a dx fs, x = .ref a ∧ H1 a = some (.ins C dx fs) ∧ fs.lookup m = none ∧ t σ H1 fun vs H2 => sp (x :: (vs ++ [])) H2 Q E) : tMeth C m sp [] E ta t σ H Q := k
theorem propR (k : ta σ H fun x H1 => ∃ a dx fs, x = .ref a ∧ H1 a = some (.ins C dx fs) ∧ sp [.ref a] H1 Q E) : tProp C sp [] E ta σ H Q := k
theorem statR (k : ta σ H fun x H1 => x = .ref C ∧ sp [] H1 Q E) : Ob.tStat C sp E ta σ H Q := k
theorem getR (k : ta σ H fun x H1 => tb σ H1 fun y H2 => ∃ a dx fs, x = .ref a ∧ H2 a = some (.ins C dx fs) ∧ sp [.ref a, y] H2 Q E) : Ow.tGetO C sp E ta tb σ H Q := k
theorem makeR (k : t σ H fun vs H1 => ∀ x dx, H1 x = none → H1 dx = none → dx ≠ x → sp (.ref x :: (vs ++ [])) (upd (upd H1 dx (.own x)) x (.ins C dx [])) (fun v H2 => v = .non ∧ Q (.ref x) H2) E) : tMake C sp [] E t σ H Q := k
end
end Rd
namespace Ab
open PySem.Spec PyProof.Rows
local macro_rules | `(tactic| walk_at "rd") => `(tactic| (with_reducible first | refine Rd.tt_ ?_ | refine Rd.ff_ ?_ | refine Rd.sfld ?_ | refine Rd.dget ?_ | refine Rd.methR ?_ | refine Rd.propR ?_ | refine Rd.getR ?_))
structure BdF (K : PySem.W.Frag) (mg : Str → Option Value) (C : Addr) : Prop extends Ob.CF K mg "Body" C where
  n1 : NoAttr K C "method"
  n2 : NoAttr K C "expression"
  n3 : NoAttr K C "_nodes"
/-- a body in the heap -/
structure BdA (K : PySem.W.Frag) (C : Addr) (H : Hp) (b L : Addr) (m : Str) (v : V) (nd : Nd) : Prop where
  ins : ∃ dx, H b = some (.ins C dx [("method", .str m), ("expression", v), ("_nodes", .ref L)])
  dp : Dp K H v nd.d
theorem BdA.mono {K : PySem.W.Frag} {C : Addr} {H H' : Hp} {b L : Addr} {m : Str} {v : V} {nd : Nd} (k : BdA K C H b L m v nd) (s : Same H H') : BdA K C H' b L m v nd :=
  ⟨let ⟨dx, h⟩ := k.ins; ⟨dx, s _ _ h⟩, dp_mono s k.dp⟩
/-- a right body for m -/
structure BdOk (m : Str) (nd : Nd) : Prop where
  mm : m ∈ methods
  kk : kindOf m ∈ bodyKinds
  all : nd.all m true = true
  size : nd.size ≤ 16
  dep : nd.dep ≤ 6
theorem all_wdA {m : Str} : ∀ (nd : Nd) (t : Bool), nd.all m t = true → nd.wdA = true
  | .no a, t, h => all_wdA a false h
  | .iff a b c, t, h => by
    have h : (a.all m false && b.all m t && c.all m t) = true := h
    rw [Bool.and_eq_true, Bool.and_eq_true] at h
    show (a.wdA && b.wdA && c.wdA) = true
    rw [all_wdA a _ h.1.1, all_wdA b _ h.1.2, all_wdA c _ h.2]
    rfl
  | .word z, t, h => top_wd (nd := .word z) h
  | .cnt _, _, _ => rfl
  | .ask1 _ _, _, _ => rfl
  | .ask2 _ _ _, _, _ => rfl
section
variable {P : Program} {w : World} {K : PySem.W.Frag} {mg : Str → Option Value} {base : Heap}
def bodyM : List Str := ["truth", "length", "has", "like", "unlike", "before", "behind", "hash"]
theorem bodyM_iff : ∀ m ∈ methods, (kindOf m ∈ bodyKinds ↔ m ∈ bodyM) := by decide +kernel
theorem bodyM_in : ∀ m ∈ bodyM, m ∈ methods := by decide +kernel
/-- an error out of the class at C, that keeps v as its f -/
def OutF (C : Addr) (f : Str) (v : V) (H : Hp) (E : XK) : Prop := ∀ d, H d = none → E (.ref C) (some d) (upd H d (.xd [(f, v)]))
abbrev sCheck_body_method : Stmt := top 47
abbrev nCheck_body_method : List Str := ["method"]
theorem scCheck_body_method : FnScope nCheck_body_method ["method"] (defScope sCheck_body_method) := ⟨rfl, rfl, rfl, by decide +kernel, rfl, by decide +kernel, by decide +kernel⟩
def spCheckB (K : PySem.W.Frag) (C : Addr) : Sp := fun vs H Q E => ∃ (v : V) (tn : String), vs = [v] ∧ Kd K H v tn ∧ (isIn v bodyM = true → Q .non H) ∧ (isIn v bodyM = false → OutF C "value" v H E)
theorem ok_checkB (T : Txt K mg) {C p_BODY_KINDS : Addr} (g_BODY_KINDS : mg "BODY_KINDS" = some (.ref p_BODY_KINDS)) (tB : ∀ H, SqT K H p_BODY_KINDS (bodyKinds.map V.str)) (T_NoName : Ex.ErrC K mg "NoName" "value" C) (M_NoName : Ex.InitOk P w K mg base "value" C)
    (D : DefAt K mg "check_body_method" sCheck_body_method ["method"]) (CKind_of : Ex.CalX P w K mg base 4 "kind_of" (spKind K C)) : Ex.CalX P w K mg base 5 "check_body_method" (spCheckB K C) := by
  refine Ex.byX D scCheck_body_method (fun vs H Q E h => ?_) (fun f cd A hg outer s H vs Q E hr h => ?_)
  · obtain ⟨_, _, rfl, _⟩ := h
    rfl
  · obtain ⟨v, tn, rfl, kd, q1, q2⟩ := h
    refine ⟨_, (pss_one (ps_if (pt_cmpR (r := rIn K true) op_notIn_seq (Ex.pe_x CKind_of hg hr (by decide) (takes_of rfl rfl rfl rfl) (pa_cons (pv 0) pa_nil)) (pe_glob (v := .ref p_BODY_KINDS) (by rfl) g_BODY_KINDS rfl) (by rfl))
  (pss_one (ps_raise rfl (takes_of rfl rfl rfl rfl) (Ex.pmkE T_NoName M_NoName hr (by decide) (pa_cons (pv 0) pa_nil))))
  pss_nil)), ?_⟩
    repeat walk_at "rd"
    refine ⟨v, tn, rfl, kd, fun z ez hm => ?_, fun c => ?_⟩
    · subst ez
      have iff := bodyM_iff z hm
      repeat walk_at "rd"
      refine inT (tB _) rfl (flat_strs _) ?_
      rw [if_pos rfl, inV_str]
      refine ⟨_, rfl, ?_⟩
      refine Rd.ndec (fun c => ?_) (fun c => ?_)
      · repeat walk_at "rd"
        refine Ex.mk ?_
        repeat walk_at "rd"
        exact Ex.made (q2 (decide_eq_false fun z => c (iff.mpr z)))
      · repeat walk_at "rd"
        exact q1 (decide_eq_true (iff.mp c))
    · have e : isIn v bodyM = false := by
        cases v with
        | str z => exact decide_eq_false fun h => (show z ∉ methods from of_decide_eq_false c) (bodyM_in z h)
        | _ => rfl
      exact q2 e
abbrev sBody___init__ : Stmt := meth 56 0
abbrev nBody___init__ : List Str := ["self", "method", "expression", "place"]
theorem scBody___init__ : FnScope nBody___init__ ["self", "method", "expression"] (defScope sBody___init__) := ⟨rfl, rfl, rfl, by decide +kernel, rfl, by decide +kernel, by decide +kernel⟩
def spBInit (K : PySem.W.Frag) (C CN CB : Addr) : Sp := fun vs H Q E => ∃ (b dx : Addr) (x v : V) (tn : String) (d : PyData), vs = [.ref b, x, v] ∧ H b = some (.ins C dx []) ∧ Kd K H x tn ∧ Dp K H v d ∧ Uni d ∧
  (isIn x bodyM = false → OutF CN "value" x H E) ∧
  ∀ m, x = .str m → m ∈ bodyM → (∀ n, goW m 16 [(d, 1, true)] = some n → ∀ H', Same H H' → OutF CB "place" (.int (n : Int)) H' E) ∧
    (goW m 16 [(d, 1, true)] = none → ∀ L H', Keep b H H' → H L = none → H' b = some (.ins C dx [("method", .str m), ("expression", v), ("_nodes", .ref L)]) → Q .non H')
set_option pp.maxSteps 3000 in
theorem ok_bdinit (T : Txt K mg) {C_Body C_NoName C_NoBody : Addr} (B : BdF K mg C_Body) (T_NoBody : Ex.ErrC K mg "NoBody" "place" C_NoBody) (M_NoBody : Ex.InitOk P w K mg base "place" C_NoBody) (CCheck_body_method : Ex.CalX P w K mg base 5 "check_body_method" (spCheckB K C_NoName))
    (CFirst_wrong : CalG P w K mg base 8 "_first_wrong" (spFirst K)) (CNumbered : CalG P w K mg base 8 "_numbered" (spNumb K 6)) {f : Addr} {fd : FuncData} (D : Ob.MethAt K "__init__" "Body.__init__" sBody___init__ ["self", "method", "expression"] f fd) :
    FnG P w K mg base (L2.CX P w) 9 f fd ["self", "method", "expression"] (spBInit K C_Body C_NoName C_NoBody) := by
  refine Ob.byGX D scBody___init__ (fun vs H Q E h => ?_) (fun cd A hg outer s H vs Q E hr h => ?_)
  · obtain ⟨_, _, _, _, _, _, rfl, _⟩ := h
    rfl
  · obtain ⟨b, dx, x, v, tn, d, rfl, hb, kd, dp, un, q1, q2⟩ := h
    refine ⟨_, (pss_cons (ps_expr (Ex.pe_x CCheck_body_method hg hr (by decide) (takes_of rfl rfl rfl rfl) (pa_cons (pv 1) pa_nil)))
  (pss_cons (ps_set (i := 3) scBody___init__.nd rfl (Or.inl rfl) (pe_cG CFirst_wrong hg hr (by decide) (pa_cons (pv 1) (pa_cons (pv 2) pa_nil))))
  (pss_cons (ps_if (pt_cmpR op_notN (pv 3) pe_non (nomark _))
  (pss_one (ps_raise rfl (takes_of rfl rfl rfl rfl) (Ex.pmkE T_NoBody M_NoBody hr (by decide) (pa_cons (pv 3) pa_nil))))
  pss_nil)
  (pss_cons (ps_fld (pv 0) (pv 1) (by rfl))
  (pss_cons (ps_fld (pv 0) (pv 2) (by rfl))
  (pss_one (ps_fld (pv 0) (pe_cG CNumbered hg hr (by decide) (pa_cons (pv 2) (pa_cons pe_int pa_nil))) (by rfl)))))))), ?_⟩
    repeat walk_at "rd"
    refine ⟨x, tn, rfl, kd, fun c => ?_, q1⟩
    obtain ⟨m, rfl, hm⟩ := isIn_str c
    obtain ⟨q2, q3⟩ := q2 m rfl hm
    have mm := bodyM_in m hm
    repeat walk_at "rd"
    refine ⟨v, m, d, rfl, dp, un, mm, fun H1 s1 => ?_⟩
    have hb1 := s1 _ _ hb
    have nt1 := nt_ins hb1
    repeat walk_at "rd"
    cases eg : goW m 16 [(d, 1, true)] with
    | some n =>
      refine Rd.ndec (fun c => ?_) (fun c => absurd c (by intro z; cases z))
      repeat walk_at "rd"
      refine Ex.mk ?_
      repeat walk_at "rd"
      exact Ex.made (q2 n eg H1 s1)
    | none =>
      refine Rd.ndec (fun c => absurd rfl c) (fun _ => ?_)
      obtain ⟨nd, rfl, al, dep, sz⟩ := goW_none eg
      have dp1 := dp_mono s1 dp
      repeat walk_at "rd"
      refine ⟨b, C_Body, dx, [], rfl, hb1, B.cl, B.n1, by decide, ?_⟩
      have e1 : putF "method" (.str m) [] = [(("method" : Str), V.str m)] := rfl
      rw [e1]
      repeat walk_at "rd"
      refine ⟨b, C_Body, dx, [("method", .str m)], rfl, upd_same, B.cl, B.n2, by simp, ?_⟩
      have e2 : putF "expression" v [(("method" : Str), V.str m)] = [(("method" : Str), V.str m), ("expression", v)] := rfl
      rw [e2, upd_upd]
      have k2 : Keep b H1 (upd H1 b (.ins C_Body dx [("method", .str m), ("expression", v)])) := Keep.put (fun _ _ _ e => e)
      have dp2 := nd_keep k2 nt1 _ _ dp1
      have hb2 : upd H1 b (.ins C_Body dx [("method", .str m), ("expression", v)]) b = some (.ins C_Body dx [("method", .str m), ("expression", v)]) := upd_same
      have k02 : Keep b H (upd H1 b (.ins C_Body dx [("method", .str m), ("expression", v)])) := (Keep.same s1).put
      generalize upd H1 b (.ins C_Body dx [("method", .str m), ("expression", v)]) = H2 at k2 dp2 hb2 k02 ⊢
      repeat walk_at "rd"
      refine ⟨v, nd, 0, rfl, dp2, all_wdA nd true al, dep, sz, fun L ys H4 s4 nL hL dy => ?_⟩
      have hb4 := s4 _ _ hb2
      have bL : L ≠ b := fun e => by rw [e, hb4] at hL; cases hL
      repeat walk_at "rd"
      refine ⟨b, C_Body, dx, [("method", .str m), ("expression", v)], rfl, hb4, B.cl, B.n3, by simp, ?_⟩
      have e3 : putF "_nodes" (.ref L) [(("method" : Str), V.str m), ("expression", v)] = [(("method" : Str), V.str m), ("expression", v), ("_nodes", .ref L)] := rfl
      rw [e3]
      have k5 : Keep b H4 (upd H4 b (.ins C_Body dx [("method", .str m), ("expression", v), ("_nodes", .ref L)])) := Keep.put (fun _ _ _ e => e)
      repeat walk_at "rd"
      refine q3 eg L _ (fun a u n e => k5 a u n (s4 _ _ (k02 a u n e))) ?_ upd_same
      cases z : H L with
      | none => rfl
      | some u => rw [k02 _ _ bL z] at nL; cases nL
end
end Ab
namespace M7
open M6 PyProof.Rows PySem.Spec
/-! ### sorted texts -/
theorem le_of_not {a b : List Nat} (h : (!ltCps b a) = true) : a ≤ b := by
  rw [ltCps_eq] at h
  have h : ¬ b < a := by simpa using h
  exact List.not_lt.mp h
theorem rising_le : ∀ {r : List Str} {p : Str}, risingS p r = true → ∀ x ∈ r, p.cps.toList ≤ x.cps.toList
  | [], _, _, x, hx => by simp at hx
  | y :: r, p, h, x, hx => by
    have h : (!ltCps y.cps.toList p.cps.toList && risingS y r) = true := h
    rw [Bool.and_eq_true] at h
    have h1 := le_of_not h.1
    rcases List.mem_cons.mp hx with e | e
    · subst e; exact h1
    · exact List.le_trans h1 (rising_le h.2 x e)
theorem rising_pw : ∀ {r : List Str} {p : Str}, risingS p r = true → (p :: r).Pairwise fun a b => a.cps.toList ≤ b.cps.toList
  | [], _, _ => by simp
  | y :: r, p, h => by
    have h' : (!ltCps y.cps.toList p.cps.toList && risingS y r) = true := h
    rw [Bool.and_eq_true] at h'
    exact List.pairwise_cons.mpr ⟨rising_le h, rising_pw h'.2⟩
theorem sorted_pw {l : List Str} (h : sortedS l = true) : l.Pairwise fun a b => a.cps.toList ≤ b.cps.toList := by
  cases l with
  | nil => simp
  | cons p r => exact rising_pw h
theorem sorted_same {a b : List Str} (p : a.Perm b) (ha : sortedS a = true) (hb : sortedS b = true) : a = b :=
  List.Perm.eq_of_pairwise (le := fun a b => a.cps.toList ≤ b.cps.toList) (fun x y _ _ h1 h2 => by
    have e := List.le_antisymm h1 h2
    exact Str.ext' (Array.toList_inj.mp e)) (sorted_pw ha) (sorted_pw hb) p
/-! ### what a merge keeps -/
section
variable {α : Type} [DecidableEq α]
structure Merges (rows : List (List α)) (m : List α) : Prop where
  keeps : ∀ r ∈ rows, m.filter (fun x => decide (x ∈ r)) = r
  nd : m.Nodup
  mem : ∀ x, x ∈ m ↔ ∃ r ∈ rows, x ∈ r
theorem filter_none {m : List α} {p : α → Bool} (h : ∀ x ∈ m, p x = false) : m.filter p = [] := List.filter_eq_nil_iff.mpr fun x hx => by simp [h x hx]
theorem merges_step {rows : List (List α)} {w : α} {m : List α} (h : headOf rows = some w) (M : Merges (without rows w) m) : Merges rows (w :: m) := by
  obtain ⟨r0, hr0, t0, rfl, ok⟩ := head_found h
  have hok : ∀ r ∈ rows, w ∉ r.tail := by
    intro r hr
    unfold okHead at ok
    have := List.all_eq_true.mp ok r hr
    simpa using this
  have wm : w ∉ m := by
    intro e
    obtain ⟨r, hr, hw⟩ := (M.mem w).mp e
    unfold M6.without at hr
    obtain ⟨h1, _⟩ := List.mem_filter.mp hr
    obtain ⟨r1, _, rfl⟩ := List.mem_map.mp h1
    have := (List.mem_filter.mp hw).2
    simp at this
  have inw : ∀ r ∈ rows, (r.filter fun x => decide (x ≠ w)) ≠ [] → (r.filter fun x => decide (x ≠ w)) ∈ without rows w := by
    intro r hr hn
    unfold M6.without
    exact List.mem_filter.mpr ⟨List.mem_map.mpr ⟨r, hr, rfl⟩, by
      generalize (r.filter fun x => decide (x ≠ w)) = z at hn
      cases z with
      | nil => exact absurd rfl hn
      | cons a t => rfl⟩
  have same : ∀ t : List α, w ∉ t → (t.filter fun x => decide (x ≠ w)) = t := by
    intro t ht
    refine List.filter_eq_self.mpr fun x hx => ?_
    have : x ≠ w := fun e => ht (e ▸ hx)
    simpa using this
  have core : ∀ t : List α, w ∉ t → (t ≠ [] → t ∈ without rows w) → m.filter (fun x => decide (x ∈ t)) = t := by
    intro t ht hin
    cases t with
    | nil => exact filter_none fun x _ => by simp
    | cons a t => exact M.keeps _ (hin (by simp))
  refine ⟨fun r hr => ?_, List.nodup_cons.mpr ⟨wm, M.nd⟩, fun x => ?_⟩
  · have hw := hok r hr
    cases r with
    | nil => exact filter_none fun x _ => by simp
    | cons a t =>
      by_cases e : a = w
      · subst e
        rw [List.filter_cons_of_pos (by simp)]
        have e1 : (m.filter fun x => decide (x ∈ a :: t)) = m.filter fun x => decide (x ∈ t) := by
          refine List.filter_congr fun x hx => ?_
          have : x ≠ a := fun e => wm (e ▸ hx)
          simp [this]
        rw [e1]
        have ht : a ∉ t := hw
        have e2 : ((a :: t).filter fun x => decide (x ≠ a)) = t := by rw [List.filter_cons_of_neg (by simp)]; exact same t ht
        rw [core t ht fun hn => by rw [← e2]; exact inw _ hr (by rw [e2]; exact hn)]
      · have hwr : w ∉ a :: t := by
          intro z
          rcases List.mem_cons.mp z with z | z
          · exact e z.symm
          · exact hw z
        rw [List.filter_cons_of_neg (by simpa using hwr)]
        have e2 := same _ hwr
        exact core _ hwr fun hn => by rw [← e2]; exact inw _ hr (by rw [e2]; exact hn)
  · rw [List.mem_cons]
    constructor
    · rintro (e | e)
      · subst e; exact ⟨_, hr0, by simp⟩
      · obtain ⟨r, hr, hx⟩ := (M.mem x).mp e
        unfold M6.without at hr
        obtain ⟨h1, _⟩ := List.mem_filter.mp hr
        obtain ⟨r1, hr1, rfl⟩ := List.mem_map.mp h1
        exact ⟨r1, hr1, (List.mem_filter.mp hx).1⟩
    · rintro ⟨r, hr, hx⟩
      by_cases e : x = w
      · exact .inl e
      · have hx' : x ∈ r.filter fun x => decide (x ≠ w) := List.mem_filter.mpr ⟨hx, by simpa using e⟩
        exact .inr ((M.mem x).mpr ⟨_, inw r hr (List.ne_nil_of_mem hx'), hx'⟩)
theorem merges_fuel : ∀ {n : Nat} {rows : List (List α)} {acc l : List α}, mrgF n rows acc = some l → ∃ m, l = acc ++ m ∧ Merges rows m
  | 0, _, _, _, h => by simp [mrgF] at h
  | n + 1, rows, acc, l, h => by
    unfold mrgF at h
    split at h
    · rename_i he
      obtain rfl : rows = [] := by simpa using he
      refine ⟨[], by simpa using h.symm, ?_, by simp, by simp⟩
      simp
    · cases e : headOf rows with
      | none => rw [e] at h; cases h
      | some w =>
        rw [e] at h
        obtain ⟨m, hm, M⟩ := merges_fuel (n := n) h
        exact ⟨w :: m, by rw [hm]; simp, merges_step e M⟩
theorem merges {rows : List (List α)} {l : List α} (h : mrg rows = some l) : Merges rows l := by
  obtain ⟨m, hm, M⟩ := merges_fuel h
  obtain rfl : l = m := by simpa using hm
  refine ⟨fun r hr => ?_, M.nd, fun x => ?_⟩
  · cases r with
    | nil => exact filter_none fun x _ => by simp
    | cons a t => exact M.keeps _ (List.mem_filter.mpr ⟨hr, by simp⟩)
  · rw [M.mem]
    constructor
    · rintro ⟨r, hr, hx⟩
      exact ⟨r, (List.mem_filter.mp hr).1, hx⟩
    · rintro ⟨r, hr, hx⟩
      refine ⟨r, List.mem_filter.mpr ⟨hr, ?_⟩, hx⟩
      cases r with
      | nil => cases hx
      | cons a t => rfl
/-- the words of the lists, each once -/
def every (rows : List (List α)) : List α := rows.foldl (fun e r => e ++ r.filter fun x => decide (x ∉ e)) []
structure EvInv (rows : List (List α)) (e : List α) : Prop where
  nd : e.Nodup
  mem : ∀ x, x ∈ e ↔ ∃ r ∈ rows, x ∈ r
theorem ev_step {rows : List (List α)} {e r : List α} (h : EvInv rows e) (hr : r.Nodup) : EvInv (rows ++ [r]) (e ++ r.filter fun x => decide (x ∉ e)) := by
  refine ⟨?_, fun x => ?_⟩
  · rw [List.nodup_append]
    refine ⟨h.nd, hr.filter _, fun a ha b hb e => ?_⟩
    subst e
    have := (List.mem_filter.mp hb).2
    simp at this
    exact this ha
  · rw [List.mem_append, List.mem_filter]
    constructor
    · rintro (hx | ⟨hx, _⟩)
      · obtain ⟨q, hq, hx⟩ := (h.mem x).mp hx
        exact ⟨q, List.mem_append_left _ hq, hx⟩
      · exact ⟨r, List.mem_append_right _ (by simp), hx⟩
    · rintro ⟨q, hq, hx⟩
      by_cases he : x ∈ e
      · exact .inl he
      · rcases List.mem_append.mp hq with hq | hq
        · exact absurd ((h.mem x).mpr ⟨q, hq, hx⟩) he
        · obtain rfl : q = r := by simpa using hq
          exact .inr ⟨hx, by simpa using he⟩
theorem row_nodup {rows : List (List α)} {l r : List α} (M : Merges rows l) (hr : r ∈ rows) : r.Nodup := by
  rw [← M.keeps r hr]
  exact M.nd.filter _
theorem every_perm {rows : List (List α)} {l e : List α} (M : Merges rows l) (h : EvInv rows e) : e.Perm l :=
  (List.perm_ext_iff_of_nodup h.nd M.nd).mpr fun x => by rw [h.mem, M.mem]
theorem full_more (rows : List (List α)) : mrg (rows ++ [[]]) = mrg rows := by
  unfold mrg full
  rw [List.filter_append]
  simp
end
end M7
/-! a list or a tuple -/
namespace Sq
open PySem.Spec PyProof.Rows
def A (K : PySem.W.Frag) (H : Hp) (p : Addr) (xs : List V) : Prop := SqL K H p xs ∨ SqT K H p xs
theorem A.same {K : PySem.W.Frag} {H H' : Hp} {p : Addr} {xs : List V} (s : Same H H') (h : A K H p xs) : A K H' p xs := h.elim (fun h => .inl (s.seq h)) (fun h => .inr (by
  rcases h with (h | ⟨o, h⟩) | h
  · exact .inl (.inl (s _ _ h))
  · exact .inl (.inr ⟨o, s _ _ h⟩)
  · exact .inr h))
def rIxA (K : PySem.W.Frag) : R2 := fun x y H Q => rIxL K x y H Q ∨ rIxT K x y H Q
def rSlA (K : PySem.W.Frag) : V → Option Int → Option Int → Hp → VK → Prop := fun x lo hi H Q => rSlL K x lo hi H Q ∨ L2.rSlA K x lo hi H Q
def iAny (K : PySem.W.Frag) (te : TE) : TI := fun σ H R => te σ H fun x H1 => ∃ a, x = .ref a ∧ (((∃ xs, SqL K H1 a xs) ∧ R (Itl K a) H1) ∨ ((∃ xs, SqT K H1 a xs) ∧ R (Itt K a) H1))
section
variable {X : Cx}
theorem ix_any : IxR X (rIxA X.K) := fun a b pins s σ H x y v u Q I rx ry h hs => Or.elim h (fun h => ix_list a b pins s σ H x y v u Q I rx ry h hs) (fun h => ix_tup a b pins s σ H x y v u Q I rx ry h hs)
theorem sl_any : SlR X (rSlA X.K) := by
  intro pins s σ H x v vl vu lo hi sl Q I rx hs pl pu h
  exact h.elim (sl_list pins s σ H x v vl vu lo hi sl Q I rx hs pl pu) (sl_tupA pins s σ H x v vl vu lo hi sl Q I rx hs pl pu)
theorem pi_any {tg l : Expr} {tl : TE} (hl : PE X l tl) : PI X tg l (iAny X.K tl) := by
  refine ⟨fun pins s σ H R I h => thn (hl.run pins s σ H _ I h) fun v s1 ⟨x, H1, I1, r1, a, e, q1⟩ => ?_⟩
  subst e
  cases r1
  have fp : ∀ (h' : Heap), ∀ b ∈ [s1.heap.objs.size], _ := fun h' b hb => by
    have e : b = s1.heap.objs.size := by simpa using hb
    subst e
    exact I1.fpOk (Nat.le_refl _) (I1.hok.fresh (Nat.le_refl _))
  rcases q1 with ⟨⟨xs, hq⟩, q⟩ | ⟨⟨xs, hq⟩, q⟩
  · obtain ⟨its, rv, p, hz⟩ := I1.list hq
    exact wpAny_pyIter_list p.isList ⟨s1.heap.objs.size, [s1.heap.objs.size], _, _, H1, rfl, I1.kept (t' := s1.toks) fun b o e => Heap.get?_push_of_some _ e, turn_list a _, ⟨_, Heap.get?_push_size _ rfl, rfl, rfl⟩, fp s1.heap, q⟩
  · obtain ⟨its, rv, p, hz⟩ := I1.tuple hq
    exact wpAny_pyIter_tuple (show s1.heap.IsTuple a its.toArray from p) ⟨s1.heap.objs.size, [s1.heap.objs.size], _, _, H1, rfl, I1.kept (t' := s1.toks) fun b o e => Heap.get?_push_of_some _ e, turn_tuple a _, ⟨_, Heap.get?_push_size _ rfl, rfl, rfl⟩, fp s1.heap, q⟩
end
section
variable {K : PySem.W.Frag} {σ : L2.St} {H : Hp} {Q : VK} {p : Addr} {xs : List V} {i : Int} {v : V} {x : V}
theorem ixR (h : A K H p xs) (a : atI xs i = some v) (k : Q v H) : rIxA K (.ref p) (.int i) H Q := h.elim (fun h => .inl (Rd.ixL h a k)) (fun h => .inr (Rd.ixT h a k))
theorem inR {neg : Bool} (h : A K H p xs) (hx : flatV x = true) (ha : xs.all flatV = true) (k : Q (.bl (if neg then !inV x xs else inV x xs)) H) : rIn K neg x (.ref p) H Q := ⟨p, xs, rfl, h, hx, ha, k⟩
theorem truR {R : Bool → Prop} (h : A K H p xs) (k : R (!xs.isEmpty)) : ∃ k, TruV K (.ref p) H k ∧ R k := h.elim (fun h => Rd.truL h k) (fun h => ⟨_, .inr (.inl ⟨xs, h, rfl⟩), k⟩)
theorem cut1 (l : List V) : cutV l (some 1) none = l.tail := by
  unfold cutV
  cases l with
  | nil => rfl
  | cons a l =>
    have e : HT.sIx (a :: l).length 0 (some 1) = 1 := by simp [HT.sIx]
    rw [e]
    show (List.drop 1 (a :: l)).take ((a :: l).length - 1) = l
    simp
/-- xs[1:] -/
theorem sl1R (h : A K H p xs) (k : ∀ q H', Same H H' → A K H' q xs.tail → Q (.ref q) H') : rSlA K (.ref p) (some 1) none H Q := by
  rcases h with h | h
  · refine .inl (Rd.slL h fun q hq => k q _ (Rd.sNew hq) (.inl (SqL.of ?_)))
    rw [upd_same, cut1]
  · refine .inr ⟨p, xs, rfl, h, fun e => k p H (Same.refl _) (.inr ?_), fun _ q hq => k q _ (Rd.sNew hq) (.inr (.inl (.inl ?_)))⟩
    · have e0 : xs = [] := by
        cases xs with
        | nil => rfl
        | cons a l =>
          have e1 : HT.sIx (a :: l).length 0 (some 1) = 1 := by simp [HT.sIx]
          rw [e1] at e
          cases e.1
      rw [e0] at h ⊢
      exact h
    · rw [upd_same, cut1]
/-- a comprehension over a list or a tuple of things -/
theorem lcA {α β : Type} {tl te : TE} {tt : TT} {vs : List Nat} {j : Nat} {a : Addr} {bs : List α} (P : α → V → Hp → Prop) (B : β → V → Hp → Prop) (f : α → Bool) (g : α → β)
    (htl : ∀ R : V → Hp → Prop, R (.ref a) H → tl σ H R) (hl : A K H a xs) (hA : Rd.Stays P) (hB : Rd.Stays B) (pr : Paired (fun b x => P b x H) bs xs) (hz : xs.length ≤ 10000)
    (hw : ∀ x, wipe ((wipe σ vs).set j (some x)) vs = wipe σ vs)
    (turn : ∀ b x H1 (R : Bool → Hp → Prop), b ∈ bs → P b x H → P b x H1 → Same H H1 → (∀ H2, Same H1 H2 → R (f b) H2) → tt ((wipe σ vs).set j (some x)) H1 R)
    (elem : ∀ b x H1 (R : VK), b ∈ bs → f b = true → P b x H → P b x H1 → Same H H1 → (∀ y H2, Same H1 H2 → Rd.Off H H1 H2 (B (g b)) y → R y H2) → te ((wipe σ vs).set j (some x)) H1 R)
    (fin : ∀ D ys H1, H D = none → Same H H1 → H1 D = some (.lst ys) → Paired (fun c y => B c y H1) ((bs.filter f).map g) ys → Q (.ref D) H1) :
    tLc (iAny K tl) (gName j) tt te vs σ H Q := by
  rcases hl with h | h
  · have z : tLc (iList K (tC (.ref a))) (gName j) tt te vs σ H Q := Rd.lcL P B f g (fun R k => k) h hA hB pr hz hw turn elem fin
    obtain ⟨a', e, hx, r⟩ := z
    cases e
    exact htl _ ⟨a, rfl, .inl ⟨hx, r⟩⟩
  · have z : tLc (iTup K (tC (.ref a))) (gName j) tt te vs σ H Q := Rd.lcT P B f g (fun R k => k) h hA hB pr hz hw turn elem fin
    obtain ⟨a', e, hx, r⟩ := z
    cases e
    exact htl _ ⟨a, rfl, .inr ⟨hx, r⟩⟩
end
end Sq
namespace Ab
open PySem.Spec PyProof.Rows
local macro_rules | `(tactic| walk_at "rd") => `(tactic| (with_reducible first | refine Rd.tt_ ?_ | refine Rd.ff_ ?_))
section
variable {P : Program} {w : World} {K : PySem.W.Frag} {mg : Str → Option Value} {base : Heap}
/-- the error of the class at C with the field f = v goes out -/
def OutB (C : Addr) (f : Str) (v : V) (H : Hp) (E : XK) : Prop := ∀ H1, Same H H1 → ∀ d, H1 d = none → E (.ref C) (some d) (upd H1 d (.xd [(f, v)]))
theorem OutB.at {C : Addr} {f : Str} {v : V} {H H1 : Hp} {E : XK} (o : OutB C f v H E) (s : Same H H1) : OutB C f v H1 E := fun H2 s2 => o H2 (s.trans s2)
abbrev sCheck_flag : Stmt := top 19
abbrev nCheck_flag : List Str := ["value"]
theorem scCheck_flag : FnScope nCheck_flag ["value"] (defScope sCheck_flag) := ⟨rfl, rfl, rfl, by decide +kernel, rfl, by decide +kernel, by decide +kernel⟩
def spFlag (K : PySem.W.Frag) (C : Addr) : Sp := fun vs H Q E => ∃ (v : V) (tn : String), vs = [v] ∧ Kd K H v tn ∧ (isBl v = true → Q .non H) ∧ (isBl v = false → OutB C "value" v H E)
theorem ok_check_flag (T : Txt K mg) {C : Addr} (T_NoFlag : Ex.ErrC K mg "NoFlag" "value" C) (M_NoFlag : Ex.InitOk P w K mg base "value" C) (D : DefAt K mg "check_flag" sCheck_flag ["value"]) : Ex.CalX P w K mg base 3 "check_flag" (spFlag K C) := by
  refine Ex.byX D scCheck_flag (fun vs H Q E h => ?_) (fun f cd A hg outer s H vs Q E hr h => ?_)
  · obtain ⟨v, tn, rfl, _⟩ := h
    rfl
  · obtain ⟨v, tn, rfl, k, q1, q2⟩ := h
    refine ⟨_, (pss_one (ps_if (pt_not (pt_val (pe_callB (r := rIsi K) call_isi (by rfl) T.isinstance (by decide +kernel) (pa_cons (pv 0) (pa_cons (pe_bltn (v := .ty "bool") (by rfl) T.bool (by decide +kernel) rfl) pa_nil)))))
  (pss_one (ps_raise rfl (takes_of rfl rfl rfl rfl) (Ex.pmkE T_NoFlag M_NoFlag hr (by decide) (pa_cons (pv 0) pa_nil))))
  pss_nil)), ?_⟩
    repeat walk_at "rd"
    refine isi k.ty k.b ?_
    repeat walk_at "rd"
    refine Rd.bool (fun c => ?_) (fun c => ?_)
    · have c' : isBl v = false := by simpa using c
      refine Ex.mk ?_
      repeat walk_at "rd"
      exact Ex.made (q2 c' H (Same.refl _))
    · have c' : isBl v = true := by simpa using c
      repeat walk_at "rd"
      exact q1 c'
abbrev sCheck_operation : Stmt := top 28
abbrev nCheck_operation : List Str := ["operation"]
theorem scCheck_operation : FnScope nCheck_operation ["operation"] (defScope sCheck_operation) := ⟨rfl, rfl, rfl, by decide +kernel, rfl, by decide +kernel, by decide +kernel⟩
def spCheckOp (K : PySem.W.Frag) (C : Addr) (ws : List Str) : Sp := fun vs H Q E => ∃ (v : V) (tn : String), vs = [v] ∧ Kd K H v tn ∧ (isIn v ws = true → Q .non H) ∧ (isIn v ws = false → OutB C "value" v H E)
theorem ok_check_operation (T : Txt K mg) {C p_OPERATIONS : Addr} {ws : List Str} (g_OPERATIONS : mg "OPERATIONS" = some (.ref p_OPERATIONS)) (tM : ∀ H, SqT K H p_OPERATIONS (ws.map V.str)) (T_NoName : Ex.ErrC K mg "NoName" "value" C) (M_NoName : Ex.InitOk P w K mg base "value" C)
    (D : DefAt K mg "check_operation" sCheck_operation ["operation"]) (CIs_one_of : CalG P w K mg base 1 "is_one_of" (spOneOf K)) : Ex.CalX P w K mg base 3 "check_operation" (spCheckOp K C ws) := by
  refine Ex.byX D scCheck_operation (fun vs H Q E h => ?_) (fun f cd A hg outer s H vs Q E hr h => ?_)
  · obtain ⟨v, tn, rfl, _⟩ := h
    rfl
  · obtain ⟨v, tn, rfl, k, q1, q2⟩ := h
    refine ⟨_, (pss_one (ps_if (pt_not (pt_val (pe_cG CIs_one_of hg hr (by decide) (pa_cons (pv 0) (pa_cons (pe_glob (v := .ref p_OPERATIONS) (by rfl) g_OPERATIONS rfl) pa_nil)))))
  (pss_one (ps_raise rfl (takes_of rfl rfl rfl rfl) (Ex.pmkE T_NoName M_NoName hr (by decide) (pa_cons (pv 0) pa_nil))))
  pss_nil)), ?_⟩
    repeat walk_at "rd"
    refine ⟨v, p_OPERATIONS, tn, ws, rfl, k, tM H, ?_⟩
    repeat walk_at "rd"
    refine Rd.bool (fun c => ?_) (fun c => ?_)
    · have c' : isIn v ws = false := by simpa using c
      refine Ex.mk ?_
      repeat walk_at "rd"
      exact Ex.made (q2 c' H (Same.refl _))
    · have c' : isIn v ws = true := by simpa using c
      repeat walk_at "rd"
      exact q1 c'
/-! ### ways -/
/-- the texts among values -/
def strsOf : List V → List Str
  | [] => []
  | .str s :: l => s :: strsOf l
  | _ :: l => strsOf l
theorem strs_of_in {ws : List Str} : ∀ {xs : List V}, (xs.all fun x => isIn x ws) = true → xs = (strsOf xs).map V.str
  | [], _ => rfl
  | x :: l, h => by
    rw [List.all_cons, Bool.and_eq_true] at h
    obtain ⟨s, rfl, _⟩ := isIn_str h.1
    show _ = V.str s :: (strsOf l).map V.str
    rw [← strs_of_in h.2]
def waysOk (op : Str) (xs : List V) : Bool := (xs.all fun x => isIn x (menu op)) && decide ((strsOf xs).Nodup)
abbrev sAre_ways : Stmt := top 36
abbrev nAre_ways : List Str := ["operation", "value", "way"]
theorem scAre_ways : FnScope nAre_ways ["operation", "value"] (defScope sAre_ways) := ⟨rfl, rfl, rfl, by decide +kernel, rfl, by decide +kernel, by decide +kernel⟩
def MenusAt (K : PySem.W.Frag) (w : World) (p : Addr) (gM : Str → Addr) : Prop := ∀ o ∈ ops, KDct K w p o (.ref (gM o)) ∧ ∀ H, SqT K H (gM o) ((menu o).map V.str)
def spWays (K : PySem.W.Frag) : Sp := fun vs H Q _ => ∃ (op : Str) (v : V), vs = [.str op, v] ∧ op ∈ ops ∧
  ((∃ tn, TyX K H v (.type tn) ∧ kitB tn "tuple" = some false ∧ Q (.bl false) H) ∨ ∃ (p : Addr) (xs : List V), v = .ref p ∧ SqT K H p xs ∧ xs.length ≤ 1000 ∧ (∀ x ∈ xs, ∀ H', Same H H' → ∃ tn, Kd K H' x tn) ∧ ∀ H', Same H H' → Q (.bl (waysOk op xs)) H')
theorem ok_are_ways (T : Txt K mg) {p_MENUS : Addr} {gM : Str → Addr} (g_MENUS : mg "MENUS" = some (.ref p_MENUS)) (tM : MenusAt K w p_MENUS gM) (D : DefAt K mg "are_ways" sAre_ways ["operation", "value"])
    (CIs_one_of : CalG P w K mg base 1 "is_one_of" (spOneOf K)) : CalG P w K mg base 2 "are_ways" (spWays K) := by
  refine D.by scAre_ways (fun vs H Q E h => ?_) (fun f cd A hg outer s H vs Q E hr h => ?_)
  · obtain ⟨op, v, rfl, _⟩ := h
    rfl
  · obtain ⟨op, v, rfl, ho, h⟩ := h
    refine ⟨_, (pss_cons (ps_if (pt_not (pt_val (pe_callB (r := rIsi K) call_isi (by rfl) T.isinstance (by decide +kernel) (pa_cons (pv 1) (pa_cons (pe_bltn (v := .ty "tuple") (by rfl) T.tuple (by decide +kernel) rfl) pa_nil)))))
  (pss_one (ps_ret pe_bl))
  pss_nil)
  (pss_cons (ps_if (pt_not (pt_val (pe_callB (r := rAll K) (cr_all rfl) (by rfl) T.all (by decide +kernel) (pa_cons (pe_lc (wi := iTup K _) (own := [("way", 2)]) (g := gName 2) (by rfl) scAre_ways.nd (pi_tup (pv 1)) (blkOk_by (N := nAre_ways) (sc := defScope sAre_ways) (by decide +kernel)) (fun _ _ _ _ _ => pg_name (i := 2) scAre_ways.nd rfl (Or.inl rfl)) (fun _ _ _ _ _ => pts_nil) (fun _ _ _ _ _ => (pe_cG CIs_one_of hg hr (by decide) (pa_cons (pv 2) (pa_cons (pe_ix (r := rIxD K w) ix_kdict (pe_glob (v := .ref p_MENUS) (by rfl) g_MENUS rfl) (pv 0) (fun _ _ => rfl)) pa_nil))))) pa_nil))))
  (pss_one (ps_ret pe_bl))
  pss_nil)
  (pss_one (ps_ret (pe_cmpR op_eq (Ss.pe_lenSetT rfl T.len T.set (pv 1)) (pe_callB (r := Rd.rLenK K) Rd.callLen (by rfl) T.len PySem.boot_len (pa_cons (pv 1) pa_nil)) (nomark _)))))), ?_⟩
    repeat walk_at "rd"
    rcases h with ⟨tn, ty, kt, q⟩ | ⟨p, xs, rfl, hp, hl, hk, q⟩
    · refine isi ty kt ?_
      repeat walk_at "rd"
      exact Rd.tt_ (by repeat walk_at "rd"; exact q)
    · refine isi (tup_ty hp) (by show kitB "tuple" "tuple" = some true; decide +kernel) ?_
      repeat walk_at "rd"
      refine Rd.ff_ ?_
      repeat walk_at "rd"
      refine Rd.lcT (tl := tVar 1) (a := p) (H := H) (xs := xs) (bs := xs) (fun b x _ => x = b) (fun (b : Bool) y _ => y = .bl b) (fun _ => true) (fun x => isIn x (menu op)) (fun R k => Rd.var rfl k) hp (fun _ _ _ _ _ h => h) (fun _ _ _ _ _ h => h) ?_ (by omega) (fun _ => rfl) ?_ ?_ ?_
      · clear hl hk q hp
        induction xs with
        | nil => exact .nil
        | cons a l ih => exact .cons rfl ih
      · intro b x H1 R _ _ _ _ k
        repeat walk_at "rd"
        exact k _ (Same.refl _)
      · rintro b x H1 R hm _ _ rfl s1 k
        repeat walk_at "rd"
        refine ⟨p_MENUS, op, _, rfl, rfl, (tM op ho).1, ?_⟩
        obtain ⟨tn, kd⟩ := hk x hm H1 s1
        refine ⟨x, gM op, tn, menu op, rfl, kd, (tM op ho).2 H1, ?_⟩
        exact k _ H1 (Same.refl _) (Rd.off_any rfl)
      · intro Dd ys H1 hD s1 hd pr
        have e : ys = (xs.map fun x => isIn x (menu op)).map V.bl := by
          rw [List.filter_eq_self.mpr (fun _ _ => rfl)] at pr
          exact Rd.pair_map pr
        rw [e] at hd
        repeat walk_at "rd"
        refine Rd.all_ (SqL.of hd) ?_
        repeat walk_at "rd"
        have ea : (xs.map fun x => isIn x (menu op)).all id = xs.all fun x => isIn x (menu op) := by rw [List.all_map]; rfl
        rw [ea]
        refine Rd.bool (fun c => ?_) (fun c => ?_)
        · have c' : (xs.all fun x => isIn x (menu op)) = false := by simpa using c
          repeat walk_at "rd"
          have := q _ s1
          rw [waysOk, c', Bool.false_and] at this
          exact this
        · have c' : (xs.all fun x => isIn x (menu op)) = true := by simpa using c
          repeat walk_at "rd"
          have ex := strs_of_in c'
          have hp1 := sqT_same s1 hp
          have hp2 : SqT K H1 p ((strsOf xs).map V.str) := by rw [← ex]; exact hp1
          have hz : (strsOf xs).length = xs.length := by
            have := congrArg List.length ex
            rw [List.length_map] at this
            exact this.symm
          refine Rd.var (n := 1) rfl ⟨p, strsOf xs, rfl, hp2, by omega, ?_⟩
          repeat walk_at "rd"
          refine Rd.lenT hp1 ?_
          repeat walk_at "rd"
          have := q _ s1
          rw [waysOk, c', Bool.true_and] at this
          have e2 : decide (V.int ((Ss.dcN (strsOf xs) (strsOf xs).length : Nat) : Int) = V.int ((xs.length : Nat) : Int)) = decide ((strsOf xs).Nodup) := by
            rw [Bool.eq_iff_iff, decide_eq_true_iff, decide_eq_true_iff, ← Ss.dc_iff, hz]
            constructor
            · intro z
              have := V.int.inj z
              omega
            · intro z
              rw [z]
          rw [e2]
          exact this
end
end Ab

namespace Ab
open PySem.Spec PyProof.Rows
local macro_rules | `(tactic| walk_at "rd") => `(tactic| (with_reducible first | refine Rd.sfld ?_ | refine Rd.dget ?_ | refine Rd.methR ?_ | refine Rd.propR ?_ | refine Rd.statR ?_ | refine Rd.getR ?_))
theorem get_tab {H : Hp} {a : Addr} {l : List Str} {f : Str → V} (h : H a = some (.dK (tab l f))) {o : Str} (m : o ∈ l) : DGet H a (.str o) (some (f o)) := by
  have := DGet.k (k := .inr o) h
  rw [val_tab l f m] at this
  exact this
/-- a dict comprehension over a tuple of texts that are its keys, the values read off -/
theorem dcP {K : PySem.W.Frag} {σ : L2.St} {H : Hp} {Q : VK} {tl tk tv : TE} {vs : List Nat} {j : Nat} {a : Addr} {l : List Str} {F : Str → V} (nd : l.Nodup) (z : l.length ≤ 1000) (htl : ∀ R : V → Hp → Prop, R (.ref a) H → tl σ H R) (ht : ∀ H, SqT K H a (l.map V.str))
    (hw : ∀ x, wipe ((wipe σ vs).set j (some x)) vs = wipe σ vs) (key : ∀ o H1 (R : VK), R (.str o) H1 → tk ((wipe σ vs).set j (some (.str o))) H1 R)
    (val : ∀ o, o ∈ l → ∀ H1 (R : VK), R (F o) H1 → tv ((wipe σ vs).set j (some (.str o))) H1 R) (fin : ∀ D, H D = none → Q (.ref D) (upd H D (.dK (tab l F)))) : tDc (iTup K tl) (gName j) tYes tk tv vs σ H Q := by
  refine htl _ ⟨a, rfl, ⟨_, ht H⟩, fun D hD => ?_⟩
  refine dc_tup (K := K) (a := a) (xs := l.map V.str) (fun i H1 => H1 = upd H D (.dK (tab (l.take i) F))) (by rw [List.take_zero]; rfl) (fun i H1 _ _ => ht H1) ?_ ?_
  · rintro i x H1 hx rfl
    obtain ⟨hi, e⟩ := List.getElem?_eq_some_iff.mp hx
    rw [List.length_map] at hi
    rw [List.getElem_map] at e
    subst e
    refine ⟨hw _, ?_⟩
    refine Rd.yes (Rd.tt_ ?_)
    refine key _ _ _ (val _ (List.getElem_mem hi) _ _ ⟨tab (l.take i) F, .inr l[i], rfl, upd_same, ?_, ?_⟩)
    · rw [tab_len, List.length_take]
      exact Rd.szl (by omega)
    · have nm : l[i] ∉ l.take i := fun m => by
        obtain ⟨k, hk, e⟩ := List.mem_iff_getElem.mp m
        rw [List.getElem_take] at e
        rw [List.length_take] at hk
        have := (List.getElem_inj nd).mp e
        omega
      show upd (upd H D _) D _ = _
      rw [upd_upd, putK_new _ _ _ nm, tab_snoc, List.take_add_one, List.getElem?_eq_getElem hi]
      rfl
  · rintro H1 rfl
    have := fin D hD
    rw [List.length_map, List.take_length]
    exact this
theorem ops_nd : ops.Nodup := by decide +kernel
theorem flags_nd : flagsW.Nodup := by decide +kernel
/-! ### a book in the heap -/
structure BF (K : PySem.W.Frag) (mg : Str → Option Value) (C : Addr) : Prop extends Ob.CF K mg "Book" C where
  n1 : NoAttr K C "_ways"
  n2 : NoAttr K C "_flags"
structure Bk (K : PySem.W.Frag) (C : Addr) (H : Hp) (b w f : Addr) (g : Str → Addr) (m : Str → List Str) (fl : Str → Bool) : Prop where
  ins : ∃ dx, H b = some (.ins C dx [("_ways", .ref w), ("_flags", .ref f)])
  wd : H w = some (.dK (tab ops fun o => .ref (g o)))
  fd : H f = some (.dK (tab flagsW fun x => .bl (fl x)))
  tp : ∀ o ∈ ops, SqT K H (g o) ((m o).map V.str)
  ne : w ≠ f
theorem Bk.mono {K : PySem.W.Frag} {C : Addr} {H H' : Hp} {b w f : Addr} {g : Str → Addr} {m : Str → List Str} {fl : Str → Bool} (k : Bk K C H b w f g m fl) (s : Same H H') : Bk K C H' b w f g m fl :=
  ⟨let ⟨dx, h⟩ := k.ins; ⟨dx, s _ _ h⟩, s _ _ k.wd, s _ _ k.fd, fun o ho => sqT_same s (k.tp o ho), k.ne⟩
def NewBk (K : PySem.W.Frag) (C : Addr) (g : Str → Addr) (m : Str → List Str) (fl : Str → Bool) (Q : VK) (H : Hp) : Prop := ∀ b w f H', Same H H' → H b = none → H w = none → H f = none → Bk K C H' b w f g m fl → Q (.ref b) H'
/-- the tables that the top has written -/
structure Tb (K : PySem.W.Frag) (w : World) (mg : Str → Option Value) (pO pM pF : Addr) (gM : Str → Addr) : Prop where
  o : mg "OPERATIONS" = some (.ref pO)
  m : mg "MENUS" = some (.ref pM)
  f : mg "FLAGS" = some (.ref pF)
  to : ∀ H, SqT K H pO (ops.map V.str)
  tf : ∀ H, SqT K H pF (flagsW.map V.str)
  tm : MenusAt K w pM gM
section
variable {P : Program} {w : World} {K : PySem.W.Frag} {mg : Str → Option Value} {base : Heap}
abbrev sBook___init__ : Stmt := meth 37 0
abbrev nBook___init__ : List Str := ["self", "operation", "word"]
theorem scBook___init__ : FnScope nBook___init__ ["self"] (defScope sBook___init__) := ⟨rfl, rfl, rfl, by decide +kernel, rfl, by decide +kernel, by decide +kernel⟩
def spBkInit (C : Addr) (gM : Str → Addr) : Sp := fun vs H Q _ => ∃ (b dx : Addr), vs = [.ref b] ∧ H b = some (.ins C dx []) ∧ ∀ w f, H w = none → upd (upd H w (.dK (tab ops fun o => .ref (gM o)))) b (.ins C dx [("_ways", .ref w)]) f = none →
  Q .non (upd (upd (upd (upd H w (.dK (tab ops fun o => .ref (gM o)))) b (.ins C dx [("_ways", .ref w)])) f (.dK (tab flagsW fun _ => .bl true))) b (.ins C dx [("_ways", .ref w), ("_flags", .ref f)]))
theorem ok_binit (T : Txt K mg) {C p_OPERATIONS p_MENUS p_FLAGS : Addr} {gM : Str → Addr} (B : BF K mg C) (t : Tb K w mg p_OPERATIONS p_MENUS p_FLAGS gM) {f : Addr} {fd : FuncData} (D : Ob.MethAt K "__init__" "Book.__init__" sBook___init__ ["self"] f fd) :
    FnG P w K mg base CX0 1 f fd ["self"] (spBkInit C gM) := by
  have g_OPERATIONS := t.o
  have g_MENUS := t.m
  have g_FLAGS := t.f
  refine Ob.byG D scBook___init__ (fun vs H Q E h => ?_) (fun cd A hg outer s H vs Q E hr h => ?_)
  · obtain ⟨b, dx, rfl, _⟩ := h
    rfl
  · obtain ⟨b, dx, rfl, hb, q⟩ := h
    refine ⟨_, (pss_cons (ps_fld (pv 0) (pe_dc (wi := iTup K _) (own := [("operation", 1)]) (g := gName 1) (by rfl) scBook___init__.nd (pi_tup (pe_glob (v := .ref p_OPERATIONS) (by rfl) g_OPERATIONS rfl)) (blkOk_by (N := nBook___init__) (sc := defScope sBook___init__) (by decide +kernel)) (fun _ _ _ _ _ => pg_name (i := 1) scBook___init__.nd rfl (Or.inl rfl)) (fun _ _ _ _ _ => pts_nil) (fun _ _ _ _ _ => (pv 1)) (fun _ _ _ _ _ => (pe_ix (r := rIxD K w) ix_kdict (pe_glob (v := .ref p_MENUS) (by rfl) g_MENUS rfl) (pv 1) (fun _ _ => rfl)))) (by rfl))
  (pss_one (ps_fld (pv 0) (pe_dc (wi := iTup K _) (own := [("word", 2)]) (g := gName 2) (by rfl) scBook___init__.nd (pi_tup (pe_glob (v := .ref p_FLAGS) (by rfl) g_FLAGS rfl)) (blkOk_by (N := nBook___init__) (sc := defScope sBook___init__) (by decide +kernel)) (fun _ _ _ _ _ => pg_name (i := 2) scBook___init__.nd rfl (Or.inl rfl)) (fun _ _ _ _ _ => pts_nil) (fun _ _ _ _ _ => (pv 2)) (fun _ _ _ _ _ => pe_bl)) (by rfl)))), ?_⟩
    repeat walk_at "rd"
    refine dcP (a := p_OPERATIONS) (l := ops) (F := fun o => .ref (gM o)) ops_nd (by decide) (fun R k => k) t.to (fun _ => rfl) (fun o H1 R k => Rd.var rfl k) (fun o ho H1 R k => ?_) (fun w0 hw => ?_)
    · repeat walk_at "rd"
      exact ⟨p_MENUS, o, _, rfl, rfl, (t.tm o ho).1, k⟩
    have b0 : b ≠ w0 := fun e => by rw [e, hw] at hb; cases hb
    repeat walk_at "rd"
    refine ⟨b, C, dx, [], rfl, by rw [upd_ne b0]; exact hb, B.cl, B.n1, by decide, ?_⟩
    repeat walk_at "rd"
    refine dcP (a := p_FLAGS) (l := flagsW) (F := fun _ => .bl true) flags_nd (by decide) (fun R k => k) t.tf (fun _ => rfl) (fun o H1 R k => Rd.var rfl k) (fun o ho H1 R k => k) (fun f0 hf => ?_)
    have e1 : putF "_ways" (.ref w0) [] = [(("_ways" : Str), V.ref w0)] := rfl
    rw [e1] at hf
    have b1 : b ≠ f0 := fun e => by rw [← e, upd_same] at hf; cases hf
    repeat walk_at "rd"
    refine ⟨b, C, dx, [("_ways", .ref w0)], rfl, by rw [upd_ne b1, e1, upd_same], B.cl, B.n2, by simp, ?_⟩
    exact q w0 f0 hw hf
/-- Book() -/
theorem mkBk {C : Addr} {gM : Str → Addr} {σ : L2.St} {H : Hp} {Q : VK} (t : ∀ o ∈ ops, ∀ H, SqT K H (gM o) ((menu o).map V.str)) (h : NewBk K C gM menu (fun _ => true) Q H) : tMake C (spBkInit C gM) [] E0 tNil σ H Q := by
  refine Rd.makeR (Rd.nil fun b dx hb hdx nb => ⟨b, dx, rfl, upd_same, fun w0 f0 hw hf => ⟨rfl, ?_⟩⟩)
  have wb : w0 ≠ b := fun e => by subst e; rw [upd_same] at hw; cases hw
  rw [upd_ne wb] at hw
  have wd : w0 ≠ dx := fun e => by subst e; rw [upd_same] at hw; cases hw
  rw [upd_ne wd] at hw
  have fb : f0 ≠ b := fun e => by subst e; rw [upd_same] at hf; cases hf
  rw [upd_ne fb] at hf
  have fw : f0 ≠ w0 := fun e => by subst e; rw [upd_same] at hf; cases hf
  rw [upd_ne fw, upd_ne fb] at hf
  have fdx : f0 ≠ dx := fun e => by subst e; rw [upd_same] at hf; cases hf
  rw [upd_ne fdx] at hf
  refine h b w0 f0 _ (fun a u e => ?_) hb hw hf ⟨⟨dx, upd_same⟩, ?_, ?_, fun o ho => t o ho _, fun e => fw e.symm⟩
  · rw [upd_ne (ne_of_none e hb), upd_ne (ne_of_none e hf), upd_ne (ne_of_none e hb), upd_ne (ne_of_none e hw), upd_ne (ne_of_none e hb), upd_ne (ne_of_none e hdx)]
    exact e
  · rw [upd_ne wb, upd_ne (fun e => fw e.symm), upd_ne wb, upd_same]
  · rw [upd_ne fb, upd_same]
end
end Ab
namespace Ab
open PySem.Spec PyProof.Rows
local macro_rules | `(tactic| walk_at "rd") => `(tactic| (with_reducible first | refine Rd.sfld ?_ | refine Rd.dget ?_ | refine Rd.methR ?_ | refine Rd.propR ?_ | refine Rd.statR ?_ | refine Rd.getR ?_))
/-- the words that ways are made of -/
def wayW : List Str := ["truth", "length", "walk", "item", "back", "count", "hash", "call", "has", "own", "turned", "like", "turned_like", "grow", "plus"]
theorem menu_in : ∀ o ∈ ops, ∀ x ∈ menu o, x ∈ wayW := by decide +kernel
theorem wayW_W : ∀ x ∈ wayW, W6.W 100 x := by
  have h : ∀ x ∈ wayW, x.length ≤ 100 ∧ (TL.tl x).all (fun c => decide (c < 1000)) = true := by decide +kernel
  intro x hx
  exact ⟨(h x hx).1, fun c hc => of_decide_eq_true (List.all_eq_true.mp (h x hx).2 c hc)⟩
def dT (r : List Str) : PyData := .tuple (r.map PyData.str)
theorem shaped_dT {r : List Str} (h : ∀ w ∈ r, w ∈ wayW) : SeqAt.shaped (dT r) = true := by
  have := Dt.dep_strs r
  simp [SeqAt.shaped, dT, PyData.canLay0, Dt.lay_strs (fun w hw => wayW_W w (h w hw)), PyData.depth]
  omega
theorem eqv_dT (a b : List Str) : PyData.eqv (dT a) (dT b) = decide (a = b) := by
  show PyData.eqv (.tuple _) (.tuple _) = _
  rw [PyData.eqv, Dt.eqv_strs]
theorem hit_tab {F : V → V → Bool → Prop} {l0 : List Str} {f f' : Str → V} {e : Str → Bool} : ∀ {l : List Str}, (∀ o ∈ l, o ∈ l0 ∧ F (f o) (f' o) (e o)) → Ob.HitF F (tab l0 f') (tab l f) (l.all e)
  | [], _ => .nil
  | o :: l, h => by
    obtain ⟨h1, h2⟩ := h o List.mem_cons_self
    exact .hit (val_tab l0 f' h1) h2 (hit_tab fun x hx => h x (List.mem_cons_of_mem _ hx))
/-- ways out of the menus -/
def OkM (m : Str → List Str) : Prop := ∀ o ∈ ops, ∀ x ∈ m o, x ∈ wayW
def eqWays (m m' : Str → List Str) : Bool := ops.all fun o => decide (m o = m' o)
def eqFlags (fl fl' : Str → Bool) : Bool := flagsW.all fun x => decide (fl x = fl' x)
theorem eq_ways {K : PySem.W.Frag} {H : Hp} {w w' : Addr} {g g' : Str → Addr} {m m' : Str → List Str} (hw : H w = some (.dK (tab ops fun o => .ref (g o)))) (hw' : H w' = some (.dK (tab ops fun o => .ref (g' o)))) (t : ∀ o ∈ ops, SqT K H (g o) ((m o).map V.str)) (t' : ∀ o ∈ ops, SqT K H (g' o) ((m' o).map V.str))
    (k : OkM m) (k' : OkM m') : ∃ ks ls r, H w = some (.dK ks) ∧ H w' = some (.dK ls) ∧ Ob.HitF (Ob.EqB K H 2) ls ks r ∧ (ks.length == ls.length && r) = eqWays m m' := by
  refine ⟨_, _, eqWays m m', hw, hw', hit_tab fun o ho => ⟨ho, .inl ⟨dT (m o), dT (m' o), .tup (t o ho) (Dt.dp_strs _), .tup (t' o ho) (Dt.dp_strs _), shaped_dT (k o ho), shaped_dT (k' o ho), (eqv_dT _ _).symm⟩⟩, ?_⟩
  rw [tab_len, tab_len, beq_self_eq_true, Bool.true_and]
theorem eq_flags {K : PySem.W.Frag} {H : Hp} {f f' : Addr} {fl fl' : Str → Bool} (hw : H f = some (.dK (tab flagsW fun x => .bl (fl x)))) (hw' : H f' = some (.dK (tab flagsW fun x => .bl (fl' x)))) :
    ∃ ks ls r, H f = some (.dK ks) ∧ H f' = some (.dK ls) ∧ Ob.HitF (Ob.EqB K H 2) ls ks r ∧ (ks.length == ls.length && r) = eqFlags fl fl' := by
  refine ⟨_, _, eqFlags fl fl', hw, hw', hit_tab fun o ho => ⟨ho, .inl ⟨.bool (fl o), .bool (fl' o), .bl _, .bl _, rfl, rfl, ?_⟩⟩, ?_⟩
  · show decide (fl o = fl' o) = PyData.eqv (.bool (fl o)) (.bool (fl' o))
    cases fl o <;> cases fl' o <;> rfl
  · rw [tab_len, tab_len, beq_self_eq_true, Bool.true_and]
def gput (g : Str → Addr) (o : Str) (p : Addr) : Str → Addr := fun x => if x = o then p else g x
theorem gput_tab (g : Str → Addr) (o : Str) (p : Addr) : put (fun o => V.ref (g o)) o (.ref p) = fun x => V.ref (gput g o p x) := by
  funext x
  unfold put gput
  split <;> rfl
def fput (fl : Str → Bool) (o : Str) (c : Bool) : Str → Bool := fun x => if x = o then c else fl x
theorem fput_tab (fl : Str → Bool) (o : Str) (c : Bool) : put (fun x => V.bl (fl x)) o (.bl c) = fun x => V.bl (fput fl o c x) := by
  funext x
  unfold put fput
  split <;> rfl
section
variable {P : Program} {w : World} {K : PySem.W.Frag} {mg : Str → Option Value} {base : Heap}
abbrev sBook___getitem__ : Stmt := meth 37 3
abbrev nBook___getitem__ : List Str := ["self", "operation"]
theorem scBook___getitem__ : FnScope nBook___getitem__ ["self", "operation"] (defScope sBook___getitem__) := ⟨rfl, rfl, rfl, by decide +kernel, rfl, by decide +kernel, by decide +kernel⟩
def spBkGet (K : PySem.W.Frag) (C CN : Addr) : Sp := fun vs H Q E => ∃ (b w f : Addr) (g : Str → Addr) (m : Str → List Str) (fl : Str → Bool) (v : V) (tn : String), vs = [.ref b, v] ∧ Bk K C H b w f g m fl ∧ Kd K H v tn ∧ (∀ o, v = .str o → o ∈ ops → Q (.ref (g o)) H) ∧ (isIn v ops = false → OutB CN "value" v H E)
theorem ok_bkget {C CN : Addr} (B : BF K mg C) (CCheck_operation : Ex.CalX P w K mg base 3 "check_operation" (spCheckOp K CN ops)) {f : Addr} {fd : FuncData} (D : Ob.MethAt K "__getitem__" "Book.__getitem__" sBook___getitem__ ["self", "operation"] f fd) :
    FnG P w K mg base (L2.CX P w) 4 f fd ["self", "operation"] (spBkGet K C CN) := by
  refine Ob.byGX D scBook___getitem__ (fun vs H Q E h => ?_) (fun cd A hg outer s H vs Q E hr h => ?_)
  · obtain ⟨_, _, _, _, _, _, _, _, rfl, _⟩ := h
    rfl
  · obtain ⟨b, w0, f0, g, m, fl, v, tn, rfl, bk, kd, q1, q2⟩ := h
    obtain ⟨dx, hb⟩ := bk.ins
    refine ⟨_, (pss_cons (ps_expr (Ex.pe_x CCheck_operation hg hr (by decide) (takes_of rfl rfl rfl rfl) (pa_cons (pv 1) pa_nil)))
  (pss_one (ps_ret (pe_dget (one_ hr.units) (pe_fld (pv 0) (by rfl)) (pv 1) (fun _ _ => rfl))))), ?_⟩
    repeat walk_at "rd"
    refine ⟨v, tn, rfl, kd, fun c => ?_, q2⟩
    obtain ⟨o, rfl, ho⟩ := isIn_str c
    repeat walk_at "rd"
    refine Rd.fldV rfl hb B.cl B.n1 rfl ?_
    repeat walk_at "rd"
    exact ⟨w0, _, rfl, get_tab bk.wd ho, q1 o rfl ho⟩
abbrev sBook___setitem__ : Stmt := meth 37 4
abbrev nBook___setitem__ : List Str := ["self", "operation", "ways"]
theorem scBook___setitem__ : FnScope nBook___setitem__ ["self", "operation", "ways"] (defScope sBook___setitem__) := ⟨rfl, rfl, rfl, by decide +kernel, rfl, by decide +kernel, by decide +kernel⟩
def spBkSet (K : PySem.W.Frag) (C CN CW : Addr) : Sp := fun vs H Q E => ∃ (b w f : Addr) (g : Str → Addr) (m : Str → List Str) (fl : Str → Bool) (v x : V) (tn : String), vs = [.ref b, v, x] ∧ Bk K C H b w f g m fl ∧ Kd K H v tn ∧ (isIn v ops = false → OutB CN "value" v H E) ∧
  ∀ o, v = .str o → o ∈ ops → (∃ tx, TyX K H x (.type tx) ∧ kitB tx "tuple" = some false ∧ OutB CW "operation" v H E) ∨
    ∃ (p : Addr) (xs : List V), x = .ref p ∧ SqT K H p xs ∧ xs.length ≤ 1000 ∧ (∀ y ∈ xs, ∀ H', Same H H' → ∃ tn, Kd K H' y tn) ∧ (waysOk o xs = false → OutB CW "operation" v H E) ∧ (waysOk o xs = true → ∀ H', Same H H' → Q .non (upd H' w (.dK (tab ops fun y => .ref (gput g o p y)))))
theorem ok_bkset (T : Txt K mg) {C CN CW : Addr} (B : BF K mg C) (T_NoWays : Ex.ErrC K mg "NoWays" "operation" CW) (M_NoWays : Ex.InitOk P w K mg base "operation" CW) (CCheck_operation : Ex.CalX P w K mg base 3 "check_operation" (spCheckOp K CN ops)) (CAre_ways : CalG P w K mg base 2 "are_ways" (spWays K)) {f : Addr} {fd : FuncData}
    (D : Ob.MethAt K "__setitem__" "Book.__setitem__" sBook___setitem__ ["self", "operation", "ways"] f fd) : FnG P w K mg base (L2.CX P w) 4 f fd ["self", "operation", "ways"] (spBkSet K C CN CW) := by
  refine Ob.byGX D scBook___setitem__ (fun vs H Q E h => ?_) (fun cd A hg outer s H vs Q E hr h => ?_)
  · obtain ⟨_, _, _, _, _, _, _, _, _, rfl, _⟩ := h
    rfl
  · obtain ⟨b, w0, f0, g, m, fl, v, x, tn, rfl, bk, kd, q1, q2⟩ := h
    obtain ⟨dx, hb⟩ := bk.ins
    refine ⟨_, (pss_cons (ps_expr (Ex.pe_x CCheck_operation hg hr (by decide) (takes_of rfl rfl rfl rfl) (pa_cons (pv 1) pa_nil)))
  (pss_cons (ps_if (pt_not (pt_val (pe_cG CAre_ways hg hr (by decide) (pa_cons (pv 1) (pa_cons (pv 2) pa_nil)))))
  (pss_one (ps_raise rfl (takes_of rfl rfl rfl rfl) (Ex.pmkE T_NoWays M_NoWays hr (by decide) (pa_cons (pv 1) pa_nil))))
  pss_nil)
  (pss_one (ps_asg (pe_callTy call_tuple_of (by rfl) T.tuple (by decide +kernel) (pa_cons (pv 2) pa_nil)) (pg_sub (pe_fld (pv 0) (by rfl)) (pv 1) (set_dict (one_ hr.units))))))), ?_⟩
    repeat walk_at "rd"
    refine ⟨v, tn, rfl, kd, fun c => ?_, q1⟩
    obtain ⟨o, rfl, ho⟩ := isIn_str c
    repeat walk_at "rd"
    have bad : ∀ H1, Same H H1 → OutB CW "operation" (.str o) H E → _ := fun H1 s1 q => Ex.made (Q := fun cls d H => E cls d H) (q.at s1 H1 (Same.refl _))
    rcases q2 o rfl ho with ⟨tx, ty, kt, q⟩ | ⟨p, xs, rfl, hp, hl, hk, qb, qg⟩
    · refine ⟨o, x, rfl, ho, .inl ⟨tx, ty, kt, ?_⟩⟩
      repeat walk_at "rd"
      refine Rd.tt_ (Ex.mk ?_)
      repeat walk_at "rd"
      exact bad H (Same.refl _) q
    · refine ⟨o, .ref p, rfl, ho, .inr ⟨p, xs, rfl, hp, hl, hk, fun H1 s1 => ?_⟩⟩
      repeat walk_at "rd"
      refine Rd.bool (fun c => ?_) (fun c => ?_)
      · have c' : waysOk o xs = false := by simpa using c
        refine Ex.mk ?_
        repeat walk_at "rd"
        exact bad H1 s1 (qb c')
      · have c' : waysOk o xs = true := by simpa using c
        repeat walk_at "rd"
        refine ⟨p, xs, rfl, .inr ⟨sqT_same s1 hp, ?_⟩⟩
        repeat walk_at "rd"
        refine Rd.fldV rfl (s1 _ _ hb) B.cl B.n1 rfl ?_
        repeat walk_at "rd"
        refine ⟨w0, _, rfl, .inl ⟨_, .inr o, s1 _ _ bk.wd, rfl, ?_, rfl⟩, ?_⟩
        · rw [tab_len]; exact Rd.szl (by decide)
        · rw [put_tab _ _ _ ho, gput_tab]
          exact qg c' H1 s1
def spFl (K : PySem.W.Frag) (C : Addr) (x : Str) : Sp := fun vs H Q _ => ∃ (b w f : Addr) (g : Str → Addr) (m : Str → List Str) (fl : Str → Bool), vs = [.ref b] ∧ Bk K C H b w f g m fl ∧ Q (.bl (fl x)) H
abbrev sBook_bars_hash : Stmt := meth 37 5
abbrev nBook_bars_hash : List Str := ["self"]
theorem scBook_bars_hash : FnScope nBook_bars_hash ["self"] (defScope sBook_bars_hash) := ⟨rfl, rfl, rfl, by decide +kernel, rfl, by decide +kernel, by decide +kernel⟩
theorem ok_bars {C : Addr} (B : BF K mg C) {f : Addr} {fd : FuncData} (D : Ob.MethAt K "bars_hash" "Book.bars_hash" sBook_bars_hash ["self"] f fd) : FnG P w K mg base CX0 1 f fd ["self"] (spFl K C "bars_hash") := by
  refine Ob.byG D scBook_bars_hash (fun vs H Q E h => ?_) (fun cd A hg outer s H vs Q E hr h => ?_)
  · obtain ⟨_, _, _, _, _, _, rfl, _⟩ := h
    rfl
  · obtain ⟨b, w0, f0, g, m, fl, rfl, bk, q⟩ := h
    obtain ⟨dx, hb⟩ := bk.ins
    refine ⟨_, (pss_one (ps_ret (pe_dget (one_ hr.units) (pe_fld (pv 0) (by rfl)) pe_str (fun _ _ => rfl)))), ?_⟩
    repeat walk_at "rd"
    refine Rd.fldV rfl hb B.cl B.n2 rfl ?_
    repeat walk_at "rd"
    exact ⟨f0, _, rfl, get_tab bk.fd (by decide), q⟩
abbrev sBook_ends_same : Stmt := meth 37 7
abbrev nBook_ends_same : List Str := ["self"]
theorem scBook_ends_same : FnScope nBook_ends_same ["self"] (defScope sBook_ends_same) := ⟨rfl, rfl, rfl, by decide +kernel, rfl, by decide +kernel, by decide +kernel⟩
theorem ok_same {C : Addr} (B : BF K mg C) {f : Addr} {fd : FuncData} (D : Ob.MethAt K "ends_same" "Book.ends_same" sBook_ends_same ["self"] f fd) : FnG P w K mg base CX0 1 f fd ["self"] (spFl K C "ends_same") := by
  refine Ob.byG D scBook_ends_same (fun vs H Q E h => ?_) (fun cd A hg outer s H vs Q E hr h => ?_)
  · obtain ⟨_, _, _, _, _, _, rfl, _⟩ := h
    rfl
  · obtain ⟨b, w0, f0, g, m, fl, rfl, bk, q⟩ := h
    obtain ⟨dx, hb⟩ := bk.ins
    refine ⟨_, (pss_one (ps_ret (pe_dget (one_ hr.units) (pe_fld (pv 0) (by rfl)) pe_str (fun _ _ => rfl)))), ?_⟩
    repeat walk_at "rd"
    refine Rd.fldV rfl hb B.cl B.n2 rfl ?_
    repeat walk_at "rd"
    exact ⟨f0, _, rfl, get_tab bk.fd (by decide), q⟩
abbrev sBook_ends_true : Stmt := meth 37 9
abbrev nBook_ends_true : List Str := ["self"]
theorem scBook_ends_true : FnScope nBook_ends_true ["self"] (defScope sBook_ends_true) := ⟨rfl, rfl, rfl, by decide +kernel, rfl, by decide +kernel, by decide +kernel⟩
theorem ok_true {C : Addr} (B : BF K mg C) {f : Addr} {fd : FuncData} (D : Ob.MethAt K "ends_true" "Book.ends_true" sBook_ends_true ["self"] f fd) : FnG P w K mg base CX0 1 f fd ["self"] (spFl K C "ends_true") := by
  refine Ob.byG D scBook_ends_true (fun vs H Q E h => ?_) (fun cd A hg outer s H vs Q E hr h => ?_)
  · obtain ⟨_, _, _, _, _, _, rfl, _⟩ := h
    rfl
  · obtain ⟨b, w0, f0, g, m, fl, rfl, bk, q⟩ := h
    obtain ⟨dx, hb⟩ := bk.ins
    refine ⟨_, (pss_one (ps_ret (pe_dget (one_ hr.units) (pe_fld (pv 0) (by rfl)) pe_str (fun _ _ => rfl)))), ?_⟩
    repeat walk_at "rd"
    refine Rd.fldV rfl hb B.cl B.n2 rfl ?_
    repeat walk_at "rd"
    exact ⟨f0, _, rfl, get_tab bk.fd (by decide), q⟩
abbrev sBook_set_flag : Stmt := meth 37 11
abbrev nBook_set_flag : List Str := ["self", "word", "value"]
theorem scBook_set_flag : FnScope nBook_set_flag ["self", "word", "value"] (defScope sBook_set_flag) := ⟨rfl, rfl, rfl, by decide +kernel, rfl, by decide +kernel, by decide +kernel⟩
def spSetFlag (K : PySem.W.Frag) (C CN CF : Addr) : Sp := fun vs H Q E => ∃ (b w f : Addr) (g : Str → Addr) (m : Str → List Str) (fl : Str → Bool) (v x : V) (tn tx : String), vs = [.ref b, v, x] ∧ Bk K C H b w f g m fl ∧ Kd K H v tn ∧ Kd K H x tx ∧ (isIn v flagsW = false → OutB CN "value" v H E) ∧
  ∀ o, v = .str o → o ∈ flagsW → (isBl x = false → OutB CF "value" x H E) ∧ ∀ c, x = .bl c → Q .non (upd H f (.dK (tab flagsW fun y => .bl (fput fl o c y))))
theorem ok_set_flag {C CN CF pO pM p_FLAGS : Addr} {gM : Str → Addr} (B : BF K mg C) (t : Tb K w mg pO pM p_FLAGS gM) (T_NoName : Ex.ErrC K mg "NoName" "value" CN) (M_NoName : Ex.InitOk P w K mg base "value" CN) (CIs_one_of : CalG P w K mg base 1 "is_one_of" (spOneOf K)) (CCheck_flag : Ex.CalX P w K mg base 3 "check_flag" (spFlag K CF))
    {f : Addr} {fd : FuncData} (D : Ob.MethAt K "set_flag" "Book.set_flag" sBook_set_flag ["self", "word", "value"] f fd) : FnG P w K mg base (L2.CX P w) 4 f fd ["self", "word", "value"] (spSetFlag K C CN CF) := by
  have g_FLAGS := t.f
  refine Ob.byGX D scBook_set_flag (fun vs H Q E h => ?_) (fun cd A hg outer s H vs Q E hr h => ?_)
  · obtain ⟨_, _, _, _, _, _, _, _, _, _, rfl, _⟩ := h
    rfl
  · obtain ⟨b, w0, f0, g, m, fl, v, x, tn, tx, rfl, bk, kd, kx, q1, q2⟩ := h
    obtain ⟨dx, hb⟩ := bk.ins
    refine ⟨_, (pss_cons (ps_if (pt_not (pt_val (pe_cG CIs_one_of hg hr (by decide) (pa_cons (pv 1) (pa_cons (pe_glob (v := .ref p_FLAGS) (by rfl) g_FLAGS rfl) pa_nil)))))
  (pss_one (ps_raise rfl (takes_of rfl rfl rfl rfl) (Ex.pmkE T_NoName M_NoName hr (by decide) (pa_cons (pv 1) pa_nil))))
  pss_nil)
  (pss_cons (ps_expr (Ex.pe_x CCheck_flag hg hr (by decide) (takes_of rfl rfl rfl rfl) (pa_cons (pv 2) pa_nil)))
  (pss_one (ps_asg (pv 2) (pg_sub (pe_fld (pv 0) (by rfl)) (pv 1) (set_dict (one_ hr.units))))))), ?_⟩
    repeat walk_at "rd"
    refine ⟨v, p_FLAGS, tn, flagsW, rfl, kd, t.tf H, ?_⟩
    repeat walk_at "rd"
    refine Rd.bool (fun c => ?_) (fun c => ?_)
    · have c' : isIn v flagsW = false := by simpa using c
      refine Ex.mk ?_
      repeat walk_at "rd"
      exact Ex.made (q1 c' H (Same.refl _))
    · have c' : isIn v flagsW = true := by simpa using c
      obtain ⟨o, rfl, ho⟩ := isIn_str c'
      obtain ⟨qb, qg⟩ := q2 o rfl ho
      repeat walk_at "rd"
      refine ⟨x, tx, rfl, kx, fun c => ?_, qb⟩
      obtain ⟨z, rfl⟩ : ∃ z, x = .bl z := by cases x <;> first | exact ⟨_, rfl⟩ | cases c
      repeat walk_at "rd"
      refine Rd.fldV rfl hb B.cl B.n2 rfl ?_
      repeat walk_at "rd"
      refine ⟨f0, _, rfl, .inl ⟨_, .inr o, bk.fd, rfl, ?_, rfl⟩, ?_⟩
      · rw [tab_len]; exact Rd.szl (by decide)
      · rw [put_tab _ _ _ ho, fput_tab]
        exact qg z rfl
abbrev sBook_twin : Stmt := meth 37 12
abbrev nBook_twin : List Str := ["self", "book"]
theorem scBook_twin : FnScope nBook_twin ["self"] (defScope sBook_twin) := ⟨rfl, rfl, rfl, by decide +kernel, rfl, by decide +kernel, by decide +kernel⟩
def spBkTwin (K : PySem.W.Frag) (C : Addr) : Sp := fun vs H Q _ => ∃ (b w f : Addr) (g : Str → Addr) (m : Str → List Str) (fl : Str → Bool), vs = [.ref b] ∧ Bk K C H b w f g m fl ∧ NewBk K C g m fl Q H
theorem ok_bktwin (T : Txt K mg) {C pO pM pF : Addr} {gM : Str → Addr} (B : BF K mg C) (t : Tb K w mg pO pM pF gM) (I_Book : Ob.MkCal P w K mg base CX0 C 1 "Book" (spBkInit C gM)) {f : Addr} {fd : FuncData} (D : Ob.MethAt K "twin" "Book.twin" sBook_twin ["self"] f fd) :
    FnG P w K mg base CX0 3 f fd ["self"] (spBkTwin K C) := by
  refine Ob.byG D scBook_twin (fun vs H Q E h => ?_) (fun cd A hg outer s H vs Q E hr h => ?_)
  · obtain ⟨_, _, _, _, _, _, rfl, _⟩ := h
    rfl
  · obtain ⟨b, w0, f0, g, m, fl, rfl, bk, q⟩ := h
    obtain ⟨dx, hb⟩ := bk.ins
    refine ⟨_, (pss_cons (ps_set (i := 1) scBook_twin.nd rfl (Or.inl rfl) (Ob.make0 I_Book hg hr (by decide) pass0))
  (pss_cons (ps_fld (pv 1) (pe_callTy (r := Od2.rDictD) Od2.call_dict (by rfl) T.dict (by decide +kernel) (pa_cons (pe_fld (pv 0) (by rfl)) pa_nil)) (by rfl))
  (pss_cons (ps_fld (pv 1) (pe_callTy (r := Od2.rDictD) Od2.call_dict (by rfl) T.dict (by decide +kernel) (pa_cons (pe_fld (pv 0) (by rfl)) pa_nil)) (by rfl))
  (pss_one (ps_ret (pv 1)))))), ?_⟩
    repeat walk_at "rd"
    refine mkBk (fun o ho => (t.tm o ho).2) fun b1 w1 f1 H1 s1 nb nw nf bk1 => ?_
    obtain ⟨dx1, hb1⟩ := bk1.ins
    have bb : b ≠ b1 := fun e => by rw [e, nb] at hb; cases hb
    have keep : ∀ {H2 : Hp} {a : Addr}, Same H1 H2 → H2 a = none → H a = none := fun s2 e => by
      cases z : H _ with
      | none => rfl
      | some u => rw [s2 _ _ (s1 _ _ z)] at e; cases e
    repeat walk_at "rd"
    refine Rd.fldV rfl (s1 _ _ hb) B.cl B.n1 rfl ?_
    repeat walk_at "rd"
    refine ⟨w0, _, rfl, .inl (s1 _ _ bk.wd), fun d hd => ?_⟩
    have s2 := Rd.sNew (o := .dK (tab ops fun o => .ref (g o))) hd
    repeat walk_at "rd"
    refine ⟨b1, C, dx1, _, rfl, s2 _ _ hb1, B.cl, B.n1, by simp, ?_⟩
    have e1 : putF "_ways" (.ref d) [(("_ways" : Str), V.ref w1), (("_flags" : Str), V.ref f1)] = [(("_ways" : Str), V.ref d), (("_flags" : Str), V.ref f1)] := rfl
    rw [e1]
    have d1 : d ≠ b1 := fun e => by rw [e, hb1] at hd; cases hd
    repeat walk_at "rd"
    refine Rd.fldV rfl (by rw [upd_ne bb]; exact s2 _ _ (s1 _ _ hb)) B.cl B.n2 rfl ?_
    repeat walk_at "rd"
    have ff : f0 ≠ b1 := fun e => by have := bk.fd; rw [e, nb] at this; cases this
    refine ⟨f0, _, rfl, .inl (by rw [upd_ne ff]; exact s2 _ _ (s1 _ _ bk.fd)), fun e he => ?_⟩
    have eb : e ≠ b1 := fun z => by rw [z, upd_same] at he; cases he
    rw [upd_ne eb] at he
    have ed : e ≠ d := fun z => by rw [z, upd_same] at he; cases he
    rw [upd_ne ed] at he
    repeat walk_at "rd"
    refine ⟨b1, C, dx1, _, rfl, by rw [upd_ne (fun z => eb z.symm), upd_same], B.cl, B.n2, by simp, ?_⟩
    have e2 : putF "_flags" (.ref e) [(("_ways" : Str), V.ref d), (("_flags" : Str), V.ref f1)] = [(("_ways" : Str), V.ref d), (("_flags" : Str), V.ref e)] := rfl
    rw [e2]
    repeat walk_at "rd"
    have fin : Same H (upd (upd (upd (upd H1 d (.dK (tab ops fun o => .ref (g o)))) b1 (.ins C dx1 [("_ways", .ref d), ("_flags", .ref f1)])) e (.dK (tab flagsW fun x => .bl (fl x)))) b1 (.ins C dx1 [("_ways", .ref d), ("_flags", .ref e)])) := fun a u z => by
      have z1 := s1 _ _ z
      rw [upd_ne (ne_of_none z nb), upd_ne (ne_of_none z1 he), upd_ne (ne_of_none z nb), upd_ne (ne_of_none z1 hd)]
      exact z1
    refine q b1 d e _ fin nb (keep (Same.refl _) hd) (keep (Same.refl _) he) ⟨⟨dx1, upd_same⟩, ?_, ?_, fun o ho => sqT_same fin (bk.tp o ho), fun z => ed z.symm⟩
    · rw [upd_ne d1, upd_ne (fun z => ed z.symm), upd_ne d1, upd_same]
    · rw [upd_ne eb, upd_same]
abbrev sBook___len__ : Stmt := meth 37 16
abbrev nBook___len__ : List Str := ["self"]
theorem scBook___len__ : FnScope nBook___len__ ["self"] (defScope sBook___len__) := ⟨rfl, rfl, rfl, by decide +kernel, rfl, by decide +kernel, by decide +kernel⟩
def spBkLen (K : PySem.W.Frag) (C : Addr) : Sp := fun vs H Q _ => ∃ (b w f : Addr) (g : Str → Addr) (m : Str → List Str) (fl : Str → Bool), vs = [.ref b] ∧ Bk K C H b w f g m fl ∧ Q (.int 12) H
theorem ok_bklen (T : Txt K mg) {C : Addr} (B : BF K mg C) {f : Addr} {fd : FuncData} (D : Ob.MethAt K "__len__" "Book.__len__" sBook___len__ ["self"] f fd) : FnG P w K mg base CX0 1 f fd ["self"] (spBkLen K C) := by
  refine Ob.byG D scBook___len__ (fun vs H Q E h => ?_) (fun cd A hg outer s H vs Q E hr h => ?_)
  · obtain ⟨_, _, _, _, _, _, rfl, _⟩ := h
    rfl
  · obtain ⟨b, w0, f0, g, m, fl, rfl, bk, q⟩ := h
    obtain ⟨dx, hb⟩ := bk.ins
    refine ⟨_, (pss_one (ps_ret (pe_callB call_lenD (by rfl) T.len PySem.boot_len (pa_cons (pe_fld (pv 0) (by rfl)) pa_nil)))), ?_⟩
    repeat walk_at "rd"
    refine Rd.fldV rfl hb B.cl B.n1 rfl ?_
    repeat walk_at "rd"
    refine ⟨w0, _, rfl, bk.wd, ?_⟩
    rw [tab_len]
    exact q
/-- what isinstance asks of the class -/
structure BkIC (K : PySem.W.Frag) (C : Addr) : Prop where
  hc : PySem.W.findIn K (.ref C) "__class__" = some (some (.builtin "object.__class__"))
  hs : PySem.W.specialIn K (.builtin "object.__class__") "__get__" = some (some (.builtin "getset_descriptor.__get__"))
  ht : PySem.W.takesIn K (.builtin "object.__class__") = some true
theorem bk_ty {C : Addr} (B : BF K mg C) (c : BkIC K C) {H : Hp} {b w f : Addr} {g : Str → Addr} {m : Str → List Str} {fl : Str → Bool} (bk : Bk K C H b w f g m fl) : TyX K H (.ref b) (.ref C) := by
  obtain ⟨dx, hb⟩ := bk.ins
  exact .base (.ins hb B.cl c.hc c.hs c.ht B.ob)
theorem kit_self {C : Addr} : PySem.W.kitOne K (.ref C) (.ref C) = some true := by
  show (if (Value.ref C == Value.ref C) = true then some true else _) = _
  rw [if_pos (beq_self_eq_true _)]
def bookEq (m m' : Str → List Str) (fl fl' : Str → Bool) : Bool := eqWays m m' && eqFlags fl fl'
abbrev sBook___eq__ : Stmt := meth 37 14
abbrev nBook___eq__ : List Str := ["self", "other"]
theorem scBook___eq__ : FnScope nBook___eq__ ["self", "other"] (defScope sBook___eq__) := ⟨rfl, rfl, rfl, by decide +kernel, rfl, by decide +kernel, by decide +kernel⟩
def spBkEq (K : PySem.W.Frag) (C : Addr) : Sp := fun vs H Q _ => ∃ (b w f : Addr) (g : Str → Addr) (m : Str → List Str) (fl : Str → Bool) (y : V), vs = [.ref b, y] ∧ Bk K C H b w f g m fl ∧ OkM m ∧
  ((∃ t, TyX K H y t ∧ PySem.W.kitOne K t (.ref C) = some false ∧ Q (.bl false) H) ∨ ∃ (c w' f' : Addr) (g' : Str → Addr) (m' : Str → List Str) (fl' : Str → Bool), y = .ref c ∧ Bk K C H c w' f' g' m' fl' ∧ OkM m' ∧ Q (.bl (bookEq m m' fl fl')) H)
theorem ok_bkeq (T : Txt K mg) {C_Book : Addr} (K_Book : BF K mg C_Book) (ic : BkIC K C_Book) {f : Addr} {fd : FuncData} (D : Ob.MethAt K "__eq__" "Book.__eq__" sBook___eq__ ["self", "other"] f fd) : FnG P w K mg base CX0 1 f fd ["self", "other"] (spBkEq K C_Book) := by
  refine Ob.byG D scBook___eq__ (fun vs H Q E h => ?_) (fun cd A hg outer s H vs Q E hr h => ?_)
  · obtain ⟨_, _, _, _, _, _, _, rfl, _⟩ := h
    rfl
  · obtain ⟨b, w0, f0, g, m, fl, y, rfl, bk, om, h⟩ := h
    obtain ⟨dx, hb⟩ := bk.ins
    refine ⟨_, (pss_one (ps_ret (pe_and (pe_callB (r := rIsi K) call_isi (by rfl) T.isinstance (by decide +kernel) (pa_cons (pv 1) (pa_cons (pe_glob (v := .ref C_Book) (by rfl) K_Book.g rfl) pa_nil))) (pe_and (pe_cmpR (r := Ob.rEqX K false) (Ob.op_eqX (un80 hr)) (pe_fld (pv 0) (by rfl)) (pe_fld (pv 1) (by rfl)) (nomark _)) (pe_one (pe_cmpR (r := Ob.rEqX K false) (Ob.op_eqX (un80 hr)) (pe_fld (pv 0) (by rfl)) (pe_fld (pv 1) (by rfl)) (nomark _))))))), ?_⟩
    repeat walk_at "rd"
    rcases h with ⟨t, ty, kt, q⟩ | ⟨c, w', f', g', m', fl', rfl, bk', om', q⟩
    · refine ⟨y, .ref C_Book, t, .ref C_Book, false, rfl, .own _, ty, kt, ?_⟩
      repeat walk_at "rd"
      exact Rd.ff_ q
    · obtain ⟨dy, hc⟩ := bk'.ins
      refine ⟨.ref c, .ref C_Book, .ref C_Book, .ref C_Book, true, rfl, .own _, bk_ty K_Book ic bk', kit_self, ?_⟩
      repeat walk_at "rd"
      refine Rd.tt_ ?_
      repeat walk_at "rd"
      refine Rd.fldV rfl hb K_Book.cl K_Book.n1 rfl ?_
      refine Rd.fldV rfl hc K_Book.cl K_Book.n1 rfl ?_
      obtain ⟨ks, ls, r, h1, h2, h3, h4⟩ := eq_ways bk.wd bk'.wd bk.tp bk'.tp om om'
      refine ⟨w0, w', ks, ls, r, rfl, rfl, h1, h2, h3, ?_⟩
      rw [if_neg Bool.false_ne_true, h4]
      refine ⟨_, rfl, ?_⟩
      refine Rd.bool (fun c => ?_) (fun c => ?_)
      · repeat walk_at "rd"
        refine Rd.fldV rfl hb K_Book.cl K_Book.n2 rfl ?_
        refine Rd.fldV rfl hc K_Book.cl K_Book.n2 rfl ?_
        obtain ⟨ks, ls, r, h1, h2, h3, h4⟩ := eq_flags (K := K) bk.fd bk'.fd
        refine ⟨f0, f', ks, ls, r, rfl, rfl, h1, h2, h3, ?_⟩
        rw [if_neg Bool.false_ne_true, h4]
        rw [bookEq, c, Bool.true_and] at q
        exact q
      · rw [bookEq, c, Bool.false_and] at q
        exact q
end
end Ab
namespace Ab
open PySem.Spec PyProof.Rows
mutual
theorem okU_lay : ∀ d : PyData, okU d = true → PyData.canLay0 d = true
  | .none, _ => by simp [PyData.canLay0]
  | .bool b, _ => by simp [PyData.canLay0]
  | .int i, _ => by simp [PyData.canLay0]
  | .str z, h => by simpa [PyData.canLay0, okU] using h
  | .list xs, h => by simpa [PyData.canLay0] using okUA_lay xs (by simpa [okU] using h)
  | .tuple xs, h => by simpa [PyData.canLay0] using okUA_lay xs (by simpa [okU] using h)
  | .dict xs, h => by simp [okU] at h
theorem okUA_lay : ∀ ds : List PyData, okUA ds = true → PyData.canLayAll0 ds = true
  | [], _ => by simp [PyData.canLayAll0]
  | x :: xs, h => by
    rw [okUA, Bool.and_eq_true] at h
    simp [PyData.canLayAll0, okU_lay x h.1, okUA_lay xs h.2]
end
theorem nd_depth : ∀ nd : Nd, PyData.depth nd.d ≤ nd.dep
  | .word z => by simp [Nd.d, Nd.dep, PyData.depth, PyData.depthAll]
  | .cnt i => by simp [Nd.d, Nd.dep, PyData.depth, PyData.depthAll]
  | .ask1 o r => by simp [Nd.d, Nd.dep, PyData.depth, PyData.depthAll]
  | .ask2 o r q => by simp [Nd.d, Nd.dep, PyData.depth, PyData.depthAll]
  | .no a => by
    have := nd_depth a
    simp only [Nd.d, Nd.dep, PyData.depth, PyData.depthAll]
    omega
  | .iff a b c => by
    have := nd_depth a
    have := nd_depth b
    have := nd_depth c
    simp only [Nd.d, Nd.dep, PyData.depth, PyData.depthAll]
    omega
theorem roles_two {m r : Str} (h : r ∈ rolesOf m) : r ∈ (["self", "other"] : List Str) := by
  unfold rolesOf at h
  split at h
  · exact h
  · have := List.mem_singleton.mp h
    subst this
    decide +kernel
theorem leaf_word : ∀ z ∈ (["yes", "no", "raise", "further", "decline"] : List Str), okU (.tuple [.str z]) = true := by decide +kernel
theorem leaf_ask1 : ∀ o ∈ askOne, ∀ r ∈ (["self", "other"] : List Str), okU (.tuple [.str "ask", .str o, .str r]) = true := by decide +kernel
theorem leaf_ask2 : ∀ o ∈ askTwo, ∀ r ∈ (["self", "other"] : List Str), ∀ q ∈ (["self", "other"] : List Str), okU (.tuple [.str "ask", .str o, .str r, .str q]) = true := by decide +kernel
theorem leaf_cnt : ∀ i ∈ ([0, 1, 2, 3, 4] : List Int), okU (.tuple [.str "count", .int i]) = true := by decide +kernel
theorem all_okU {m : Str} : ∀ (nd : Nd) (t : Bool), nd.all m t = true → okU nd.d = true
  | .word z, t, h => leaf_word z (of_decide_eq_true (show decide (z ∈ (["yes", "no", "raise", "further", "decline"] : List Str)) = true from top_wd (nd := .word z) h))
  | .cnt i, t, h => by
    have h : (decide (0 ≤ i) && decide (i ≤ 4)) = true := h
    simp only [Bool.and_eq_true, decide_eq_true_eq] at h
    refine leaf_cnt i ?_
    simp only [List.mem_cons, List.not_mem_nil, or_false]
    omega
  | .ask1 o r, t, h => by
    have h : (decide (o ∈ askOne) && decide (r ∈ rolesOf m)) = true := h
    simp only [Bool.and_eq_true, decide_eq_true_eq] at h
    exact leaf_ask1 o h.1 r (roles_two h.2)
  | .ask2 o r q, t, h => by
    have h : (decide (o ∈ askTwo) && decide (r ∈ rolesOf m) && decide (q ∈ rolesOf m) && decide (r ≠ q)) = true := h
    simp only [Bool.and_eq_true, decide_eq_true_eq] at h
    exact leaf_ask2 o h.1.1.1 r (roles_two h.1.1.2) q (roles_two h.1.2)
  | .no a, t, h => by
    have h1 := all_okU a false h
    have e : okU (.str "not") = true := by decide +kernel
    simp only [Nd.d, okU, okUA] at h1 e ⊢
    rw [h1, e]
    rfl
  | .iff a b c, t, h => by
    have h : (a.all m false && b.all m t && c.all m t) = true := h
    rw [Bool.and_eq_true, Bool.and_eq_true] at h
    have h1 := all_okU a false h.1.1
    have h2 := all_okU b t h.1.2
    have h3 := all_okU c t h.2
    have e : okU (.str "if") = true := by decide +kernel
    simp only [Nd.d, okU, okUA] at h1 h2 h3 e ⊢
    rw [h1, h2, h3, e]
    rfl
theorem word_out : ∀ z ∈ (["yes", "no", "raise", "further", "decline"] : List Str), z ∉ partW ∧ z ≠ "count" ∧ z ≠ "ask" := by decide +kernel
theorem dep1 (nd : Nd) : 1 ≤ nd.dep := dep_pos nd
theorem size1 (nd : Nd) : 1 ≤ nd.size := by cases nd <;> simp [Nd.size]
theorem node_good {m : Str} {t : Bool} {nd : Nd} (h : nd.all m t = true) : nodeD m t nd.d = true := by
  cases nd with
  | word z =>
    have w := of_decide_eq_true (show decide (z ∈ (["yes", "no", "raise", "further", "decline"] : List Str)) = true from top_wd (nd := .word z) h)
    obtain ⟨h1, h2, h3⟩ := word_out z w
    have h1 : z ≠ "not" ∧ z ≠ "if" := by simpa [partW, not_or] using h1
    show wordD m z [] t = true
    unfold wordD
    rw [if_neg h1.1, if_neg h1.2, if_neg h2, if_neg h3]
    exact h
  | cnt i => exact h
  | ask1 o r =>
    have h : (decide (o ∈ askOne) && decide (r ∈ rolesOf m)) = true := h
    exact h
  | ask2 o r q =>
    have h : (decide (o ∈ askTwo) && decide (r ∈ rolesOf m) && decide (q ∈ rolesOf m) && decide (r ≠ q)) = true := h
    show (decide (o ∈ askTwo) && decide (r ∈ rolesOf m) && decide (q ∈ rolesOf m) && !(PyData.eqv (.str r) (.str q))) = true
    rw [eqv_str]
    simp only [Bool.and_eq_true, decide_eq_true_eq] at h
    simp [h]
  | no a => rfl
  | iff a b c => rfl
theorem wrF_good {m : Str} : ∀ (nd : Nd) (t : Bool) (f k : Nat), nd.all m t = true → nd.dep ≤ f → nd.size ≤ k → wrF m f nd.d t k = (none, k - nd.size)
  | nd, t, 0, k, h, hf, hk => absurd hf (by have := dep1 nd; omega)
  | .word z, t, f + 1, k, h, hf, hk => by
    have s1 := size1 (.word z)
    rw [wrF, if_neg (fun e => e.elim (fun e => by omega) fun e => by rw [node_good h] at e; cases e)]
    have w := of_decide_eq_true (show decide (z ∈ (["yes", "no", "raise", "further", "decline"] : List Str)) = true from top_wd (nd := .word z) h)
    have e : kidsD (Nd.word z).d = [] := if_neg (word_out z w).1
    rw [e]
    rfl
  | .cnt i, t, f + 1, k, h, hf, hk => by
    have s1 := size1 (.cnt i)
    rw [wrF, if_neg (fun e => e.elim (fun e => by omega) fun e => by rw [node_good h] at e; cases e)]
    rfl
  | .ask1 o r, t, f + 1, k, h, hf, hk => by
    have s1 := size1 (.ask1 o r)
    rw [wrF, if_neg (fun e => e.elim (fun e => by omega) fun e => by rw [node_good h] at e; cases e)]
    rfl
  | .ask2 o r q, t, f + 1, k, h, hf, hk => by
    have s1 := size1 (.ask2 o r q)
    rw [wrF, if_neg (fun e => e.elim (fun e => by omega) fun e => by rw [node_good h] at e; cases e)]
    rfl
  | .no a, t, f + 1, k, h, hf, hk => by
    have s1 := size1 (.no a)
    have h2 : a.all m false = true := h
    have hf : a.dep + 1 ≤ f + 1 := hf
    have hk : a.size + 1 ≤ k := hk
    rw [wrF, if_neg (fun e => e.elim (fun e => by omega) fun e => by rw [node_good h] at e; cases e)]
    show foldW (wrF m f) [(a.d, false)] (k - 1) = _
    have ih := wrF_good a false f (k - 1) h2 (by omega) (by omega)
    rw [foldW]
    show (match wrF m f a.d false (k - 1) with | (some n, k') => (some n, k') | (none, k') => foldW (wrF m f) [] k') = _
    rw [ih]
    show (none, k - 1 - a.size) = (none, k - (a.size + 1))
    rw [show k - 1 - a.size = k - (a.size + 1) by omega]
  | .iff a b c, t, f + 1, k, h, hf, hk => by
    have s1 := size1 (.iff a b c)
    have h2 : (a.all m false && b.all m t && c.all m t) = true := h
    rw [Bool.and_eq_true, Bool.and_eq_true] at h2
    have hf : max a.dep (max b.dep c.dep) + 1 ≤ f + 1 := hf
    have hk : a.size + b.size + c.size + 1 ≤ k := hk
    rw [wrF, if_neg (fun e => e.elim (fun e => by omega) fun e => by rw [node_good h] at e; cases e)]
    show foldW (wrF m f) [(a.d, false), (b.d, t), (c.d, t)] (k - 1) = _
    have i1 := wrF_good a false f (k - 1) h2.1.1 (by omega) (by omega)
    have i2 := wrF_good b t f (k - 1 - a.size) h2.1.2 (by omega) (by omega)
    have i3 := wrF_good c t f (k - 1 - a.size - b.size) h2.2 (by omega) (by omega)
    rw [foldW]
    show (match wrF m f a.d false (k - 1) with | (some n, k') => (some n, k') | (none, k') => foldW (wrF m f) [(b.d, t), (c.d, t)] k') = _
    rw [i1]
    show foldW (wrF m f) [(b.d, t), (c.d, t)] (k - 1 - a.size) = _
    rw [foldW]
    show (match wrF m f b.d t (k - 1 - a.size) with | (some n, k') => (some n, k') | (none, k') => foldW (wrF m f) [(c.d, t)] k') = _
    rw [i2]
    show foldW (wrF m f) [(c.d, t)] (k - 1 - a.size - b.size) = _
    rw [foldW]
    show (match wrF m f c.d t (k - 1 - a.size - b.size) with | (some n, k') => (some n, k') | (none, k') => foldW (wrF m f) [] k') = _
    rw [i3]
    show (none, k - 1 - a.size - b.size - c.size) = (none, k - (a.size + b.size + c.size + 1))
    rw [show k - 1 - a.size - b.size - c.size = k - (a.size + b.size + c.size + 1) by omega]
theorem goW_good {m : Str} {nd : Nd} (ok : BdOk m nd) : goW m 16 [(nd.d, 1, true)] = none := by
  rw [goW_top, wrF_good nd true 6 16 ok.all ok.dep ok.size]
theorem d_inj : ∀ {a b : Nd}, a.d = b.d → a = b
  | .no a, .no b, h => by
    have h : PyData.tuple [.str "not", a.d] = .tuple [.str "not", b.d] := h
    injection h with h
    have := (List.cons.inj (List.cons.inj h).2).1
    rw [d_inj this]
  | .iff a b c, .iff a' b' c', h => by
    have h : PyData.tuple [.str "if", a.d, b.d, c.d] = .tuple [.str "if", a'.d, b'.d, c'.d] := h
    injection h with h
    have h1 := List.cons.inj (List.cons.inj h).2
    have h2 := List.cons.inj h1.2
    have h3 := List.cons.inj h2.2
    rw [d_inj h1.1, d_inj h2.1, d_inj h3.1]
  | .word z, b, h => by cases b <;> simp [Nd.d] at h <;> simp [h]
  | .cnt i, b, h => by cases b with
    | no a => simp only [Nd.d, PyData.tuple.injEq, List.cons.injEq, PyData.str.injEq] at h; exact absurd h.1 (by decide +kernel)
    | _ => simp [Nd.d] at h <;> simp [h]
  | .ask1 o r, b, h => by cases b <;> simp [Nd.d] at h <;> simp [h]
  | .ask2 o r q, b, h => by cases b with
    | iff a b c => simp only [Nd.d, PyData.tuple.injEq, List.cons.injEq, PyData.str.injEq] at h; exact absurd h.1 (by decide +kernel)
    | _ => simp [Nd.d] at h <;> simp [h]
  | .no a, .word _, h => by simp [Nd.d] at h
  | .no a, .cnt _, h => by simp only [Nd.d, PyData.tuple.injEq, List.cons.injEq, PyData.str.injEq] at h; exact absurd h.1 (by decide +kernel)
  | .no a, .ask1 _ _, h => by simp [Nd.d] at h
  | .no a, .ask2 _ _ _, h => by simp [Nd.d] at h
  | .no a, .iff _ _ _, h => by simp [Nd.d] at h
  | .iff a b c, .word _, h => by simp [Nd.d] at h
  | .iff a b c, .cnt _, h => by simp [Nd.d] at h
  | .iff a b c, .ask1 _ _, h => by simp [Nd.d] at h
  | .iff a b c, .ask2 _ _ _, h => by simp only [Nd.d, PyData.tuple.injEq, List.cons.injEq, PyData.str.injEq] at h; exact absurd h.1 (by decide +kernel)
  | .iff a b c, .no _, h => by simp [Nd.d] at h
theorem nd_wid : ∀ nd : Nd, wid nd.d ≤ 4
  | .word z => by simp [Nd.d, wid, widA]
  | .cnt i => by simp [Nd.d, wid, widA]
  | .ask1 o r => by simp [Nd.d, wid, widA]
  | .ask2 o r q => by simp [Nd.d, wid, widA]
  | .no a => by
    have := nd_wid a
    simp only [Nd.d, wid, widA, List.length_cons, List.length_nil]
    omega
  | .iff a b c => by
    have := nd_wid a
    have := nd_wid b
    have := nd_wid c
    simp only [Nd.d, wid, widA, List.length_cons, List.length_nil]
    omega
theorem bdok_uni {m : Str} {nd : Nd} (ok : BdOk m nd) : Uni nd.d := ⟨all_okU nd true ok.all, by have := nd_wid nd; omega, by have := nd_depth nd; have := ok.dep; omega⟩
theorem nd_shp {m : Str} {nd : Nd} (ok : BdOk m nd) : SeqAt.shaped nd.d = true := by
  show (PyData.canLay0 nd.d && decide (PyData.depth nd.d ≤ 64)) = true
  rw [okU_lay _ (all_okU nd true ok.all), decide_eq_true (by have := nd_depth nd; have := ok.dep; omega)]; rfl
theorem nd_eqv {m : Str} {nd : Nd} (ok : BdOk m nd) : PyData.eqv nd.d nd.d = true := SeqAt.eqv_refl _ (SeqAt.canLay_of_shaped (nd_shp ok))
/-- what isinstance knows of the class Body -/
structure BIC (K : PySem.W.Frag) (C : Addr) : Prop where
  hc : PySem.W.findIn K (.ref C) "__class__" = some (some (.builtin "object.__class__"))
  hs : PySem.W.specialIn K (.builtin "object.__class__") "__get__" = some (some (.builtin "getset_descriptor.__get__"))
  ht : PySem.W.takesIn K (.builtin "object.__class__") = some true
theorem meth_in : ∀ z ∈ methods, PyData.strOk z = true := by decide +kernel
theorem meth_shaped {z : Str} (h : z ∈ methods) : SeqAt.shaped (.str z) = true := by
  show (PyData.canLay0 (.str z) && decide (PyData.depth (.str z) ≤ 64)) = true
  rw [show PyData.canLay0 (.str z) = true from by simpa [PyData.canLay0] using meth_in z h]
  simp [PyData.depth]
section
variable {P : Program} {w : World} {K : PySem.W.Frag} {mg : Str → Option Value} {base : Heap} {C : Addr}
theorem bd_ty (B : BdF K mg C) (c : BIC K C) {H : Hp} {b L : Addr} {m : Str} {v : V} {nd : Nd} (bk : BdA K C H b L m v nd) : TyX K H (.ref b) (.ref C) := by
  obtain ⟨dx, hb⟩ := bk.ins
  exact .base (.ins hb B.cl c.hc c.hs c.ht B.ob)
abbrev sBody___eq__ : Stmt := meth 56 2
abbrev nBody___eq__ : List Str := ["self", "other"]
theorem scBody___eq__ : FnScope nBody___eq__ ["self", "other"] (defScope sBody___eq__) := ⟨rfl, rfl, rfl, by decide +kernel, rfl, by decide +kernel, by decide +kernel⟩
def spBEq (K : PySem.W.Frag) (C : Addr) : Sp := fun vs H Q _ => ∃ (b L : Addr) (m : Str) (v : V) (nd : Nd) (b2 L2 : Addr) (m2 : Str) (v2 : V) (nd2 : Nd), vs = [.ref b, .ref b2] ∧ BdA K C H b L m v nd ∧ BdOk m nd ∧ BdA K C H b2 L2 m2 v2 nd2 ∧ BdOk m2 nd2 ∧ Q (.bl (decide (m = m2) && PyData.eqv nd.d nd2.d)) H
theorem ok_beq (T : Txt K mg) {C_Body : Addr} (K_Body : BdF K mg C_Body) (ic : BIC K C_Body) {f : Addr} {fd : FuncData} (D : Ob.MethAt K "__eq__" "Body.__eq__" sBody___eq__ ["self", "other"] f fd) : FnG P w K mg base CX0 1 f fd ["self", "other"] (spBEq K C_Body) := by
  refine Ob.byG D scBody___eq__ (fun vs H Q E h => ?_) (fun cd A hg outer s H vs Q E hr h => ?_)
  · obtain ⟨_, _, _, _, _, _, _, _, _, _, rfl, _⟩ := h
    rfl
  · obtain ⟨b, L, m, v, nd, b2, L2, m2, v2, nd2, rfl, bk, bd, bk', bd', q⟩ := h
    obtain ⟨dx, hb⟩ := bk.ins
    refine ⟨_, (pss_one (ps_ret (pe_and (pe_callB (r := rIsi K) call_isi (by rfl) T.isinstance (by decide +kernel) (pa_cons (pv 1) (pa_cons (pe_glob (v := .ref C_Body) (by rfl) K_Body.g rfl) pa_nil))) (pe_and (pe_cmpR (r := rEqD K) (op_eqD hr.units) (pe_fld (pv 0) (by rfl)) (pe_fld (pv 1) (by rfl)) (nomark _)) (pe_one (pe_cmpR (r := rEqD K) (op_eqD hr.units) (pe_fld (pv 0) (by rfl)) (pe_fld (pv 1) (by rfl)) (nomark _))))))), ?_⟩
    repeat walk_at "rd"
    obtain ⟨dy, hc⟩ := bk'.ins
    refine ⟨.ref b2, .ref C_Body, .ref C_Body, .ref C_Body, true, rfl, .own _, bd_ty K_Body ic bk', kit_self, ?_⟩
    repeat walk_at "rd"
    refine Rd.tt_ ?_
    repeat walk_at "rd"
    refine Rd.fldV rfl hb K_Body.cl K_Body.n1 rfl ?_
    refine Rd.fldV rfl hc K_Body.cl K_Body.n1 rfl ?_
    refine Rd.eqD (d := .str m) (e := .str m2) (.str _) (.str _) (meth_shaped bd.mm) (meth_shaped bd'.mm) ?_
    rw [eqv_str]
    refine ⟨_, rfl, ?_⟩
    refine Rd.bool (fun c => ?_) (fun c => ?_)
    · rw [c, Bool.true_and] at q
      repeat walk_at "rd"
      refine Rd.fldV rfl hb K_Body.cl K_Body.n2 rfl ?_
      refine Rd.fldV rfl hc K_Body.cl K_Body.n2 rfl ?_
      exact Rd.eqD bk.dp bk'.dp (nd_shp bd) (nd_shp bd') q
    · rw [c, Bool.false_and] at q
      exact q
/-- body != y, of two bodies that are equal -/
theorem neB {H : Hp} {Q : VK} {b L b2 L2 : Addr} {m : Str} {v v2 : V} {nd : Nd} (B : BdF K mg C) (ic : BIC K C) (k : BdA K C H b L m v nd) (d : BdOk m nd) (k' : BdA K C H b2 L2 m v2 nd) (q : Q (.bl false) H) : Ob.rEqO K C (spBEq K C) true (.ref b) (.ref b2) H Q := by
  obtain ⟨dx, hb⟩ := k.ins
  refine ⟨b, dx, _, .ref C, rfl, hb, bd_ty B ic k', by show (Value.ref C == Value.ref C || _) = true; simp, b, L, m, v, nd, b2, L2, m, v2, nd, rfl, k, d, k', d, _, rfl, ?_⟩
  rw [if_pos rfl, decide_eq_true rfl, nd_eqv d]
  exact q
def orR (r1 r2 : R2) : R2 := fun x y H Q => r1 x y H Q ∨ r2 x y H Q
theorem orOp {X : Cx} {op : Value → Value → Sem Value} {r1 r2 : R2} (h1 : OpR X op r1) (h2 : OpR X op r2) : OpR X op (orR r1 r2) := by
  intro pins s σ H x y v u Q I rx ry h
  exact h.elim (h1 pins s σ H x y v u Q I rx ry) (h2 pins s σ H x y v u Q I rx ry)
/-- a body made -/
theorem mkB {CN CB : Addr} {H1 : Hp} {R : Addr → Hp → Prop} {E : XK} {m : Str} {v : V} {nd : Nd} (ok : BdOk m nd) (dp : Dp K H1 v nd.d) (hq : ∀ b L H', Same H1 H' → H1 b = none → BdA K C H' b L m v nd → R b H') :
    ∀ x dx, H1 x = none → H1 dx = none → dx ≠ x → spBInit K C CN CB (.ref x :: ([.str m, v] ++ [])) (upd (upd H1 dx (.own x)) x (.ins C dx [])) (fun v H2 => v = .non ∧ R x H2) E := by
  intro b dx hb hdx nb
  have s1 : Same H1 (upd (upd H1 dx (.own b)) b (.ins C dx [])) := fun a u e => by
    rw [upd_ne (ne_of_none e hb), upd_ne (ne_of_none e hdx)]
    exact e
  have hm : m ∈ bodyM := (bodyM_iff m ok.mm).mp ok.kk
  refine ⟨b, dx, .str m, v, "str", nd.d, rfl, upd_same, kd_str m, dp_mono s1 dp, bdok_uni ok, fun z => absurd ((decide_eq_true hm).symm.trans z) (by decide), fun m' e _ => ?_⟩
  cases e
  refine ⟨fun n en => absurd ((goW_good ok).symm.trans en) (by intro z; cases z), fun _ L H' k nL hb2 => ⟨rfl, ?_⟩⟩
  have s2 : Same H1 H' := fun a u e => k a u (ne_of_none e hb) (s1 _ _ e)
  exact hq b L H' s2 hb ⟨⟨dx, hb2⟩, dp_mono s2 dp⟩
end
end Ab
namespace Ab
open M6 PySem.Spec PyProof.Rows
def Strs (K : PySem.W.Frag) (r : List Str) (v : V) (H : Hp) : Prop := ∃ p, v = .ref p ∧ Sq.A K H p (r.map V.str)
theorem Strs.stays (K : PySem.W.Frag) : Rd.Stays (Strs K) := fun r x H H' s ⟨p, e, h⟩ => ⟨p, e, h.same s⟩
def RowsAt (K : PySem.W.Frag) (rows : List (List Str)) (a : Addr) (H : Hp) : Prop := ∃ xs, SqL K H a xs ∧ Paired (fun r x => Strs K r x H) rows xs
theorem RowsAt.mono {K : PySem.W.Frag} {rows : List (List Str)} {a : Addr} {H H' : Hp} (s : Same H H') (h : RowsAt K rows a H) : RowsAt K rows a H' :=
  let ⟨xs, h1, h2⟩ := h; ⟨xs, s.seq h1, Rd.pair_imp (fun r x => Strs.stays K r x _ _ s) h2⟩
structure Small (rows : List (List Str)) : Prop where
  n : rows.length ≤ 100
  m : ∀ r ∈ rows, r.length ≤ 100
def optS : Option Str → V
  | none => .non
  | some s => .str s
/-- new objects (of none that H knows) -/
def NStrs (H : Hp) (r : List Str) (v : V) (H' : Hp) : Prop := ∃ p, v = .ref p ∧ H p = none ∧ H' p = some (.lst (r.map V.str))
theorem NStrs.stays (H0 : Hp) : Rd.Stays (NStrs H0) := fun r x H H' s ⟨p, e, n, h⟩ => ⟨p, e, n, s _ _ h⟩
structure NewRows (H : Hp) (rows : List (List Str)) (p : Addr) (H' : Hp) : Prop where
  new : H p = none
  at_ : ∃ xs, H' p = some (.lst xs) ∧ Paired (fun r x => NStrs H r x H') rows xs
theorem NewRows.rows {K : PySem.W.Frag} {H H' : Hp} {rows : List (List Str)} {p : Addr} (h : NewRows H rows p H') : RowsAt K rows p H' :=
  let ⟨xs, h1, h2⟩ := h.at_; ⟨xs, SqL.of h1, Rd.pair_imp (fun r x ⟨q, e, _, hq⟩ => ⟨q, e, .inl (SqL.of hq)⟩) h2⟩
def hide (k : Addr) (H : Hp) : Hp := fun b => if b = k then none else H b
theorem hide_at (k : Addr) (H : Hp) : hide k H k = none := if_pos rfl
theorem hide_ne {k b : Addr} (H : Hp) (h : b ≠ k) : hide k H b = H b := if_neg h
theorem hide_same (k : Addr) (H : Hp) : Same (hide k H) H := fun b o e => by
  by_cases h : b = k
  · subst h; rw [hide_at] at e; cases e
  · rw [hide_ne H h] at e; exact e
theorem NewRows.hide {K : PySem.W.Frag} {H H' : Hp} {rows : List (List Str)} {p k : Addr} (h : NewRows H rows p H') (hk : H k ≠ none) : RowsAt K rows p (hide k H') := by
  obtain ⟨xs, h1, h2⟩ := h.at_
  have ne : ∀ b, H b = none → b ≠ k := fun b z e => hk (by rw [← e]; exact z)
  exact ⟨xs, SqL.of (by rw [hide_ne _ (ne _ h.new)]; exact h1), Rd.pair_imp (fun r x ⟨q, e, z, hq⟩ => ⟨q, e, .inl (SqL.of (by rw [hide_ne _ (ne _ z)]; exact hq))⟩) h2⟩
theorem small_without {rows : List (List Str)} {w : Str} (s : Small rows) : Small (without rows w) := by
  refine ⟨?_, fun r hr => ?_⟩
  · unfold M6.without
    have := List.length_filter_le (fun r => !r.isEmpty) (rows.map fun r => r.filter fun x => decide (x ≠ w))
    rw [List.length_map] at this
    exact Nat.le_trans this s.n
  · unfold M6.without at hr
    obtain ⟨h1, _⟩ := List.mem_filter.mp hr
    obtain ⟨r0, h0, rfl⟩ := List.mem_map.mp h1
    exact Nat.le_trans (List.length_filter_le _ _) (s.m _ h0)
theorem small_full {rows : List (List Str)} (s : Small rows) : Small (full rows) :=
  ⟨Nat.le_trans (List.length_filter_le _ _) s.n, fun r hr => s.m r (List.mem_filter.mp hr).1⟩
theorem size_le : ∀ {rows : List (List Str)}, (∀ r ∈ rows, r.length ≤ 100) → size rows ≤ rows.length * 100
  | [], _ => Nat.le_refl _
  | a :: rows, h => by
    rw [size_cons, List.length_cons]
    have := size_le (rows := rows) fun r hr => h r (List.mem_cons_of_mem _ hr)
    have := h a List.mem_cons_self
    omega
theorem small_size {rows : List (List Str)} (s : Small rows) : size rows ≤ 10000 := by
  have := size_le s.m
  have := s.n
  omega
section
variable {P : Program} {w : World} {K : PySem.W.Frag} {mg : Str → Option Value} {base : Heap}
abbrev sFree_head : Stmt := top 58
abbrev nFree_head : List Str := ["rows", "row", "other"]
theorem scFree_head : FnScope nFree_head ["rows"] (defScope sFree_head) := ⟨rfl, rfl, rfl, by decide +kernel, rfl, by decide +kernel, by decide +kernel⟩
def spFree (K : PySem.W.Frag) : Sp := fun vs H Q _ => ∃ (a : Addr) (rows : List (List Str)), vs = [.ref a] ∧ RowsAt K rows a H ∧ (∀ r ∈ rows, r ≠ []) ∧ Small rows ∧ ∀ H', Same H H' → Q (optS (headOf rows)) H'
theorem ok_free (T : Txt K mg) (D : DefAt K mg "_free_head" sFree_head ["rows"]) : CalG P w K mg base 1 "_free_head" (spFree K) := by
  refine D.by scFree_head (fun vs H Q E h => ?_) (fun f cd A hg outer s H vs Q E hr h => ?_)
  · obtain ⟨a, ns, rfl, _⟩ := h
    rfl
  · obtain ⟨a, rows, rfl, ⟨xs, hl, hp⟩, ne, sm, q⟩ := h
    refine ⟨_, (pss_cons (ps_for (wi := iList K _) PassesOwn.never rfl (pi_list (pv 0)) (pg_name (i := 1) scFree_head.nd rfl (Or.inr rfl))
  (pss_one (ps_if (pt_not (pt_val (pe_callB (r := rAny K) (cr_any rfl) (by rfl) T.any (by decide +kernel) (pa_cons (pe_lc (wi := iList K _) (own := [("other", 2)]) (g := gName 2) (by rfl) scFree_head.nd (pi_list (pv 0)) (blkOk_by (N := nFree_head) (sc := defScope sFree_head) (by decide +kernel)) (fun _ _ _ _ _ => pg_name (i := 2) scFree_head.nd rfl (Or.inl rfl)) (fun _ _ _ _ _ => pts_nil) (fun _ _ _ _ _ => (pe_cmpR (r := rIn K false) op_in_seq (pe_ix (r := Sq.rIxA K) Sq.ix_any (pv 1) pe_int (fun _ _ => rfl)) (pe_slice (r := Sq.rSlA K) Sq.sl_any (pv 2) (po_some pe_int) po_none) (by rfl)))) pa_nil))))
  (pss_one (ps_ret (pe_ix (r := Sq.rIxA K) Sq.ix_any (pv 1) pe_int (fun _ _ => rfl))))
  pss_nil)))
  (pss_one (ps_ret pe_non))), ?_⟩
    have hlen := Rd.pair_len hp
    refine ⟨_, rfl, a, rfl, ⟨xs, hl⟩, for_list (K := K) (a := a) (xs := xs) (fun i σ H1 => ∃ v, σ = [some (.ref a), v, none] ∧ Same H H1 ∧ ∀ r ∈ rows.take i, isHead rows r = false) ⟨none, rfl, Same.refl _, by simp⟩ (fun i σ H1 _ ⟨_, _, s, _⟩ => s.seq hl) ?_ ?_⟩
    · rintro i x σ H1 hx ⟨v, rfl, s, no⟩
      obtain ⟨r, hr0, p, rfl, hrl⟩ := Rd.pair_get hp hx
      have mem : r ∈ rows := List.mem_of_getElem? hr0
      obtain ⟨w0, t, rfl⟩ : ∃ w0 t, r = w0 :: t := by
        cases r with
        | nil => exact absurd rfl (ne _ mem)
        | cons w0 t => exact ⟨w0, t, rfl⟩
      have hrl1 := hrl.same s
      repeat walk_at "rd"
      refine Rd.lcL (K := K) (a := a) (xs := xs) (bs := rows) (Strs K) (fun (b : Bool) y _ => y = .bl b) (fun _ => true) (fun o => decide (w0 ∈ o.tail)) (fun R k => Rd.var rfl k) (s.seq hl) (Strs.stays K) (fun _ _ _ _ _ h => h)
        (Rd.pair_imp (fun r x => Strs.stays K r x _ _ s) hp) (by have := sm.n; omega) (fun _ => rfl) (fun b x H2 R _ _ _ s2 k => Rd.yes (k H2 (Same.refl _))) ?_ ?_
      · rintro o x H2 R ho _ _ ⟨po, rfl, hpo⟩ s2 k
        have hrl2 := hrl1.same s2
        repeat walk_at "rd"
        refine Sq.ixR hrl2 (by exact Rd.at0) ?_
        repeat walk_at "rd"
        refine Sq.sl1R hpo fun q H3 s3 hq => ?_
        refine Sq.inR hq rfl ?_ (k _ _ s3 (Rd.off_any (B := fun y => y = .bl _) ?_))
        · rw [← List.map_tail]; exact flat_strs _
        · rw [← List.map_tail, inV_str]; rfl
      · intro D ys H2 hD s2 hd pr
        have e : ys = (rows.map fun o => decide (w0 ∈ o.tail)).map V.bl := by
          rw [List.filter_eq_self.mpr (by simp)] at pr
          exact Rd.pair_map pr
        subst e
        repeat walk_at "rd"
        refine Rd.any_ (bs := rows.map fun o => decide (w0 ∈ o.tail)) (SqL.of hd) ?_
        repeat walk_at "rd"
        have ok : okHead rows w0 = !((rows.map fun o => decide (w0 ∈ o.tail)).any id) := by
          unfold okHead
          rw [List.any_map, List.all_eq_not_any_not]
          simp [Function.comp_def]
        have s3 := s.trans s2
        have hrl3 := hrl1.same s2
        refine Rd.bool (fun c => ?_) (fun c => ?_)
        · repeat walk_at "rd"
          refine Sq.ixR hrl3 (by exact Rd.at0) ?_
          have hh : isHead rows (w0 :: t) = true := by show okHead rows w0 = true; rw [ok]; exact c
          have e : headOf rows = some w0 := by unfold headOf; rw [find_at no hr0 hh]; rfl
          have := q _ s3
          rw [e] at this
          exact this
        · repeat walk_at "rd"
          have hh : isHead rows (w0 :: t) = false := by show okHead rows w0 = false; rw [ok]; exact c
          refine ⟨some (.ref p), rfl, s3, fun r hr => ?_⟩
          rw [Rd.take_succ hr0, List.mem_append] at hr
          rcases hr with hr | hr
          · exact no r hr
          · obtain rfl : r = w0 :: t := by simpa using hr
            exact hh
    · rintro σ H1 ⟨v, rfl, s, no⟩
      repeat walk_at "rd"
      rw [← hlen, List.take_length] at no
      have e : headOf rows = none := by unfold headOf; rw [find_no no]; rfl
      have := q _ s
      rw [e] at this
      exact this
theorem off_strs {H H1 H2 : Hp} {p : Addr} {r : List Str} (h1 : H1 p = none) (h2 : H2 p = some (.lst (r.map V.str))) : Rd.Off H H1 H2 (Strs K r) (.ref p) := fun D o _ hD =>
  ⟨p, rfl, .inl (SqL.of (by rw [upd_ne (fun e => hD (by rw [← e]; exact h1))]; exact h2))⟩
theorem off_new {H0 H H1 H2 : Hp} {p : Addr} {r : List Str} (h0 : H0 p = none) (h1 : H1 p = none) (h2 : H2 p = some (.lst (r.map V.str))) : Rd.Off H H1 H2 (NStrs H0 r) (.ref p) := fun D o _ hD =>
  ⟨p, rfl, h0, by rw [upd_ne (fun e => hD (by rw [← e]; exact h1))]; exact h2⟩
theorem ne_str (a b : Str) : (!decide (V.str a = V.str b)) = decide (a ≠ b) := by
  by_cases e : a = b
  · subst e; simp
  · have : ¬ V.str a = V.str b := fun z => e (V.str.inj z)
    simp [e, this]
theorem strs_pair (r : List Str) (H : Hp) : Paired (fun s (x : V) => x = V.str s) r (r.map V.str) := by
  induction r with
  | nil => exact .nil
  | cons a r ih => exact .cons rfl ih
abbrev sWithout : Stmt := top 59
abbrev nWithout : List Str := ["rows", "name", "left", "word", "row", "words"]
theorem scWithout : FnScope nWithout ["rows", "name"] (defScope sWithout) := ⟨rfl, rfl, rfl, by decide +kernel, rfl, by decide +kernel, by decide +kernel⟩
def spWithout (K : PySem.W.Frag) : Sp := fun vs H Q _ => ∃ (a : Addr) (rows : List (List Str)) (w : Str), vs = [.ref a, .str w] ∧ RowsAt K rows a H ∧ Small rows ∧ ∀ p H', Same H H' → NewRows H (without rows w) p H' → Q (.ref p) H'
theorem ok_without (T : Txt K mg) (D : DefAt K mg "_without" sWithout ["rows", "name"]) : CalG P w K mg base 1 "_without" (spWithout K) := by
  refine D.by scWithout (fun vs H Q E h => ?_) (fun f cd A hg outer s H vs Q E hr h => ?_)
  · obtain ⟨a, ns, _, rfl, _⟩ := h
    rfl
  · obtain ⟨a, rows, w0, rfl, ⟨xs, hl, hp⟩, sm, q⟩ := h
    refine ⟨_, (pss_cons (ps_setLc (i := 2) (wi := iList K _) (own := [("row", 4)]) (g := gName 4) (by rfl) scWithout.nd rfl rfl (sw_true rfl rfl rfl (by decide +kernel)) (pi_list (pv 0)) (blkOk_by (N := nWithout) (sc := defScope sWithout) (by decide +kernel)) (fun _ _ _ _ _ => pg_name (i := 4) scWithout.nd rfl (Or.inl rfl)) (fun _ _ _ _ _ => pts_nil) (fun _ _ _ _ _ => (pe_lc (wi := Sq.iAny K _) (own := [("word", 3)]) (g := gName 3) (by rfl) scWithout.nd (Sq.pi_any (pv 4)) (blkOk_by (by kernel_rfl)) (fun _ _ _ _ _ => pg_name (i := 3) scWithout.nd rfl (Or.inl rfl)) (fun _ _ _ _ _ => (pts_one (pt_cmpR op_ne (pv 3) (pv 1) (nomark _)))) (fun _ _ _ _ _ => (pv 3)))))
  (pss_one (ps_ret (pe_lc (wi := iList K _) (own := [("words", 5)]) (g := gName 5) (by rfl) scWithout.nd (pi_list (pv 2)) (blkOk_by (N := nWithout) (sc := defScope sWithout) (by decide +kernel)) (fun _ _ _ _ _ => pg_name (i := 5) scWithout.nd rfl (Or.inl rfl)) (fun _ _ _ _ _ => (pts_one (Rd.ptTru (K := K) rfl (pt_truth (pv 5) (by intro _; rfl))))) (fun _ _ _ _ _ => (pv 5)))))), ?_⟩
    have hlen := Rd.pair_len hp
    repeat walk_at "rd"
    refine Rd.lcL (K := K) (a := a) (xs := xs) (bs := rows) (Strs K) (NStrs H) (fun _ => true) (fun r => r.filter fun x => decide (x ≠ w0)) (fun R k => Rd.var rfl k) hl (Strs.stays K) (NStrs.stays H) hp (by have := sm.n; omega) (fun _ => rfl)
      (fun b x H2 R _ _ _ s2 k => Rd.yes (k H2 (Same.refl _))) ?_ ?_
    · rintro r x H2 R hr _ _ ⟨pr, rfl, hpr⟩ s2 k
      refine Sq.lcA (K := K) (a := pr) (xs := r.map V.str) (bs := r) (fun s x _ => x = V.str s) (fun s x _ => x = V.str s) (fun x => decide (x ≠ w0)) id (fun R k => Rd.var rfl k) hpr (fun _ _ _ _ _ h => h) (fun _ _ _ _ _ h => h)
        (strs_pair r H2) (by rw [List.length_map]; have := sm.m r hr; omega) (fun _ => rfl) ?_ ?_ ?_
      · rintro s x H3 R3 hs rfl _ s3 k3
        repeat walk_at "rd"
        rw [ne_str]
        exact k3 _ (Same.refl _)
      · rintro s x H3 R3 hs _ rfl _ s3 k3
        repeat walk_at "rd"
        exact k3 _ _ (Same.refl _) (Rd.off_any (B := fun y => y = V.str s) rfl)
      · intro D ys H3 hD s3 hd pq
        have e := Rd.pair_map pq
        rw [List.map_id] at e
        subst e
        exact k _ _ s3 (off_new (Same.free s2 hD) hD hd)
    · intro D ys H2 hD s2 hd pr
      rw [List.filter_eq_self.mpr (by simp)] at pr
      repeat walk_at "rd"
      refine Rd.lcL (K := K) (a := D) (xs := ys) (bs := rows.map fun r => r.filter fun x => decide (x ≠ w0)) (NStrs H) (NStrs H) (fun r => !r.isEmpty) id (fun R k => Rd.var rfl k) (SqL.of hd) (NStrs.stays H) (NStrs.stays H) pr
        (by have := Rd.pair_len pr; rw [List.length_map] at this; have := sm.n; omega) (fun _ => rfl) ?_ ?_ ?_
      · rintro r x H3 R3 hs _ ⟨p3, rfl, _, h3⟩ s3 k3
        repeat walk_at "rd"
        have e : (!(r.map V.str).isEmpty) = !r.isEmpty := by cases r <;> rfl
        rw [e]
        exact k3 _ (Same.refl _)
      · rintro r x H3 R3 hs _ h2 h3 s3 k3
        exact Rd.var rfl (k3 _ _ (Same.refl _) (Rd.off_old (NStrs.stays H r) s3 h2))
      · intro D' ys' H3 hD' s3 hd' pr'
        rw [List.map_id] at pr'
        exact q _ _ (s2.trans s3) ⟨Same.free s2 hD', ys', hd', pr'⟩
abbrev sMerged : Stmt := top 60
abbrev nMerged : List Str := ["rows", "left", "row", "taken", "name"]
theorem scMerged : FnScope nMerged ["rows"] (defScope sMerged) := ⟨rfl, rfl, rfl, by decide +kernel, rfl, by decide +kernel, by decide +kernel⟩
def spMerged (K : PySem.W.Frag) : Sp := fun vs H Q _ => ∃ (a : Addr) (rows : List (List Str)), vs = [.ref a] ∧ RowsAt K rows a H ∧ Small rows ∧ (mrg rows = none → ∀ H', Same H H' → Q .non H') ∧
  ∀ l, mrg rows = some l → ∀ p H', H p = none → Same H H' → H' p = some (.lst (l.map V.str)) → Q (.ref p) H'
theorem ok_merged (T : Txt K mg) (D : DefAt K mg "merged" sMerged ["rows"]) (CFree_head : CalG P w K mg base 1 "_free_head" (spFree K)) (CWithout : CalG P w K mg base 1 "_without" (spWithout K)) : CalG P w K mg base 2 "merged" (spMerged K) := by
  refine D.by scMerged (fun vs H Q E h => ?_) (fun f cd A hg outer s H vs Q E hr h => ?_)
  · obtain ⟨a, ns, rfl, _⟩ := h
    rfl
  · obtain ⟨a, rows, rfl, ⟨xs, hl, hp⟩, sm, qn, qs⟩ := h
    refine ⟨_, (pss_cons (ps_setLc (i := 1) (wi := iList K _) (own := [("row", 2)]) (g := gName 2) (by rfl) scMerged.nd rfl rfl (sw_true rfl rfl rfl (by decide +kernel)) (pi_list (pv 0)) (blkOk_by (N := nMerged) (sc := defScope sMerged) (by decide +kernel)) (fun _ _ _ _ _ => pg_name (i := 2) scMerged.nd rfl (Or.inl rfl)) (fun _ _ _ _ _ => (pts_one (Rd.ptTru (K := K) rfl (pt_truth (pv 2) (by intro _; rfl))))) (fun _ _ _ _ _ => (pv 2)))
  (pss_cons (ps_set (i := 3) scMerged.nd rfl (Or.inl rfl) (pe_lst pa_nil))
  (pss_cons (ps_while PassesOwn.never (Rd.ptTru (K := K) rfl (pt_truth (pv 1) (by intro _; rfl)))
  (pss_cons (ps_set (i := 4) scMerged.nd rfl (Or.inl rfl) (pe_cG CFree_head hg hr (by decide) (pa_cons (pv 1) pa_nil)))
  (pss_cons (ps_if (pt_cmpR op_isN (pv 4) pe_non (nomark _))
  (pss_one (ps_ret pe_non))
  pss_nil)
  (pss_cons (ps_expr (pe_bm PySem.F.plainAttrs_list PySem.F.slot_list_append PySem.F.type_list_append mt_append (pv 3) (pa_cons (pv 4) pa_nil)))
  (pss_one (ps_set (i := 1) scMerged.nd rfl (Or.inl rfl) (pe_cG CWithout hg hr (by decide) (pa_cons (pv 1) (pa_cons (pv 4) pa_nil)))))))))
  (pss_one (ps_ret (pv 3)))))), ?_⟩
    have hlen := Rd.pair_len hp
    repeat walk_at "rd"
    refine Rd.lcL (K := K) (a := a) (xs := xs) (bs := rows) (Strs K) (Strs K) (fun r => !r.isEmpty) id (fun R k => Rd.var rfl k) hl (Strs.stays K) (Strs.stays K) hp (by have := sm.n; omega) (fun _ => rfl) ?_ ?_ ?_
    · rintro r x H3 R3 hs _ ⟨p3, rfl, h3⟩ s3 k3
      repeat walk_at "rd"
      refine Sq.truR h3 ?_
      have e : (!(r.map V.str).isEmpty) = !r.isEmpty := by cases r <;> rfl
      rw [e]
      exact k3 _ (Same.refl _)
    · rintro r x H3 R3 hs _ h2 h3 s3 k3
      exact Rd.var rfl (k3 _ _ (Same.refl _) (Rd.off_old (Strs.stays K r) s3 h2))
    · intro L ys H1 hL s1 hd pr
      rw [List.map_id] at pr
      repeat walk_at "rd"
      refine ⟨Rd.sz (by simp), fun tk htk => ?_⟩
      repeat walk_at "rd"
      refine ⟨fun m σ H2 => ∃ (L : Addr) (rows' : List (List Str)) (acc : List Str) (v : Option V) (H0 : Hp), σ = [some (.ref a), some (.ref L), none, some (.ref tk), v] ∧ Same H H2 ∧ H0 tk = none ∧ Same H0 H2 ∧ RowsAt K rows' L H0 ∧
        (∀ r ∈ rows', r ≠ []) ∧ Small rows' ∧ H2 tk = some (.lst (acc.map V.str)) ∧ acc.length + size rows' ≤ 10000 ∧ mrg rows = mrgF (size rows' + 1) rows' acc ∧ m = size rows', ⟨_, L, full rows, [], none, H1, rfl, s1.trans (Rd.sNew htk), htk, Rd.sNew htk, ⟨ys, SqL.of hd, pr⟩, full_full rows, small_full sm, upd_same, ?_, rfl, rfl⟩, ?_⟩
      · have := small_size (small_full sm)
        simpa using this
      · rintro m σ H2 ⟨L, rows', acc, v, H0, rfl, s2, h0, s0, hR, ne, sm', ht, hz, hm, rfl⟩
        have hR2 := hR.mono s0
        obtain ⟨zs, hz1, hz2⟩ := id hR2
        have zr : zs.isEmpty = rows'.isEmpty := by
          have := Rd.pair_len hz2
          cases zs <;> cases rows' <;> simp_all
        repeat walk_at "rd"
        rw [zr]
        refine Rd.bool (fun c => ?_) (fun c => ?_)
        · refine ⟨_, fun σ' H' h => h, ?_⟩
          have c' : rows'.isEmpty = false := by simpa using c
          repeat walk_at "rd"
          refine ⟨L, rows', rfl, hR2, ne, sm', fun H3 s3 => ?_⟩
          repeat walk_at "rd"
          cases e : headOf rows' with
          | none =>
            refine Rd.dec (fun _ => ?_) (fun c => absurd rfl c)
            repeat walk_at "rd"
            exact qn (by rw [hm]; exact mrg_no c' e) H3 (s2.trans s3)
          | some w0 =>
            refine Rd.dec (fun c => nomatch c) (fun _ => ?_)
            have ht3 := s3 _ _ ht
            repeat walk_at "rd"
            refine ⟨Rd.ty_list ht3, ?_⟩
            repeat walk_at "rd"
            refine Rd.app ht3 (Rd.szl (by rw [List.length_map]; omega)) ?_
            have s4 : Same H0 (upd H3 tk (.lst ((acc ++ [w0]).map V.str))) := Rd.sMut (s0.trans s3) h0
            have e4 : acc.map V.str ++ [optS (some w0)] = (acc ++ [w0]).map V.str := by rw [List.map_append]; rfl
            rw [e4]
            repeat walk_at "rd"
            refine ⟨L, rows', w0, rfl, hR.mono s4, sm', fun p H5 s5 nr => ?_⟩
            repeat walk_at "rd"
            have lt := size_without e
            refine ⟨size (M6.without rows' w0), lt, p, M6.without rows' w0, acc ++ [w0], some (.str w0), hide tk H5, rfl, ?_, hide_at _ _, hide_same _ _, nr.hide (by rw [upd_same]; simp), without_full _ _, small_without sm', s5 _ _ upd_same, ?_, ?_, rfl⟩
            · exact (Rd.sMut (s2.trans s3) (Same.free s1 htk)).trans s5
            · rw [List.length_append]; simp; omega
            · rw [hm]; exact mrg_step c' e
        · have c' : rows'.isEmpty = true := by simpa using c
          repeat walk_at "rd"
          obtain rfl : rows' = [] := by simpa using c'
          exact qs acc hm tk H2 (Same.free s1 htk) s2 ht
end
end Ab
namespace Ab
open M6 PySem.Spec PyProof.Rows
local macro_rules | `(tactic| walk_at "rd") => `(tactic| (with_reducible first | refine Rd.tt_ ?_ | refine Rd.ff_ ?_ | refine Rd.dget ?_))
/-! ### names of classes -/
def wordOk (z : Str) : Bool := decide (z.length ≤ 6) && Txt.isascii z && Txt.isalpha z && Txt.islower z
/-! ### the order of a class -/
def listO {α : Type} (f : Str → Option α) : List Str → Option (List α)
  | [] => some []
  | b :: l => match f b with
    | none => none
    | some r => match listO f l with
      | none => none
      | some rs => some (r :: rs)
theorem listO_len {α : Type} {f : Str → Option α} : ∀ {l : List Str} {rs : List α}, listO f l = some rs → rs.length = l.length
  | [], rs, h => by cases h; rfl
  | b :: l, rs, h => by
    rw [listO] at h
    cases e : f b with
    | none => rw [e] at h; cases h
    | some r =>
      rw [e] at h
      cases e2 : listO f l with
      | none => rw [e2] at h; cases h
      | some rs2 =>
        rw [e2] at h
        cases h
        rw [List.length_cons, List.length_cons, listO_len e2]
theorem listO_take {α : Type} {f : Str → Option α} : ∀ {l : List Str} {i : Nat} {b : Str}, l[i]? = some b → listO f (l.take (i + 1)) = match listO f (l.take i) with | none => none | some rs => match f b with | none => none | some r => some (rs ++ [r])
  | [], i, b, h => by simp at h
  | a :: l, 0, b, h => by
    obtain rfl : a = b := by simpa using h
    show (match f a with | none => none | some r => some [r]) = (match f a with | none => none | some r => some ([] ++ [r]))
    cases f a <;> rfl
  | a :: l, i + 1, b, h => by
    have ih := listO_take (f := f) (l := l) (i := i) (b := b) (by simpa using h)
    rw [List.take_succ_cons, List.take_succ_cons, listO, listO, ih]
    cases f a with
    | none => rfl
    | some r =>
      dsimp only
      cases listO f (l.take i) with
      | none => rfl
      | some rs =>
        dsimp only
        cases f b <;> rfl
theorem listO_none {α : Type} {f : Str → Option α} : ∀ {l : List Str} {i : Nat}, listO f (l.take i) = none → listO f l = none
  | [], i, h => by simp [listO] at h
  | a :: l, 0, h => by simp [listO] at h
  | a :: l, i + 1, h => by
    rw [List.take_succ_cons, listO] at h
    rw [listO]
    cases e : f a with
    | none => rfl
    | some r =>
      rw [e] at h
      dsimp only at h ⊢
      cases e2 : listO f (l.take i) with
      | none => rw [listO_none e2]
      | some rs => rw [e2] at h; cases h
theorem listO_at {α : Type} {f : Str → Option α} : ∀ {l : List Str} {rs : List α}, listO f l = some rs → ∀ r ∈ rs, ∃ b ∈ l, f b = some r
  | [], rs, h, r, hr => by cases h; cases hr
  | a :: l, rs, h, r, hr => by
    rw [listO] at h
    cases e : f a with
    | none => rw [e] at h; cases h
    | some r0 =>
      rw [e] at h
      cases e2 : listO f l with
      | none => rw [e2] at h; cases h
      | some rs2 =>
        rw [e2] at h
        cases h
        rcases List.mem_cons.mp hr with rfl | hr
        · exact ⟨a, List.mem_cons_self, e⟩
        · obtain ⟨b, hb, hf⟩ := listO_at e2 r hr
          exact ⟨b, List.mem_cons_of_mem _ hb, hf⟩
theorem listO_congr {α : Type} {f g : Str → Option α} : ∀ {l : List Str}, (∀ b ∈ l, f b = g b) → listO f l = listO g l
  | [], _ => rfl
  | a :: l, h => by rw [listO, listO, h a List.mem_cons_self, listO_congr fun b hb => h b (List.mem_cons_of_mem _ hb)]
theorem listO_map {α : Type} {f : Str → Option α} {g : Str → α} : ∀ {l : List Str}, (∀ b ∈ l, f b = some (g b)) → listO f l = some (l.map g)
  | [], _ => rfl
  | a :: l, h => by rw [listO, h a List.mem_cons_self, listO_map fun b hb => h b (List.mem_cons_of_mem _ hb)]; rfl
theorem nodup_le {α : Type} [DecidableEq α] : ∀ {l m : List α}, l.Nodup → (∀ x ∈ l, x ∈ m) → l.length ≤ m.length
  | [], m, _, _ => Nat.zero_le _
  | a :: l, m, h, s => by
    have ha := s a List.mem_cons_self
    obtain ⟨na, hl⟩ := List.nodup_cons.mp h
    have := nodup_le (m := m.erase a) hl fun x hx => (List.mem_erase_of_ne (a := x) (b := a) fun e => na (by rw [← e]; exact hx)).mpr (s x (List.mem_cons_of_mem _ hx))
    rw [List.length_erase_of_mem ha] at this
    have := List.length_pos_of_mem ha
    rw [List.length_cons]
    omega
/-- the order of x, bases as bs tells -/
def ordF (bs : Str → List Str) : Nat → Str → Option (List Str)
  | 0, _ => none
  | n + 1, x => match listO (ordF bs n) (bs x) with
    | none => none
    | some rows => match mrg (rows ++ [bs x]) with
      | none => none
      | some l => some (x :: l)
/-- bases within names, each with a lower rank -/
structure Dag (ns : List Str) (bs : Str → List Str) (rk : Str → Nat) : Prop where
  inn : ∀ m ∈ ns, ∀ b ∈ bs m, b ∈ ns
  low : ∀ m ∈ ns, ∀ b ∈ bs m, rk b < rk m
  few : ∀ m ∈ ns, (bs m).length ≤ 90
theorem ord_sub {ns : List Str} {bs : Str → List Str} {rk : Str → Nat} (d : Dag ns bs rk) : ∀ {n : Nat} {x : Str} {l : List Str}, x ∈ ns → ordF bs n x = some l → (∀ w ∈ l, w ∈ ns) ∧ l.length ≤ ns.length + 1
  | 0, _, _, _, h => by cases h
  | n + 1, x, l, hx, h => by
    rw [ordF] at h
    cases e : listO (ordF bs n) (bs x) with
    | none => rw [e] at h; cases h
    | some rows =>
      rw [e] at h
      dsimp only at h
      cases e2 : mrg (rows ++ [bs x]) with
      | none => rw [e2] at h; cases h
      | some l2 =>
        rw [e2] at h
        cases h
        have M := M7.merges e2
        have sub : ∀ w ∈ l2, w ∈ ns := fun w hw => by
          obtain ⟨r, hr, hwr⟩ := (M.mem w).mp hw
          rcases List.mem_append.mp hr with hr | hr
          · obtain ⟨b, hb, hf⟩ := listO_at e r hr
            exact (ord_sub d (d.inn x hx b hb) hf).1 w hwr
          · obtain rfl := List.mem_singleton.mp hr
            exact d.inn x hx w hwr
        refine ⟨fun w hw => ?_, ?_⟩
        · rcases List.mem_cons.mp hw with rfl | hw
          · exact hx
          · exact sub w hw
        · rw [List.length_cons]
          have := nodup_le M.nd sub
          omega
/-- more fuel than the rank makes no difference -/
theorem ord_fuel {ns : List Str} {bs : Str → List Str} {rk : Str → Nat} (d : Dag ns bs rk) : ∀ {n k : Nat} {x : Str}, x ∈ ns → rk x < n → rk x < k → ordF bs n x = ordF bs k x
  | 0, _, _, _, h, _ => absurd h (Nat.not_lt_zero _)
  | n + 1, 0, _, _, _, h => absurd h (Nat.not_lt_zero _)
  | n + 1, k + 1, x, hx, h1, h2 => by
    rw [ordF, ordF, listO_congr (f := ordF bs n) (g := ordF bs k) fun b hb => ord_fuel d (d.inn x hx b hb) (by have := d.low x hx b hb; omega) (by have := d.low x hx b hb; omega)]
section
variable {P : Program} {w : World} {K : PySem.W.Frag} {mg : Str → Option Value} {base : Heap}
abbrev sIs_word : Stmt := top 17
abbrev nIs_word : List Str := ["value"]
theorem scIs_word : FnScope nIs_word ["value"] (defScope sIs_word) := ⟨rfl, rfl, rfl, by decide +kernel, rfl, by decide +kernel, by decide +kernel⟩
def spWord (K : PySem.W.Frag) : Sp := fun vs H Q _ => ∃ z : Str, vs = [.str z] ∧ wordOk z = true ∧ Q (.bl true) H
theorem ok_word (T : Txt K mg) {t6 : Tok} (g_MOST_LETTERS : mg "MOST_LETTERS" = some (.int 6 t6)) (D : DefAt K mg "is_word" sIs_word ["value"]) : CalG P w K mg base 1 "is_word" (spWord K) := by
  refine D.by scIs_word (fun vs H Q E h => ?_) (fun f cd A hg outer s H vs Q E hr h => ?_)
  · obtain ⟨_, rfl, _⟩ := h
    rfl
  · obtain ⟨z, rfl, ok, q⟩ := h
    simp only [wordOk, Bool.and_eq_true, decide_eq_true_eq] at ok
    obtain ⟨⟨⟨l6, a1⟩, a2⟩, a3⟩ := ok
    refine ⟨_, (pss_cons (ps_if (PW.pt (pw_or (pt_not (pt_val (pe_callB (r := rIsi K) call_isi (by rfl) T.isinstance (by decide +kernel) (pa_cons (pv 0) (pa_cons (pe_bltn (v := .ty "str") (by rfl) T.str (by decide +kernel) rfl) pa_nil))))) (pw_or1 (pt_cmpR op_gt (pe_callB call_len_str (by rfl) T.len PySem.boot_len (pa_cons (pv 0) pa_nil)) (pe_glob (v := .int 6) (by rfl) g_MOST_LETTERS ⟨_, rfl⟩) (nomark _)))))
  (pss_one (ps_ret pe_bl))
  pss_nil)
  (pss_one (ps_ret (pe_and (pe_bm0 PySem.F.plainAttrs_str PySem.F.slot_str_isascii PySem.F.type_str_isascii mt_isascii (pv 0)) (pe_and (pe_bm0 PySem.F.plainAttrs_str PySem.F.slot_str_isalpha PySem.F.type_str_isalpha mt_isalpha (pv 0)) (pe_one (pe_bm0 PySem.F.plainAttrs_str PySem.F.slot_str_islower PySem.F.type_str_islower mt_islower (pv 0)))))))), ?_⟩
    repeat walk_at "rd"
    refine isi (.base (.str z)) (by show kitB "str" "str" = some true; decide +kernel) ?_
    repeat walk_at "rd"
    refine Rd.ff_ ?_
    repeat walk_at "rd"
    refine Rd.lenS (Rd.sz (by omega)) ?_
    repeat walk_at "rd"
    refine Rd.dec (fun c => absurd c (by omega)) (fun _ => ?_)
    repeat walk_at "rd"
    refine ⟨rfl, z, rfl, rfl, trivial, ?_⟩
    rw [a1]
    repeat walk_at "rd"
    refine ⟨rfl, z, rfl, rfl, trivial, ?_⟩
    rw [a2]
    repeat walk_at "rd"
    refine ⟨rfl, z, rfl, rfl, trivial, ?_⟩
    rw [a3]
    repeat walk_at "rd"
    exact q
/-- is_one_of of a list -/
def spOneOfL (K : PySem.W.Frag) : Sp := fun vs H Q _ => ∃ (v : V) (p : Addr) (tn : String) (ws : List Str), vs = [v, .ref p] ∧ Kd K H v tn ∧ SqL K H p (ws.map V.str) ∧ Q (.bl (isIn v ws)) H
theorem ok_one_ofL (T : Txt K mg) (D : DefAt K mg "is_one_of" sIs_one_of ["value", "words"]) : CalG P w K mg base 1 "is_one_of" (spOneOfL K) := by
  refine D.by scIs_one_of (fun vs H Q E h => ?_) (fun f cd A hg outer s H vs Q E hr h => ?_)
  · obtain ⟨v, p, tn, ws, rfl, _⟩ := h
    rfl
  · obtain ⟨v, p, tn, ws, rfl, k, hp, q⟩ := h
    refine ⟨_, (pss_one (ps_ret (pe_and (pe_callB (r := rIsi K) call_isi (by rfl) T.isinstance (by decide +kernel) (pa_cons (pv 0) (pa_cons (pe_bltn (v := .ty "str") (by rfl) T.str (by decide +kernel) rfl) pa_nil))) (pe_one (pe_cmpR (r := rIn K false) op_in_seq (pv 0) (pv 1) (by rfl)))))), ?_⟩
    repeat walk_at "rd"
    refine isi k.ty k.s ?_
    repeat walk_at "rd"
    refine Rd.bool (fun c => ?_) (fun c => ?_)
    · obtain ⟨z, rfl⟩ : ∃ z, v = .str z := by cases v <;> first | exact ⟨_, rfl⟩ | cases c
      repeat walk_at "rd"
      refine Rd.inL hp rfl (flat_strs _) ?_
      have e : (if (false : Bool) = true then !inV (.str z) (ws.map V.str) else inV (.str z) (ws.map V.str)) = decide (z ∈ ws) := by rw [inV_str]; rfl
      rw [e]
      exact q
    · have e : isIn v ws = false := by cases v <;> first | rfl | cases c
      rw [e] at q
      exact q
end
end Ab
namespace Ab
open M6 PySem.Spec PyProof.Rows
local macro_rules | `(tactic| walk_at "rd") => `(tactic| (with_reducible first | refine Rd.tt_ ?_ | refine Rd.ff_ ?_ | refine Rd.dget ?_))
section
variable {P : Program} {w : World} {K : PySem.W.Frag} {mg : Str → Option Value} {base : Heap}
abbrev sOrder_of : Stmt := top 61
abbrev nOrder_of : List Str := ["name", "bases", "rows", "base", "row", "behind"]
theorem scOrder_of : FnScope nOrder_of ["name", "bases"] (defScope sOrder_of) := ⟨rfl, rfl, rfl, by decide +kernel, rfl, by decide +kernel, by decide +kernel⟩
theorem pair_sn {α β : Type} {F : α → β → Prop} {as : List α} {bs : List β} {a : α} {b : β} (h : Paired F as bs) (k : F a b) : Paired F (as ++ [a]) (bs ++ [b]) := pair_cat h (.cons k .nil)
/-- names with their bases as a dict of tuples -/
structure BasesAt (K : PySem.W.Frag) (H : Hp) (d : Addr) (ns : List Str) (gB : Str → Addr) (bs : Str → List Str) : Prop where
  dt : H d = some (.dK (tab ns fun m => .ref (gB m)))
  tp : ∀ m ∈ ns, SqT K H (gB m) ((bs m).map V.str)
theorem BasesAt.mono {H H' : Hp} {d : Addr} {ns : List Str} {gB : Str → Addr} {bs : Str → List Str} (h : BasesAt K H d ns gB bs) (s : Same H H') : BasesAt K H' d ns gB bs :=
  ⟨s _ _ h.dt, fun m hm => sqT_same s (h.tp m hm)⟩
def spOrder (K : PySem.W.Frag) (n : Nat) : Sp := fun vs H Q _ => ∃ (x : Str) (d : Addr) (ns : List Str) (gB : Str → Addr) (bs : Str → List Str) (rk : Str → Nat), vs = [.str x, .ref d] ∧ BasesAt K H d ns gB bs ∧ Dag ns bs rk ∧ ns.length ≤ 20 ∧ x ∈ ns ∧ rk x < n ∧
  (ordF bs n x = none → ∀ H', Same H H' → Q .non H') ∧ ∀ l, ordF bs n x = some l → ∀ p H', H p = none → Same H H' → H' p = some (.lst (l.map V.str)) → Q (.ref p) H'
theorem ok_order (T : Txt K mg) (D : DefAt K mg "order_of" sOrder_of ["name", "bases"]) (CMerged : CalG P w K mg base 2 "merged" (spMerged K)) : ∀ n, CalG P w K mg base (n + 3) "order_of" (spOrder K n)
  | 0 => D.by (k := 2) scOrder_of (fun vs H Q E h => by
      obtain ⟨x, d, ns, gB, bs, rk, rfl, _⟩ := h
      rfl) (fun f cd A hg outer s H vs Q E hr h => by
      obtain ⟨x, d, ns, gB, bs, rk, rfl, _, _, _, _, lt, _⟩ := h
      exact absurd lt (Nat.not_lt_zero _))
  | n + 1 => by
    have COrder_of := ok_order T D CMerged n
    refine D.by scOrder_of (fun vs H Q E h => ?_) (fun f cd A hg outer s H vs Q E hr h => ?_)
    · obtain ⟨x, d, ns, gB, bs, rk, rfl, _⟩ := h
      rfl
    · obtain ⟨x, d, ns, gB, bs, rk, rfl, ba, dag, nz, hx, lt, qn, qs⟩ := h
      refine ⟨_, (pss_cons (ps_set (i := 2) scOrder_of.nd rfl (Or.inl rfl) (pe_lst pa_nil))
  (pss_cons (ps_for (wi := iTup K _) PassesOwn.never rfl (pi_tup (pe_dget (one_ hr.units) (pv 1) (pv 0) (fun _ _ => rfl))) (pg_name (i := 3) scOrder_of.nd rfl (Or.inl rfl))
  (pss_cons (ps_set (i := 4) scOrder_of.nd rfl (Or.inl rfl) (pe_cG COrder_of hg hr (by omega) (pa_cons (pv 3) (pa_cons (pv 1) pa_nil))))
  (pss_cons (ps_if (pt_cmpR op_isN (pv 4) pe_non (nomark _))
  (pss_one (ps_ret pe_non))
  pss_nil)
  (pss_one (ps_expr (pe_bm PySem.F.plainAttrs_list PySem.F.slot_list_append PySem.F.type_list_append mt_append (pv 2) (pa_cons (pv 4) pa_nil)))))))
  (pss_cons (ps_set (i := 5) scOrder_of.nd rfl (Or.inl rfl) (pe_cG CMerged hg hr (by omega) (pa_cons (pe_lst (StX.pa_star (pv 2) (pa_cons (pe_dget (one_ hr.units) (pv 1) (pv 0) (fun _ _ => rfl)) pa_nil))) pa_nil)))
  (pss_one (ps_ret (pe_ifExp (pt_cmpR op_isN (pv 5) pe_non (nomark _)) pe_non (pe_lst (pa_cons (pv 0) (StX.pa_star (pv 5) pa_nil))))))))), ?_⟩
      have few := dag.few x hx
      repeat walk_at "rd"
      refine ⟨Rd.sz (by simp), fun R hR => ?_⟩
      have s1 : Same H (upd H R (.lst [])) := Rd.sNew hR
      repeat walk_at "rd"
      refine Rd.dget (Rd.var rfl (Rd.var rfl ⟨d, _, rfl, get_tab (s1 _ _ ba.dt) hx, ?_⟩))
      refine ⟨gB x, rfl, ⟨_, sqT_same s1 (ba.tp x hx)⟩, ?_⟩
      refine for_tup (K := K) (a := gB x) (xs := (bs x).map V.str) (fun i σ H1 => ∃ v4 v5 rows zs, σ = [some (.str x), some (.ref d), some (.ref R), v4, v5, none] ∧ Same H H1 ∧ H1 R = some (.lst zs) ∧ zs.length ≤ 90 ∧ listO (ordF bs n) ((bs x).take i) = some rows ∧ (∀ H2, Same H H2 → True) ∧
        Paired (fun r z => Strs K r z (hide R H1)) rows zs) ⟨_, _, [], [], rfl, s1, upd_same, by decide, by rw [List.take_zero]; rfl, fun _ _ => trivial, .nil⟩ (fun i σ H1 _ ⟨_, _, _, _, _, s, _⟩ => sqT_same s (ba.tp x hx)) ?_ ?_
      · rintro i z σ H1 hz ⟨v4, v5, rows, zs, rfl, s2, hr2, hz2, lo, _, pr⟩
        obtain ⟨hi, e⟩ := List.getElem?_eq_some_iff.mp hz
        rw [List.length_map] at hi
        rw [List.getElem_map] at e
        subst e
        have hb : (bs x)[i]? = some (bs x)[i] := List.getElem?_eq_getElem hi
        have mb : (bs x)[i] ∈ bs x := List.getElem_mem hi
        have tk := listO_take (f := ordF bs n) hb
        rw [lo] at tk
        dsimp only at tk
        generalize (bs x)[i] = b at hb mb tk ⊢
        repeat walk_at "rd"
        refine ⟨b, d, ns, gB, bs, rk, rfl, ba.mono s2, dag, nz, dag.inn x hx b mb, by have := dag.low x hx b mb; omega, fun e H3 s3 => ?_, fun l e p H3 hp s3 hl => ?_⟩
        · repeat walk_at "rd"
          refine Rd.dec (fun _ => ?_) (fun c => absurd rfl c)
          repeat walk_at "rd"
          refine qn ?_ H3 (s2.trans s3)
          rw [e] at tk
          rw [ordF, listO_none tk]
        · repeat walk_at "rd"
          refine Rd.dec (fun c => nomatch c) (fun _ => ?_)
          have hr3 := s3 _ _ hr2
          repeat walk_at "rd"
          refine ⟨Rd.ty_list hr3, ?_⟩
          repeat walk_at "rd"
          refine Rd.app hr3 (Rd.szl (by omega)) ?_
          rw [e] at tk
          have len := listO_len tk
          have zl := Rd.pair_len pr
          have rl := listO_len lo
          have l1 : ((bs x).take i).length ≤ 90 := Nat.le_trans (List.length_take_le _ _) (by omega)
          have l2 : ((bs x).take (i + 1)).length ≤ 90 := Nat.le_trans (List.length_take_le' _ _) few
          refine ⟨_, _, _, _, rfl, Rd.sMut (s2.trans s3) hR, upd_same, ?_, tk, fun _ _ => trivial, ?_⟩
          · rw [List.length_append] at len ⊢
            simp at len ⊢
            omega
          · have hid : Same (hide R H1) (hide R (upd H3 R (.lst (zs ++ [.ref p])))) := fun a o ha => by
              by_cases c : a = R
              · subst c; rw [hide_at] at ha; cases ha
              · rw [hide_ne _ c] at ha ⊢
                rw [upd_ne c]
                exact s3 _ _ ha
            have pR : p ≠ R := fun e => by rw [e, hr2] at hp; cases hp
            exact pair_sn (Rd.pair_imp (fun r z => Strs.stays K r z _ _ hid) pr) ⟨p, rfl, .inl (SqL.of (by rw [hide_ne _ pR, upd_ne pR]; exact hl))⟩
      · rintro σ H1 ⟨v4, v5, rows, zs, rfl, s2, hr2, hz2, lo, _, pr⟩
        rw [List.length_map, List.take_length] at lo
        have ba2 := ba.mono s2
        repeat walk_at "rd"
        refine starT ?_
        repeat walk_at "rd"
        refine ⟨R, zs, rfl, .inr (SqL.of hr2), ?_⟩
        repeat walk_at "rd"
        refine ⟨d, _, rfl, get_tab ba2.dt hx, ?_⟩
        repeat walk_at "rd"
        have rl := listO_len lo
        have zl := Rd.pair_len pr
        refine ⟨Rd.sz (by rw [List.length_append]; show zs.length + 1 ≤ _; omega), fun L hL => ?_⟩
        have s3 : Same H1 (upd H1 L (.lst (zs ++ [.ref (gB x)]))) := Rd.sNew hL
        have ra : RowsAt K (rows ++ [bs x]) L (upd H1 L (.lst (zs ++ [.ref (gB x)]))) := ⟨_, SqL.of upd_same, pair_sn (Rd.pair_imp (fun r z => Strs.stays K r z _ _ ((hide_same R H1).trans s3)) pr) ⟨_, rfl, .inr (sqT_same s3 (ba2.tp x hx))⟩⟩
        have sm : Small (rows ++ [bs x]) := by
          refine ⟨by rw [List.length_append]; simp; omega, fun r hr => ?_⟩
          rcases List.mem_append.mp hr with hr | hr
          · obtain ⟨b, hb, hf⟩ := listO_at lo r hr
            have := (ord_sub dag (dag.inn x hx b hb) hf).2
            omega
          · obtain rfl := List.mem_singleton.mp hr
            omega
        have eo : ordF bs (n + 1) x = match mrg (rows ++ [bs x]) with | none => none | some l => some (x :: l) := by (rw [ordF, lo]) <;> rfl
        have s4 := s2.trans s3
        refine ⟨L, rows ++ [bs x], rfl, ra, sm, fun e H3 s5 => ?_, fun l e p H3 hp s5 hl => ?_⟩
        · repeat walk_at "rd"
          refine Rd.dec (fun _ => ?_) (fun c => absurd rfl c)
          repeat walk_at "rd"
          exact qn (by rw [eo, e]) H3 (s4.trans s5)
        · repeat walk_at "rd"
          refine Rd.dec (fun c => nomatch c) (fun _ => ?_)
          repeat walk_at "rd"
          refine starT ?_
          repeat walk_at "rd"
          refine ⟨p, l.map V.str, rfl, .inr (SqL.of hl), ?_⟩
          repeat walk_at "rd"
          rw [e] at eo
          dsimp only at eo
          have lz := (ord_sub dag hx eo).2
          rw [List.length_cons] at lz
          refine ⟨Rd.sz (by simp; omega), fun L2 hL2 => ?_⟩
          refine qs _ eo L2 _ (Same.free (s4.trans s5) hL2) ((s4.trans s5).trans (Rd.sNew hL2)) ?_
          rw [upd_same]
          simp
end
end Ab
namespace Ab
open M6 PySem.Spec PyProof.Rows
local macro_rules | `(tactic| walk_at "rd") => `(tactic| (with_reducible first | refine Rd.tt_ ?_ | refine Rd.ff_ ?_ | refine Rd.sfld ?_ | refine Rd.dget ?_ | refine Rd.methR ?_ | refine Rd.propR ?_ | refine Rd.statR ?_ | refine Rd.getR ?_))
/-! ### a table in the heap -/
def fset {α : Type} (f : Str → α) (x : Str) (v : α) : Str → α := fun y => if y = x then v else f y
theorem fset_at {α : Type} {f : Str → α} {x : Str} {v : α} : fset f x v x = v := if_pos rfl
theorem fset_ne {α : Type} {f : Str → α} {x y : Str} {v : α} (h : y ≠ x) : fset f x v y = f y := if_neg h
theorem tab_put_new {l : List Str} {f : Str → V} {x : Str} {v : V} (h : x ∉ l) : putK (tab l f) (.inr x) v = tab (l ++ [x]) (fset f x v) := by
  rw [putK_new _ _ _ h, ← tab_snoc, fset_at]
  congr 1
  exact tab_congr fun o ho => (fset_ne fun e => h (by rw [← e]; exact ho)).symm
theorem fset_ref (g : Str → Addr) (x : Str) (p : Addr) : fset (fun m => V.ref (g m)) x (.ref p) = fun m => V.ref (fset g x p m) := by
  funext y
  unfold fset
  split <;> rfl
inductive Ent where
  | w (z : Str)
  | b (nd : Nd)
def entW : List Str := ["native", "blocked"]
def EntAt (K : PySem.W.Frag) (CB : Addr) (H : Hp) (m : Str) : Ent → V → Prop
  | .w z, v => v = .str z ∧ z ∈ entW
  | .b nd, v => ∃ b L x, v = .ref b ∧ BdA K CB H b L m x nd ∧ BdOk m nd
/-- the keys of a class's entries are methods, each once -/
def KsOk (kvs : List (Key × V)) : Prop := (kvs.map (·.1)).Nodup ∧ ∀ k ∈ kvs.map (·.1), ∃ m ∈ methods, k = .inr m
theorem ksOk_nil : KsOk [] := ⟨List.nodup_nil, fun _ h => (nomatch h)⟩
theorem ksOk_drop {kvs : List (Key × V)} (h : KsOk kvs) (k : Key) : KsOk (dropK kvs k) := by
  have e : ((dropK kvs k).map (·.1)).Sublist (kvs.map (·.1)) := (List.filter_sublist).map _
  exact ⟨h.1.sublist e, fun x hx => h.2 x (e.subset hx)⟩
theorem ksOk_put {kvs : List (Key × V)} (h : KsOk kvs) {m : Str} (hm : m ∈ methods) (v : V) : KsOk (putK kvs (.inr m) v) := by
  unfold putK
  by_cases c : (kvs.any fun kv => decide (kv.1 = (.inr m : Key))) = true
  · rw [if_pos c]
    have e : (kvs.map (fun kv => if kv.1 = (.inr m : Key) then (kv.1, v) else kv)).map (·.1) = kvs.map (·.1) := by
      rw [List.map_map]
      refine List.map_congr_left fun kv _ => ?_
      show (if kv.1 = (.inr m : Key) then (kv.1, v) else kv).1 = kv.1
      split <;> rfl
    unfold KsOk
    rw [e]
    exact h
  · rw [if_neg c]
    have n : (.inr m : Key) ∉ kvs.map (·.1) := fun z => by
      obtain ⟨kv, h1, h2⟩ := List.mem_map.mp z
      exact c (List.any_eq_true.mpr ⟨kv, h1, decide_eq_true h2⟩)
    unfold KsOk
    rw [List.map_append]
    refine ⟨List.nodup_append.mpr ⟨h.1, by simp, fun a ha b hb e => ?_⟩, fun k hk => ?_⟩
    · have hb2 : b = .inr m := List.mem_singleton.mp hb
      rw [e, hb2] at ha
      exact n ha
    · rcases List.mem_append.mp hk with z | z
      · exact h.2 k z
      · exact ⟨m, hm, List.mem_singleton.mp z⟩
structure Ents (K : PySem.W.Frag) (CB : Addr) (H : Hp) (kvs : List (Key × V)) (f : Str → Option Ent) : Prop where
  no : ∀ m ∈ methods, f m = none → valV kvs (.inr m) = none
  yes : ∀ m ∈ methods, ∀ e, f m = some e → ∃ v, valV kvs (.inr m) = some v ∧ EntAt K CB H m e v
  ks : KsOk kvs
structure Tt where
  ns : List Str
  bs : Str → List Str
  od : Str → List Str
  en : Str → Str → Option Ent
  m : Str → List Str
  fl : Str → Bool
structure TA where
  bk : Addr
  w : Addr
  f : Addr
  nm : Addr
  ba : Addr
  od : Addr
  en : Addr
  g : Str → Addr
  gB : Str → Addr
  gO : Str → Addr
  gE : Str → Addr
structure TbAt (K : PySem.W.Frag) (CT CB CK : Addr) (H0 H : Hp) (t : Addr) (a : TA) (s : Tt) (c : Nat) : Prop where
  ins : ∃ dx, H t = some (.ins CT dx [("_book", .ref a.bk), ("_names", .ref a.nm), ("_bases", .ref a.ba), ("_orders", .ref a.od), ("_entries", .ref a.en)])
  bk : Bk K CK H a.bk a.w a.f a.g s.m s.fl
  nm : H a.nm = some (.lst (s.ns.map V.str))
  ba : BasesAt K H a.ba s.ns a.gB s.bs
  od : H a.od = some (.dK (tab s.ns fun n => .ref (a.gO n)))
  ol : ∀ n ∈ s.ns, H (a.gO n) = some (.lst ((s.od n).map V.str))
  en : H a.en = some (.dK (tab s.ns fun n => .ref (a.gE n)))
  ee : ∀ n ∈ s.ns, ∃ kvs, H (a.gE n) = some (.dK kvs) ∧ kvs.length ≤ c ∧ Ents K CB H kvs (s.en n)
  d1 : (a.w :: a.f :: a.ba :: a.od :: a.en :: s.ns.map a.gE).Nodup
  d2 : (a.nm :: s.ns.map a.gO).Nodup
  new : H0 t = none ∧ H0 a.nm = none ∧ H0 a.od = none ∧ H0 a.en = none ∧ ∀ n ∈ s.ns, H0 (a.gE n) = none
theorem ent_mono {K : PySem.W.Frag} {CB : Addr} {H H' : Hp} {m : Str} {e : Ent} {v : V} (s : Same H H') (h : EntAt K CB H m e v) : EntAt K CB H' m e v := by
  cases e with
  | w z => exact h
  | b nd =>
    obtain ⟨b, L, x, e, k, ok⟩ := h
    exact ⟨b, L, x, e, k.mono s, ok⟩
theorem Ents.mono {K : PySem.W.Frag} {CB : Addr} {H H' : Hp} {kvs : List (Key × V)} {f : Str → Option Ent} (h : Ents K CB H kvs f) (s : Same H H') : Ents K CB H' kvs f :=
  ⟨h.no, fun m hm e he => let ⟨v, h1, h2⟩ := h.yes m hm e he; ⟨v, h1, ent_mono s h2⟩, h.ks⟩
theorem TbAt.mono {K : PySem.W.Frag} {CT CB CK : Addr} {H0 H H' : Hp} {t : Addr} {a : TA} {s : Tt} {c : Nat} (h : TbAt K CT CB CK H0 H t a s c) (sm : Same H H') : TbAt K CT CB CK H0 H' t a s c where
  ins := let ⟨dx, e⟩ := h.ins; ⟨dx, sm _ _ e⟩
  bk := h.bk.mono sm
  nm := sm _ _ h.nm
  ba := h.ba.mono sm
  od := sm _ _ h.od
  ol := fun n hn => sm _ _ (h.ol n hn)
  en := sm _ _ h.en
  ee := fun n hn => let ⟨kvs, e1, e2, e3⟩ := h.ee n hn; ⟨kvs, sm _ _ e1, e2, e3.mono sm⟩
  d1 := h.d1
  d2 := h.d2
  new := h.new
theorem TbAt.lower {K : PySem.W.Frag} {CT CB CK : Addr} {H0 H1 H : Hp} {t : Addr} {a : TA} {s : Tt} {c : Nat} (h : TbAt K CT CB CK H1 H t a s c) (sm : Same H0 H1) : TbAt K CT CB CK H0 H t a s c where
  ins := h.ins
  bk := h.bk
  nm := h.nm
  ba := h.ba
  od := h.od
  ol := h.ol
  en := h.en
  ee := h.ee
  d1 := h.d1
  d2 := h.d2
  new := ⟨Same.free sm h.new.1, Same.free sm h.new.2.1, Same.free sm h.new.2.2.1, Same.free sm h.new.2.2.2.1, fun n hn => Same.free sm (h.new.2.2.2.2 n hn)⟩
def tt0 (m : Str → List Str) (fl : Str → Bool) : Tt := { ns := [], bs := fun _ => [], od := fun _ => [], en := fun _ _ => none, m := m, fl := fl }
structure TF (K : PySem.W.Frag) (mg : Str → Option Value) (C : Addr) : Prop extends Ob.CF K mg "Table" C where
  n1 : NoAttr K C "_book"
  n2 : NoAttr K C "_names"
  n3 : NoAttr K C "_bases"
  n4 : NoAttr K C "_orders"
  n5 : NoAttr K C "_entries"
section
variable {P : Program} {w : World} {K : PySem.W.Frag} {mg : Str → Option Value} {base : Heap}
abbrev sCheck_book : Stmt := top 38
abbrev nCheck_book : List Str := ["book"]
theorem scCheck_book : FnScope nCheck_book ["book"] (defScope sCheck_book) := ⟨rfl, rfl, rfl, by decide +kernel, rfl, by decide +kernel, by decide +kernel⟩
def spCheckBook (K : PySem.W.Frag) (CK CNB : Addr) : Sp := fun vs H Q E => (∃ (b w f : Addr) (g : Str → Addr) (m : Str → List Str) (fl : Str → Bool), vs = [.ref b] ∧ Bk K CK H b w f g m fl ∧ Q .non H) ∨
  (∃ (v : V) (t : Value), vs = [v] ∧ TyX K H v t ∧ PySem.W.kitOne K t (.ref CK) = some false ∧ OutB CNB "value" v H E)
theorem ok_check_book (T : Txt K mg) {C_Book C_NoBook : Addr} (K_Book : BF K mg C_Book) (ic : BkIC K C_Book) (T_NoBook : Ex.ErrC K mg "NoBook" "value" C_NoBook) (M_NoBook : Ex.InitOk P w K mg base "value" C_NoBook) (D : DefAt K mg "check_book" sCheck_book ["book"]) : Ex.CalX P w K mg base 3 "check_book" (spCheckBook K C_Book C_NoBook) := by
  refine Ex.byX D scCheck_book (fun vs H Q E h => ?_) (fun f cd A hg outer s H vs Q E hr h => ?_)
  · rcases h with ⟨_, _, _, _, _, _, rfl, _⟩ | ⟨_, _, rfl, _⟩ <;> rfl
  · rcases h with ⟨b, w0, f0, g, m, fl, rfl, bk, q⟩ | ⟨v, t, rfl, ty, kt, q⟩
    · refine ⟨_, (pss_one (ps_if (pt_not (pt_val (pe_callB (r := rIsi K) call_isi (by rfl) T.isinstance (by decide +kernel) (pa_cons (pv 0) (pa_cons (pe_glob (v := .ref C_Book) (by rfl) K_Book.g rfl) pa_nil)))))
  (pss_one (ps_raise rfl (takes_of rfl rfl rfl rfl) (Ex.pmkE T_NoBook M_NoBook hr (by decide) (pa_cons (pv 0) pa_nil))))
  pss_nil)), ?_⟩
      repeat walk_at "rd"
      refine ⟨.ref b, .ref C_Book, .ref C_Book, .ref C_Book, true, rfl, .own _, bk_ty K_Book ic bk, kit_self, ?_⟩
      repeat walk_at "rd"
      refine Rd.ff_ ?_
      repeat walk_at "rd"
      exact q
    · refine ⟨_, (pss_one (ps_if (pt_not (pt_val (pe_callB (r := rIsi K) call_isi (by rfl) T.isinstance (by decide +kernel) (pa_cons (pv 0) (pa_cons (pe_glob (v := .ref C_Book) (by rfl) K_Book.g rfl) pa_nil)))))
  (pss_one (ps_raise rfl (takes_of rfl rfl rfl rfl) (Ex.pmkE T_NoBook M_NoBook hr (by decide) (pa_cons (pv 0) pa_nil))))
  pss_nil)), ?_⟩
      repeat walk_at "rd"
      refine ⟨v, .ref C_Book, t, .ref C_Book, false, rfl, .own _, ty, kt, ?_⟩
      repeat walk_at "rd"
      refine Rd.tt_ (Ex.mk ?_)
      repeat walk_at "rd"
      exact Ex.made (q H (Same.refl _))
abbrev sTable___init__ : Stmt := meth 66 0
abbrev nTable___init__ : List Str := ["self", "book"]
theorem scTable___init__ : FnScope nTable___init__ ["self", "book"] (defScope sTable___init__) := ⟨rfl, rfl, rfl, by decide +kernel, rfl, by decide +kernel, by decide +kernel⟩
def spTInit (K : PySem.W.Frag) (CT CB CK CNB : Addr) : Sp := fun vs H Q E => (∃ (t : Addr) (v : V) (ty : Value), vs = [.ref t, v] ∧ TyX K H v ty ∧ PySem.W.kitOne K ty (.ref CK) = some false ∧ OutB CNB "value" v H E) ∨ ∃ (t dx b w f : Addr) (g : Str → Addr) (m : Str → List Str) (fl : Str → Bool), vs = [.ref t, .ref b] ∧ H t = some (.ins CT dx []) ∧ Bk K CK H b w f g m fl ∧
  ∀ a H', Same (hide t H) H' → TbAt K CT CB CK (hide t H) H' t a (tt0 m fl) 0 → Q .non H'
theorem ok_tinit (T : Txt K mg) {CT CB C_Book CNB : Addr} (K_Table : TF K mg CT) (K_Book : BF K mg C_Book) (CCheck_book : Ex.CalX P w K mg base 3 "check_book" (spCheckBook K C_Book CNB)) (M_Book_twin : Ob.MCal P w K mg base CX0 C_Book 3 "twin" (spBkTwin K C_Book)) {f : Addr} {fd : FuncData}
    (D : Ob.MethAt K "__init__" "Table.__init__" sTable___init__ ["self", "book"] f fd) : FnG P w K mg base (L2.CX P w) 4 f fd ["self", "book"] (spTInit K CT CB C_Book CNB) := by
  refine Ob.byGX D scTable___init__ (fun vs H Q E h => ?_) (fun cd A hg outer s H vs Q E hr h => ?_)
  · rcases h with ⟨_, _, _, rfl, _⟩ | ⟨_, _, _, _, _, _, _, _, rfl, _⟩ <;> rfl
  · rcases h with ⟨t, v, ty, rfl, hty, kt, q⟩ | ⟨t, dx, b, w0, f0, g, m, fl, rfl, ht, bk, q⟩
    · refine ⟨_, (pss_cons (ps_expr (Ex.pe_x CCheck_book hg hr (by decide) (takes_of rfl rfl rfl rfl) (pa_cons (pv 1) pa_nil)))
  (pss_cons (ps_fld (pv 0) (Ob.meth0 (pv 1) K_Book.cl M_Book_twin hg hr (by decide) pass0) (by rfl))
  (pss_cons (ps_fld (pv 0) (pe_lst pa_nil) (by rfl))
  (pss_cons (ps_fld (pv 0) pe_dnewK (by rfl))
  (pss_cons (ps_fld (pv 0) pe_dnewK (by rfl))
  (pss_one (ps_fld (pv 0) pe_dnewK (by rfl)))))))), ?_⟩
      repeat walk_at "rd"
      exact .inr ⟨v, ty, rfl, hty, kt, q⟩
    obtain ⟨db, hb⟩ := bk.ins
    refine ⟨_, (pss_cons (ps_expr (Ex.pe_x CCheck_book hg hr (by decide) (takes_of rfl rfl rfl rfl) (pa_cons (pv 1) pa_nil)))
  (pss_cons (ps_fld (pv 0) (Ob.meth0 (pv 1) K_Book.cl M_Book_twin hg hr (by decide) pass0) (by rfl))
  (pss_cons (ps_fld (pv 0) (pe_lst pa_nil) (by rfl))
  (pss_cons (ps_fld (pv 0) pe_dnewK (by rfl))
  (pss_cons (ps_fld (pv 0) pe_dnewK (by rfl))
  (pss_one (ps_fld (pv 0) pe_dnewK (by rfl)))))))), ?_⟩
    repeat walk_at "rd"
    refine .inl ⟨b, w0, f0, g, m, fl, rfl, bk, ?_⟩
    repeat walk_at "rd"
    refine ⟨b, db, _, rfl, hb, rfl, ?_⟩
    repeat walk_at "rd"
    refine ⟨b, w0, f0, g, m, fl, rfl, bk, fun k kw kf H1 s1 nk nw nf bk1 => ?_⟩
    obtain ⟨dk, hk⟩ := bk1.ins
    have tk : k ≠ t := fun e => by rw [e, ht] at nk; cases nk
    have tw : kw ≠ t := fun e => by rw [e, ht] at nw; cases nw
    have tf : kf ≠ t := fun e => by rw [e, ht] at nf; cases nf
    repeat walk_at "rd"
    refine ⟨t, CT, dx, [], rfl, s1 _ _ ht, K_Table.cl, K_Table.n1, by decide, ?_⟩
    have e1 : putF "_book" (.ref k) [] = [(("_book" : Str), V.ref k)] := rfl
    rw [e1]
    have k2 : Keep t H1 (upd H1 t (.ins CT dx [("_book", .ref k)])) := Keep.put (fun _ _ _ e => e)
    have t2 : upd H1 t (.ins CT dx [("_book", .ref k)]) t = some (.ins CT dx [("_book", .ref k)]) := upd_same
    generalize upd H1 t (.ins CT dx [("_book", .ref k)]) = H2 at k2 t2 ⊢
    repeat walk_at "rd"
    refine ⟨Rd.sz (by simp), fun nm hnm => ?_⟩
    have nt : nm ≠ t := fun e => by rw [e, t2] at hnm; cases hnm
    repeat walk_at "rd"
    refine ⟨t, CT, dx, _, rfl, by rw [upd_ne (Ne.symm nt)]; exact t2, K_Table.cl, K_Table.n2, by simp, ?_⟩
    have e3 : putF "_names" (.ref nm) [(("_book" : Str), V.ref k)] = [(("_book" : Str), V.ref k), ("_names", .ref nm)] := rfl
    rw [e3]
    have k3 : Keep t H2 (upd (upd H2 nm (.lst [])) t (.ins CT dx [("_book", .ref k), ("_names", .ref nm)])) := (Keep.same (Rd.sNew hnm)).put
    have t3 : upd (upd H2 nm (.lst [])) t (.ins CT dx [("_book", .ref k), ("_names", .ref nm)]) t = some (.ins CT dx [("_book", .ref k), ("_names", .ref nm)]) := upd_same
    have n3 : upd (upd H2 nm (.lst [])) t (.ins CT dx [("_book", .ref k), ("_names", .ref nm)]) nm = some (.lst []) := by rw [upd_ne nt, upd_same]
    generalize upd (upd H2 nm (.lst [])) t (.ins CT dx [("_book", .ref k), ("_names", .ref nm)]) = H3 at k3 t3 n3 ⊢
    repeat walk_at "rd"
    refine fun ba hba => ?_
    have bt : ba ≠ t := fun e => by rw [e, t3] at hba; cases hba
    repeat walk_at "rd"
    refine ⟨t, CT, dx, _, rfl, by rw [upd_ne (Ne.symm bt)]; exact t3, K_Table.cl, K_Table.n3, by simp, ?_⟩
    have e4 : putF "_bases" (.ref ba) [(("_book" : Str), V.ref k), ("_names", .ref nm)] = [(("_book" : Str), V.ref k), ("_names", .ref nm), ("_bases", .ref ba)] := rfl
    rw [e4]
    have k4 : Keep t H3 (upd (upd H3 ba (.dK [])) t (.ins CT dx [("_book", .ref k), ("_names", .ref nm), ("_bases", .ref ba)])) := (Keep.same (Rd.sNew hba)).put
    have t4 : upd (upd H3 ba (.dK [])) t (.ins CT dx [("_book", .ref k), ("_names", .ref nm), ("_bases", .ref ba)]) t = some (.ins CT dx [("_book", .ref k), ("_names", .ref nm), ("_bases", .ref ba)]) := upd_same
    have n4 : upd (upd H3 ba (.dK [])) t (.ins CT dx [("_book", .ref k), ("_names", .ref nm), ("_bases", .ref ba)]) ba = some (.dK []) := by rw [upd_ne bt, upd_same]
    generalize upd (upd H3 ba (.dK [])) t (.ins CT dx [("_book", .ref k), ("_names", .ref nm), ("_bases", .ref ba)]) = H4 at k4 t4 n4 ⊢
    repeat walk_at "rd"
    refine fun od hod => ?_
    have ot : od ≠ t := fun e => by rw [e, t4] at hod; cases hod
    repeat walk_at "rd"
    refine ⟨t, CT, dx, _, rfl, by rw [upd_ne (Ne.symm ot)]; exact t4, K_Table.cl, K_Table.n4, by simp, ?_⟩
    have e5 : putF "_orders" (.ref od) [(("_book" : Str), V.ref k), ("_names", .ref nm), ("_bases", .ref ba)] = [(("_book" : Str), V.ref k), ("_names", .ref nm), ("_bases", .ref ba), ("_orders", .ref od)] := rfl
    rw [e5]
    have k5 : Keep t H4 (upd (upd H4 od (.dK [])) t (.ins CT dx [("_book", .ref k), ("_names", .ref nm), ("_bases", .ref ba), ("_orders", .ref od)])) := (Keep.same (Rd.sNew hod)).put
    have t5 : upd (upd H4 od (.dK [])) t (.ins CT dx [("_book", .ref k), ("_names", .ref nm), ("_bases", .ref ba), ("_orders", .ref od)]) t = some (.ins CT dx [("_book", .ref k), ("_names", .ref nm), ("_bases", .ref ba), ("_orders", .ref od)]) := upd_same
    have n5 : upd (upd H4 od (.dK [])) t (.ins CT dx [("_book", .ref k), ("_names", .ref nm), ("_bases", .ref ba), ("_orders", .ref od)]) od = some (.dK []) := by rw [upd_ne ot, upd_same]
    generalize upd (upd H4 od (.dK [])) t (.ins CT dx [("_book", .ref k), ("_names", .ref nm), ("_bases", .ref ba), ("_orders", .ref od)]) = H5 at k5 t5 n5 ⊢
    repeat walk_at "rd"
    refine fun en hen => ?_
    have et : en ≠ t := fun e => by rw [e, t5] at hen; cases hen
    repeat walk_at "rd"
    refine ⟨t, CT, dx, _, rfl, by rw [upd_ne (Ne.symm et)]; exact t5, K_Table.cl, K_Table.n5, by simp, ?_⟩
    have e6 : putF "_entries" (.ref en) [(("_book" : Str), V.ref k), ("_names", .ref nm), ("_bases", .ref ba), ("_orders", .ref od)] = [(("_book" : Str), V.ref k), ("_names", .ref nm), ("_bases", .ref ba), ("_orders", .ref od), ("_entries", .ref en)] := rfl
    rw [e6]
    have k6 : Keep t H5 (upd (upd H5 en (.dK [])) t (.ins CT dx [("_book", .ref k), ("_names", .ref nm), ("_bases", .ref ba), ("_orders", .ref od), ("_entries", .ref en)])) := (Keep.same (Rd.sNew hen)).put
    have t6 : upd (upd H5 en (.dK [])) t (.ins CT dx [("_book", .ref k), ("_names", .ref nm), ("_bases", .ref ba), ("_orders", .ref od), ("_entries", .ref en)]) t = some (.ins CT dx [("_book", .ref k), ("_names", .ref nm), ("_bases", .ref ba), ("_orders", .ref od), ("_entries", .ref en)]) := upd_same
    have n6 : upd (upd H5 en (.dK [])) t (.ins CT dx [("_book", .ref k), ("_names", .ref nm), ("_bases", .ref ba), ("_orders", .ref od), ("_entries", .ref en)]) en = some (.dK []) := by rw [upd_ne et, upd_same]
    generalize upd (upd H5 en (.dK [])) t (.ins CT dx [("_book", .ref k), ("_names", .ref nm), ("_bases", .ref ba), ("_orders", .ref od), ("_entries", .ref en)]) = H6 at k6 t6 n6 ⊢
    repeat walk_at "rd"
    have kk : Keep t H1 H6 := (((k2.trans k3).trans k4).trans k5).trans k6
    have sh : Same (hide t H) H6 := fun a o e => by
      by_cases c : a = t
      · subst c; rw [hide_at] at e; cases e
      · rw [hide_ne _ c] at e
        exact kk a o c (s1 _ _ e)
    have b6 : Bk K C_Book H6 k kw kf g m fl := ⟨⟨dk, kk _ _ tk hk⟩, kk _ _ tw bk1.wd, kk _ _ tf bk1.fd, fun o ho => sqT_keep kk (nt_ins (s1 _ _ ht)) (bk1.tp o ho), bk1.ne⟩
    have fr : ∀ {a}, a ≠ t → H6 a = none → True := fun _ _ => trivial
    -- what is none behind some heap is none before it
    have back : ∀ {Ha Hb : Hp} {a : Addr}, Keep t Ha Hb → a ≠ t → Hb a = none → Ha a = none := fun {Ha Hb a} kp ne e => by
      cases z : Ha a with
      | none => rfl
      | some u => rw [kp _ _ ne z] at e; cases e
    have nm1 := back k2 nt hnm
    have ba1 := back ((k2.trans k3)) bt hba
    have od1 := back ((k2.trans k3).trans k4) ot hod
    have en1 := back (((k2.trans k3).trans k4).trans k5) et hen
    have hd : ∀ {a : Addr}, a ≠ t → H1 a = none → hide t H a = none := fun ne e => by rw [hide_ne _ ne]; exact Same.free s1 e
    have w1 := bk1.wd
    have f1 := bk1.fd
    have od4 := back k4 ot hod
    have en5 := back k5 et hen
    have en4 := back (k4.trans k5) et hen
    refine q { bk := k, w := kw, f := kf, nm := nm, ba := ba, od := od, en := en, g := g, gB := fun _ => 0, gO := fun _ => 0, gE := fun _ => 0 } H6 sh ?_
    refine { ins := ⟨dx, t6⟩, bk := b6, nm := k6 _ _ nt (k5 _ _ nt (k4 _ _ nt n3)), ba := ⟨k6 _ _ bt (k5 _ _ bt n4), fun m hm => (nomatch hm)⟩, od := k6 _ _ ot n5, ol := fun n hn => (nomatch hn), en := n6, ee := fun n hn => (nomatch hn), d1 := ?_, d2 := by simp [tt0], new := ⟨hide_at _ _, hd nt nm1, hd ot od1, hd et en1, fun n hn => (nomatch hn)⟩ }
    have z1 : kw ≠ ba := ne_of_none w1 ba1
    have z2 : kw ≠ od := ne_of_none w1 od1
    have z3 : kw ≠ en := ne_of_none w1 en1
    have z4 : kf ≠ ba := ne_of_none f1 ba1
    have z5 : kf ≠ od := ne_of_none f1 od1
    have z6 : kf ≠ en := ne_of_none f1 en1
    have z7 : ba ≠ od := fun e => by rw [← e, n4] at hod; cases hod
    have z8 : ba ≠ en := fun e => by have := k5 _ _ bt n4; rw [← e, this] at hen; cases hen
    have z9 : od ≠ en := fun e => by rw [← e, n5] at hen; cases hen
    simp [tt0, bk1.ne, z1, z2, z3, z4, z5, z6, z7, z8, z9]
abbrev sTable__check_class : Stmt := meth 66 1
abbrev nTable__check_class : List Str := ["self", "name"]
theorem scTable__check_class : FnScope nTable__check_class ["self", "name"] (defScope sTable__check_class) := ⟨rfl, rfl, rfl, by decide +kernel, rfl, by decide +kernel, by decide +kernel⟩
def spCC (K : PySem.W.Frag) (CT CB CK : Addr) : Sp := fun vs H Q _ => ∃ (H0 : Hp) (t : Addr) (a : TA) (s : Tt) (c : Nat) (x : Str), vs = [.ref t, .str x] ∧ TbAt K CT CB CK H0 H t a s c ∧ x ∈ s.ns ∧ Q .non H
theorem ok_cc (T : Txt K mg) {CT CB CK : Addr} (K_Table : TF K mg CT) (CIs_one_of : CalG P w K mg base 1 "is_one_of" (spOneOfL K)) {f : Addr} {fd : FuncData} (D : Ob.MethAt K "_check_class" "Table._check_class" sTable__check_class ["self", "name"] f fd) :
    FnG P w K mg base CX0 2 f fd ["self", "name"] (spCC K CT CB CK) := by
  refine Ob.byG D scTable__check_class (fun vs H Q E h => ?_) (fun cd A hg outer s H vs Q E hr h => ?_)
  · obtain ⟨_, _, _, _, _, _, rfl, _⟩ := h
    rfl
  · obtain ⟨H0, t, a, st, c, x, rfl, tb, hx, q⟩ := h
    obtain ⟨dx, ht⟩ := tb.ins
    refine ⟨_, (pss_one (ps_if (pt_not (pt_val (pe_cG CIs_one_of hg hr (by decide) (pa_cons (pv 1) (pa_cons (pe_fld (pv 0) (by rfl)) pa_nil)))))
  (pss_one Sm.ps_dead)
  pss_nil)), ?_⟩
    repeat walk_at "rd"
    refine Rd.fldV rfl ht K_Table.cl K_Table.n2 rfl ?_
    repeat walk_at "rd"
    refine ⟨.str x, a.nm, "str", st.ns, rfl, kd_str x, SqL.of tb.nm, ?_⟩
    have e : isIn (.str x) st.ns = true := by show decide (x ∈ st.ns) = true; exact decide_eq_true hx
    rw [e]
    repeat walk_at "rd"
    exact q
end
end Ab
namespace Ab
open M6 PySem.Spec PyProof.Rows
local macro_rules | `(tactic| walk_at "rd") => `(tactic| (with_reducible first | refine Rd.tt_ ?_ | refine Rd.ff_ ?_ | refine Rd.sfld ?_ | refine Rd.dget ?_ | refine Rd.methR ?_ | refine Rd.propR ?_ | refine Rd.statR ?_ | refine Rd.getR ?_))
/-- no body stands at p -/
def NoBd (H : Hp) (p : Addr) : Prop := ∀ C dx fs, H p = some (.ins C dx fs) → fs.length ≠ 3
theorem ent_keep {K : PySem.W.Frag} {CB p : Addr} {H H' : Hp} {m : Str} {e : Ent} {v : V} (k : Keep p H H') (n : NoTup H p) (nb : NoBd H p) (h : EntAt K CB H m e v) : EntAt K CB H' m e v := by
  cases e with
  | w z => exact h
  | b nd =>
    obtain ⟨b, L, x, e, bd, ok⟩ := h
    obtain ⟨dx, hb⟩ := bd.ins
    exact ⟨b, L, x, e, ⟨⟨dx, k _ _ (fun c => by subst c; exact nb _ _ _ hb rfl) hb⟩, dp_keepT k n bd.dp (nd_noList _)⟩, ok⟩
theorem ents_keep {K : PySem.W.Frag} {CB p : Addr} {H H' : Hp} {kvs : List (Key × V)} {f : Str → Option Ent} (k : Keep p H H') (n : NoTup H p) (nb : NoBd H p) (h : Ents K CB H kvs f) : Ents K CB H' kvs f :=
  ⟨h.no, fun m hm e he => let ⟨v, h1, h2⟩ := h.yes m hm e he; ⟨v, h1, ent_keep k n nb h2⟩, h.ks⟩
theorem bk_keep {K : PySem.W.Frag} {C p : Addr} {H H' : Hp} {b w f : Addr} {g : Str → Addr} {m : Str → List Str} {fl : Str → Bool} (k : Keep p H H') (n : NoTup H p) (h1 : b ≠ p) (h2 : w ≠ p) (h3 : f ≠ p) (h : Bk K C H b w f g m fl) : Bk K C H' b w f g m fl :=
  ⟨let ⟨dx, e⟩ := h.ins; ⟨dx, k _ _ h1 e⟩, k _ _ h2 h.wd, k _ _ h3 h.fd, fun o ho => sqT_keep k n (h.tp o ho), h.ne⟩
theorem nb_lst {H : Hp} {p : Addr} {xs : List V} (h : H p = some (.lst xs)) : NoBd H p := fun C dx fs e => by rw [h] at e; cases e
theorem nb_dK {H : Hp} {p : Addr} {xs : List (Key × V)} (h : H p = some (.dK xs)) : NoBd H p := fun C dx fs e => by rw [h] at e; cases e
theorem nb_ins {H : Hp} {p C dx : Addr} {fs : List (Str × V)} (h : H p = some (.ins C dx fs)) (l : fs.length ≠ 3) : NoBd H p := fun C dx fs e => by rw [h] at e; cases e; exact l
def Tt.add (s : Tt) (x : Str) (l o : List Str) : Tt := { s with ns := s.ns ++ [x], bs := fset s.bs x l, od := fset s.od x o, en := fset s.en x fun _ => none }
section
variable {P : Program} {w : World} {K : PySem.W.Frag} {mg : Str → Option Value} {base : Heap}
theorem forTu {tl : TE} {g : TG} {tb : TS} {D : Ends} {σ : L2.St} {H : Hp} (k : tl σ H fun x H1 => tFor (iTup K (tC x)) g tb D σ H1) : tFor (iTup K tl) g tb D σ H := k
abbrev sTable_add : Stmt := meth 66 2
abbrev nTable_add : List Str := ["self", "name", "bases", "base", "bases_then", "order"]
theorem scTable_add : FnScope nTable_add ["self", "name", "bases"] (defScope sTable_add) := ⟨rfl, rfl, rfl, by decide +kernel, rfl, by decide +kernel, by decide +kernel⟩
def spAdd (K : PySem.W.Frag) (CT CB CK : Addr) : Sp := fun vs H Q _ => ∃ (H0 : Hp) (t : Addr) (a : TA) (s : Tt) (c : Nat) (x : Str) (p : Addr) (l o : List Str) (rk : Str → Nat), vs = [.ref t, .str x, .ref p] ∧ TbAt K CT CB CK H0 H t a s c ∧ Same H0 H ∧ SqT K H p (l.map V.str) ∧
  wordOk x = true ∧ x ∉ s.ns ∧ s.ns.length < 8 ∧ (∀ b ∈ l, b ∈ s.ns) ∧ Dag (s.ns ++ [x]) (fset s.bs x l) rk ∧ rk x < 9 ∧ ordF (fset s.bs x l) 9 x = some o ∧ (∀ n ∈ s.ns, s.en n = fun _ => none) ∧
  ∀ a' H', Same H0 H' → TbAt K CT CB CK H0 H' t a' (s.add x l o) c → Q .non H'
theorem ok_add (T : Txt K mg) {CT CB CK : Addr} {t8 : Tok} (g_MOST_CLASSES : mg "MOST_CLASSES" = some (.int 8 t8)) (K_Table : TF K mg CT) (CIs_word : CalG P w K mg base 1 "is_word" (spWord K)) (COrder_of : CalG P w K mg base 12 "order_of" (spOrder K 9)) (M_Table__check_class : Ob.MCal P w K mg base CX0 CT 2 "_check_class" (spCC K CT CB CK)) {f : Addr} {fd : FuncData}
    (F : Fun K "add" "Table.add" sTable_add f fd) (hb : ∀ us rest : List Value, us.length = 2 → bindArgs fd ⟨us ++ rest, []⟩ = (newTuple rest >>= fun t => pure ((["self", "name"] : List Str).zip us ++ [(("bases" : Str), t)]))) : Sm.FnS P w K mg base CX0 13 f (Sm.spStar 2 (spAdd K CT CB CK)) := by
  refine Sm.defS0 (ps := ["self", "name"]) (pv := "bases") F scTable_add hb (fun cd A hg outer s H vs Q E hr h => ?_)
  obtain ⟨H0, t, a, st, c, x, p, l, o, rk, rfl, tb, s0, hp, wo, nx, l8, hl, dag, rx, eo, _, q⟩ := h
  obtain ⟨dx, ht⟩ := tb.ins
  refine ⟨_, (pss_cons (ps_if (pt_not (pt_val (pe_cG CIs_word hg hr (by decide) (pa_cons (pv 1) pa_nil))))
  (pss_one Sm.ps_dead)
  pss_nil)
  (pss_cons (ps_if (pt_cmpR (r := rIn K false) op_in_seq (pv 1) (pe_fld (pv 0) (by rfl)) (by rfl))
  (pss_one Sm.ps_dead)
  pss_nil)
  (pss_cons (ps_for (wi := iTup K _) PassesOwn.never rfl (pi_tup (pv 2)) (pg_name (i := 3) scTable_add.nd rfl (Or.inl rfl))
  (pss_one (ps_expr (Ob.meth (pv 0) K_Table.cl M_Table__check_class hg hr (by decide) pass0 (pa_cons (pv 3) pa_nil)))))
  (pss_cons (ps_set (i := 4) scTable_add.nd rfl (Or.inl rfl) (Dd.pe_dstar (pe_fld (pv 0) (by rfl)) (pv 1) (pv 2)))
  (pss_cons (ps_set (i := 5) scTable_add.nd rfl (Or.inl rfl) (pe_cG COrder_of hg hr (by decide) (pa_cons (pv 1) (pa_cons (pv 4) pa_nil))))
  (pss_cons (ps_if (pt_cmpR op_isN (pv 5) pe_non (nomark _))
  (pss_one Sm.ps_dead)
  pss_nil)
  (pss_cons (ps_if (pt_cmpR op_ge (pe_callB (r := Rd.rLenK K) Rd.callLen (by rfl) T.len PySem.boot_len (pa_cons (pe_fld (pv 0) (by rfl)) pa_nil)) (pe_glob (v := .int 8) (by rfl) g_MOST_CLASSES ⟨_, rfl⟩) (nomark _))
  (pss_one Sm.ps_dead)
  pss_nil)
  (pss_cons (ps_expr (pe_bm PySem.F.plainAttrs_list PySem.F.slot_list_append PySem.F.type_list_append mt_append (pe_fld (pv 0) (by rfl)) (pa_cons (pv 1) pa_nil)))
  (pss_cons (ps_fld (pv 0) (pv 4) (by rfl))
  (pss_cons (ps_asg (pv 5) (pg_sub (pe_fld (pv 0) (by rfl)) (pv 1) (set_dict (one_ hr.units))))
  (pss_one (ps_asg pe_dnewK (pg_sub (pe_fld (pv 0) (by rfl)) (pv 1) (set_dict (one_ hr.units))))))))))))))), ?_⟩
  repeat walk_at "rd"
  refine ⟨x, rfl, wo, ?_⟩
  repeat walk_at "rd"
  refine Rd.ff_ ?_
  repeat walk_at "rd"
  refine Rd.fldV rfl ht K_Table.cl K_Table.n2 rfl ?_
  refine Rd.inL (SqL.of tb.nm) rfl (flat_strs _) ?_
  have e1 : (if (false : Bool) = true then !inV (.str x) (st.ns.map V.str) else inV (.str x) (st.ns.map V.str)) = false := by rw [inV_str]; exact decide_eq_false nx
  rw [e1]
  repeat walk_at "rd"
  refine forTu ?_
  repeat walk_at "rd"
  refine ⟨p, rfl, ⟨_, hp⟩, ?_⟩
  refine for_tup (K := K) (a := p) (xs := l.map V.str) (fun i σ H1 => ∃ v3, σ = [some (.ref t), some (.str x), some (.ref p), v3, none, none] ∧ H1 = H) ⟨_, rfl, rfl⟩ (fun i σ H1 _ ⟨_, _, e⟩ => by rw [e]; exact hp) ?_ ?_
  · rintro i z σ H1 hz ⟨v3, rfl, eH⟩
    obtain rfl : H = H1 := eH.symm
    obtain ⟨hi, e⟩ := List.getElem?_eq_some_iff.mp hz
    rw [List.length_map] at hi
    rw [List.getElem_map] at e
    subst e
    repeat walk_at "rd"
    refine ⟨t, dx, _, rfl, ht, rfl, ?_⟩
    repeat walk_at "rd"
    refine ⟨H0, t, a, st, c, l[i], rfl, tb, hl _ (List.getElem_mem hi), ?_⟩
    exact ⟨_, rfl, rfl⟩
  · rintro σ H1 ⟨v3, rfl, eH⟩
    obtain rfl : H = H1 := eH.symm
    clear eH
    repeat walk_at "rd"
    refine fun pb hpb => ?_
    have pt : t ≠ pb := ne_of_none ht hpb
    have s1 := Rd.sNew (o := .dK []) hpb
    refine Rd.fldV rfl (by rw [upd_ne pt]; exact ht) K_Table.cl K_Table.n3 rfl ?_
    have bp : a.ba ≠ pb := ne_of_none tb.ba.dt hpb
    refine ⟨upd_same, a.ba, tab st.ns fun m => .ref (a.gB m), rfl, bp, .inl (by rw [upd_ne bp]; exact tb.ba.dt), by rw [tab_len]; exact Rd.sz (by omega), fun q0 qp hq0 => ?_⟩
    rw [upd_upd]
    rw [upd_ne qp] at hq0
    repeat walk_at "rd"
    refine ⟨upd_same, by rw [upd_ne (Ne.symm qp), upd_same], x, rfl, ?_⟩
    rw [upd_upd, tab_put_new nx, fset_ref]
    have sB : Same H (upd (upd (upd H pb (.dK (tab st.ns fun m => .ref (a.gB m)))) q0 (.dK [(.inr x, .ref p)])) pb (.dK (tab (st.ns ++ [x]) fun m => .ref (fset a.gB x p m)))) := fun b u e => by
      rw [upd_ne (ne_of_none e hpb), upd_ne (ne_of_none e hq0), upd_ne (ne_of_none e hpb)]
      exact e
    have dB : upd (upd (upd H pb (.dK (tab st.ns fun m => .ref (a.gB m)))) q0 (.dK [(.inr x, .ref p)])) pb (.dK (tab (st.ns ++ [x]) fun m => .ref (fset a.gB x p m))) pb = some (.dK (tab (st.ns ++ [x]) fun m => .ref (fset a.gB x p m))) := upd_same
    generalize upd (upd (upd H pb (.dK (tab st.ns fun m => .ref (a.gB m)))) q0 (.dK [(.inr x, .ref p)])) pb (.dK (tab (st.ns ++ [x]) fun m => .ref (fset a.gB x p m))) = H1 at sB dB ⊢
    have ba1 : BasesAt K H1 pb (st.ns ++ [x]) (fset a.gB x p) (fset st.bs x l) := ⟨dB, fun m hm => by
      by_cases c : m = x
      · subst c; rw [fset_at, fset_at]; exact sqT_same sB hp
      · rw [fset_ne c, fset_ne c]
        refine sqT_same sB (tb.ba.tp m ?_)
        rcases List.mem_append.mp hm with h | h
        · exact h
        · exact absurd (List.mem_singleton.mp h) c⟩
    repeat walk_at "rd"
    refine ⟨x, pb, st.ns ++ [x], fset a.gB x p, fset st.bs x l, rk, rfl, ba1, dag, by rw [List.length_append]; show st.ns.length + 1 ≤ 20; omega, by simp, rx, fun e H2 s2 => (nomatch (eo.symm.trans e)), fun l2 e2 L H2 hL s2 hl2 => ?_⟩
    obtain rfl : o = l2 := by rw [eo] at e2; exact Option.some.inj e2
    have s12 := sB.trans s2
    have tb2 := tb.mono s12
    have dB2 := ba1.mono s2
    repeat walk_at "rd"
    refine Rd.dec (fun c => nomatch c) (fun _ => ?_)
    repeat walk_at "rd"
    have ht2 := s12 _ _ ht
    refine Rd.fldV rfl ht2 K_Table.cl K_Table.n2 rfl ?_
    repeat walk_at "rd"
    refine Rd.lenK (SqL.of tb2.nm) ?_
    repeat walk_at "rd"
    refine Rd.dec (fun c => absurd c (by rw [List.length_map]; omega)) (fun _ => ?_)
    repeat walk_at "rd"
    refine Rd.fldV rfl ht2 K_Table.cl K_Table.n2 rfl ?_
    refine ⟨Rd.ty_list tb2.nm, ?_⟩
    repeat walk_at "rd"
    refine Rd.app tb2.nm (Rd.szl (by rw [List.length_map]; omega)) ?_
    have en' : st.ns.map V.str ++ [V.str x] = (st.ns ++ [x]).map V.str := by rw [List.map_append]; rfl
    rw [en']
    have tnm : t ≠ a.nm := fun e => by rw [e, tb2.nm] at ht2; cases ht2
    have k3 : Keep a.nm H2 (upd H2 a.nm (.lst ((st.ns ++ [x]).map V.str))) := Keep.put (fun _ _ _ e => e)
    have ht3 := k3 _ _ tnm ht2
    have nm3 : upd H2 a.nm (.lst ((st.ns ++ [x]).map V.str)) a.nm = some (.lst ((st.ns ++ [x]).map V.str)) := upd_same
    have nt2 := nt_lst tb2.nm
    have nb2 := nb_lst tb2.nm
    generalize upd H2 a.nm (.lst ((st.ns ++ [x]).map V.str)) = H3 at k3 ht3 nm3 ⊢
    repeat walk_at "rd"
    refine ⟨t, CT, dx, _, rfl, ht3, K_Table.cl, K_Table.n3, by simp, ?_⟩
    have e4 : putF "_bases" (.ref pb) [(("_book" : Str), V.ref a.bk), ("_names", .ref a.nm), ("_bases", .ref a.ba), ("_orders", .ref a.od), ("_entries", .ref a.en)] = [(("_book" : Str), V.ref a.bk), ("_names", .ref a.nm), ("_bases", .ref pb), ("_orders", .ref a.od), ("_entries", .ref a.en)] := rfl
    rw [e4]
    have k4 : Keep t H3 (upd H3 t (.ins CT dx [("_book", .ref a.bk), ("_names", .ref a.nm), ("_bases", .ref pb), ("_orders", .ref a.od), ("_entries", .ref a.en)])) := Keep.put (fun _ _ _ e => e)
    have ht4 : upd H3 t (.ins CT dx [("_book", .ref a.bk), ("_names", .ref a.nm), ("_bases", .ref pb), ("_orders", .ref a.od), ("_entries", .ref a.en)]) t = some (.ins CT dx [("_book", .ref a.bk), ("_names", .ref a.nm), ("_bases", .ref pb), ("_orders", .ref a.od), ("_entries", .ref a.en)]) := upd_same
    have nt3 := nt_ins ht3
    have nb3 := nb_ins ht3 (by simp)
    generalize upd H3 t (.ins CT dx [("_book", .ref a.bk), ("_names", .ref a.nm), ("_bases", .ref pb), ("_orders", .ref a.od), ("_entries", .ref a.en)]) = H4 at k4 ht4 ⊢
    repeat walk_at "rd"
    refine Rd.fldV rfl ht4 K_Table.cl K_Table.n4 rfl ?_
    repeat walk_at "rd"
    have odn : a.od ≠ a.nm := fun e => by have := tb2.od; rw [e, tb2.nm] at this; cases this
    have odt : a.od ≠ t := fun e => by have := tb2.od; rw [e, ht2] at this; cases this
    have od4 := k4 _ _ odt (k3 _ _ odn tb2.od)
    refine ⟨a.od, _, rfl, .inl ⟨_, .inr x, od4, rfl, by rw [tab_len]; exact Rd.szl (by omega), rfl⟩, ?_⟩
    rw [tab_put_new nx, fset_ref]
    have k5 : Keep a.od H4 (upd H4 a.od (.dK (tab (st.ns ++ [x]) fun m => .ref (fset a.gO x L m)))) := Keep.put (fun _ _ _ e => e)
    have od5 : upd H4 a.od (.dK (tab (st.ns ++ [x]) fun m => .ref (fset a.gO x L m))) a.od = some (.dK (tab (st.ns ++ [x]) fun m => .ref (fset a.gO x L m))) := upd_same
    have nt4 := nt_dK od4
    have nb4 := nb_dK od4
    have ht5 := k5 _ _ (Ne.symm odt) ht4
    generalize upd H4 a.od (.dK (tab (st.ns ++ [x]) fun m => .ref (fset a.gO x L m))) = H5 at k5 od5 ht5 ⊢
    repeat walk_at "rd"
    refine fun G hG => ?_
    have s6 := Rd.sNew (o := .dK []) hG
    have G6 : upd H5 G (.dK []) G = some (.dK []) := upd_same
    generalize upd H5 G (.dK []) = H6 at s6 G6 ⊢
    repeat walk_at "rd"
    refine Rd.fldV rfl (s6 _ _ ht5) K_Table.cl K_Table.n5 rfl ?_
    repeat walk_at "rd"
    have enn : a.en ≠ a.nm := fun e => by have := tb2.en; rw [e, tb2.nm] at this; cases this
    have ent : a.en ≠ t := fun e => by have := tb2.en; rw [e, ht2] at this; cases this
    have dd := tb.d1
    simp only [List.nodup_cons, List.mem_cons, not_or] at dd
    obtain ⟨⟨w1, w2, w3, w4, w5⟩, ⟨f2, f3, f4, f5⟩, ⟨b3, b4, b5⟩, ⟨o4, o5⟩, n5, ndE⟩ := dd
    have en4 := k4 _ _ ent (k3 _ _ enn tb2.en)
    have en6 := s6 _ _ (k5 _ _ (Ne.symm o4) en4)
    refine ⟨a.en, _, rfl, .inl ⟨_, .inr x, en6, rfl, by rw [tab_len]; exact Rd.szl (by omega), rfl⟩, ?_⟩
    rw [tab_put_new nx, fset_ref]
    have k7 : Keep a.en H6 (upd H6 a.en (.dK (tab (st.ns ++ [x]) fun m => .ref (fset a.gE x G m)))) := Keep.put (fun _ _ _ e => e)
    have en7 : upd H6 a.en (.dK (tab (st.ns ++ [x]) fun m => .ref (fset a.gE x G m))) a.en = some (.dK (tab (st.ns ++ [x]) fun m => .ref (fset a.gE x G m))) := upd_same
    have nt6 := nt_dK en6
    have nb6 := nb_dK en6
    generalize upd H6 a.en (.dK (tab (st.ns ++ [x]) fun m => .ref (fset a.gE x G m))) = H7 at k7 en7 ⊢
    -- all that is not told anew
    have keep : ∀ {b : Addr} {o : HO}, H2 b = some o → b ≠ a.nm → b ≠ t → b ≠ a.od → b ≠ a.en → H7 b = some o := fun h c1 c2 c3 c4 => k7 _ _ c4 (s6 _ _ (k5 _ _ c3 (k4 _ _ c2 (k3 _ _ c1 h))))
    have tups : ∀ {b : Addr} {xs : List V}, SqT K H2 b xs → SqT K H7 b xs := fun h => sqT_keep k7 nt6 (sqT_same s6 (sqT_keep k5 nt4 (sqT_keep k4 nt3 (sqT_keep k3 nt2 h))))
    have ents : ∀ {kvs : List (Key × V)} {f : Str → Option Ent}, Ents K CB H2 kvs f → Ents K CB H7 kvs f := fun h => ents_keep k7 nt6 nb6 ((ents_keep k5 nt4 nb4 (ents_keep k4 nt3 nb3 (ents_keep k3 nt2 nb2 h))).mono s6)
    obtain ⟨n0, n1, n2, n3, n4⟩ := tb.new
    have G4 : H4 G = none := by
      cases z : H4 G with
      | none => rfl
      | some u =>
        by_cases c : G = a.od
        · rw [c, od5] at hG; cases hG
        · rw [k5 _ _ c z] at hG; cases hG
    have G2 : H2 G = none := by
      cases z : H2 G with
      | none => rfl
      | some u =>
        by_cases c : G = t
        · rw [c, ht5] at hG; cases hG
        · by_cases c2 : G = a.nm
          · rw [c2, k4 _ _ (Ne.symm tnm) nm3] at G4; cases G4
          · rw [k4 _ _ c (k3 _ _ c2 z)] at G4; cases G4
    have Gn : ∀ {b : Addr} {o : HO}, H2 b = some o → b ≠ G := fun h e => by rw [e, G2] at h; cases h
    have Ln : ∀ {b : Addr} {o : HO}, H b = some o → b ≠ L := fun h e => by have := sB _ _ h; rw [e, hL] at this; cases this
    have hH : ∀ {b : Addr} {o : HO}, H b = some o → b ≠ pb := fun h => ne_of_none h hpb
    have sub : ∀ m ∈ st.ns, m ≠ x := fun m hm e => nx (by rw [← e]; exact hm)
    have mem : ∀ m, m ∈ st.ns ++ [x] → m = x ∨ m ∈ st.ns := fun m hm => (List.mem_append.mp hm).elim Or.inr fun h => .inl (List.mem_singleton.mp h)
    have mapE : (st.ns ++ [x]).map (fset a.gE x G) = st.ns.map a.gE ++ [G] := by
      rw [List.map_append, List.map_congr_left (g := a.gE) fun m hm => fset_ne (sub m hm)]
      show _ ++ [fset a.gE x G x] = _
      rw [fset_at]
    have mapO : (st.ns ++ [x]).map (fset a.gO x L) = st.ns.map a.gO ++ [L] := by
      rw [List.map_append, List.map_congr_left (g := a.gO) fun m hm => fset_ne (sub m hm)]
      show _ ++ [fset a.gO x L x] = _
      rw [fset_at]
    have d2 := tb.d2
    rw [List.nodup_cons] at d2
    refine q { a with ba := pb, gB := fset a.gB x p, gO := fset a.gO x L, gE := fset a.gE x G } H7 (fun b u e => ?_) ?_
    · have nz : ∀ {d : Addr}, H0 d = none → b ≠ d := fun h c => by rw [c, h] at e; cases e
      exact keep (s12 _ _ (s0 _ _ e)) (nz n1) (nz n0) (nz n2) (nz n3)
    · have bk2 := tb2.bk
      obtain ⟨dk, hk⟩ := bk2.ins
      have cI : ∀ {b d C e : Addr} {fs : List (Str × V)} {kv : List (Key × V)}, H2 b = some (.ins C e fs) → H2 d = some (.dK kv) → b ≠ d := fun h1 h2 c => by rw [c, h2] at h1; cases h1
      have cL : ∀ {b d : Addr} {xs : List V} {kv : List (Key × V)}, H2 b = some (.lst xs) → H2 d = some (.dK kv) → b ≠ d := fun h1 h2 c => by rw [c, h2] at h1; cases h1
      have cJ : ∀ {b d C e : Addr} {fs : List (Str × V)} {xs : List V}, H2 b = some (.ins C e fs) → H2 d = some (.lst xs) → b ≠ d := fun h1 h2 c => by rw [c, h2] at h1; cases h1
      have bt : a.bk ≠ t := fun c => by rw [c, ht2] at hk; cases hk
      refine { ins := ⟨dx, k7 _ _ (Ne.symm ent) (s6 _ _ ht5)⟩, bk := ⟨⟨dk, keep hk (cJ hk tb2.nm) bt (cI hk tb2.od) (cI hk tb2.en)⟩, keep bk2.wd (Ne.symm (cL tb2.nm bk2.wd)) (Ne.symm (cI ht2 bk2.wd)) w3 w4, keep bk2.fd (Ne.symm (cL tb2.nm bk2.fd)) (Ne.symm (cI ht2 bk2.fd)) f3 f4, fun o ho => tups (bk2.tp o ho), bk2.ne⟩, nm := k7 _ _ (Ne.symm enn) (s6 _ _ (k5 _ _ (Ne.symm odn) (k4 _ _ (Ne.symm tnm) nm3))), ba := ⟨keep dB2.dt (Ne.symm (cL tb2.nm dB2.dt)) (Ne.symm (cI ht2 dB2.dt)) (fun c => hH tb.od c.symm) (fun c => hH tb.en c.symm), fun m hm => tups (dB2.tp m hm)⟩, od := k7 _ _ o4 (s6 _ _ od5), ol := fun n hn => ?_, en := en7, ee := fun n hn => ?_, d1 := ?_, d2 := ?_, new := ⟨n0, n1, n2, n3, fun n hn => ?_⟩ }
      · rcases mem n hn with rfl | hn
        · show H7 (fset a.gO n L n) = some (.lst ((fset st.od n o n).map V.str))
          rw [fset_at, fset_at]
          exact keep hl2 (fun c => Ln tb.nm c.symm) (fun c => Ln ht c.symm) (fun c => Ln tb.od c.symm) (fun c => Ln tb.en c.symm)
        · show H7 (fset a.gO x L n) = some (.lst ((fset st.od x o n).map V.str))
          rw [fset_ne (sub n hn), fset_ne (sub n hn)]
          have h := tb2.ol n hn
          exact keep h (fun c => d2.1 (c ▸ List.mem_map_of_mem hn)) (Ne.symm (cJ ht2 h)) (cL h tb2.od) (cL h tb2.en)
      · rcases mem n hn with rfl | hn
        · refine ⟨[], ?_, Nat.zero_le _, ⟨fun _ _ _ => rfl, fun m hm e he => ?_, ksOk_nil⟩⟩
          · show H7 (fset a.gE n G n) = _
            rw [fset_at]
            exact k7 _ _ (fun c => Gn tb2.en c.symm) G6
          · have he : fset st.en n (fun _ => none) n m = some e := he
            rw [fset_at] at he
            cases he
        · obtain ⟨kvs, h1, h2, h3⟩ := tb2.ee n hn
          refine ⟨kvs, ?_, h2, ?_⟩
          · show H7 (fset a.gE x G n) = _
            rw [fset_ne (sub n hn)]
            exact keep h1 (Ne.symm (cL tb2.nm h1)) (Ne.symm (cI ht2 h1)) (fun c => o5 (c ▸ List.mem_map_of_mem hn)) (fun c => n5 (c ▸ List.mem_map_of_mem hn))
          · show Ents K CB H7 kvs (fset st.en x (fun _ => none) n)
            rw [fset_ne (sub n hn)]
            exact ents h3
      · show (a.w :: a.f :: pb :: a.od :: a.en :: (st.ns ++ [x]).map (fset a.gE x G)).Nodup
        rw [mapE]
        have gp : ∀ m ∈ st.ns, a.gE m ≠ pb := fun m hm => let ⟨_, h, _⟩ := tb.ee m hm; hH h
        have gg : ∀ m ∈ st.ns, a.gE m ≠ G := fun m hm => let ⟨_, h, _⟩ := tb2.ee m hm; Gn h
        have c1 := hH tb.bk.wd
        have c2 := hH tb.bk.fd
        have c3 := hH tb.od
        have c4 := hH tb.en
        have c5 := Gn tb2.bk.wd
        have c6 := Gn tb2.bk.fd
        have c7 := Gn tb2.od
        have c8 := Gn tb2.en
        have c9 := Gn dB2.dt
        have pz : pb ∉ st.ns.map a.gE := fun h => let ⟨m, hm, e⟩ := List.mem_map.mp h; gp m hm e
        have Gz : G ∉ st.ns.map a.gE := fun h => let ⟨m, hm, e⟩ := List.mem_map.mp h; gg m hm e
        have ndE2 : (st.ns.map a.gE ++ [G]).Nodup := List.nodup_append.mpr ⟨ndE, by simp, fun u hu v hv c => Gz (by rw [← List.mem_singleton.mp hv, ← c]; exact hu)⟩
        simp only [List.nodup_cons, List.mem_cons, List.mem_append, List.not_mem_nil, or_false, not_or]
        exact ⟨⟨w1, c1, w3, w4, w5, c5⟩, ⟨c2, f3, f4, f5, c6⟩, ⟨fun c => c3 c.symm, fun c => c4 c.symm, pz, c9⟩, ⟨o4, o5, c7⟩, ⟨n5, c8⟩, ndE2⟩
      · show (a.nm :: (st.ns ++ [x]).map (fset a.gO x L)).Nodup
        rw [mapO]
        have Lz : L ∉ st.ns.map a.gO := fun h => let ⟨m, hm, e⟩ := List.mem_map.mp h; Ln (tb.ol m hm) e
        have ndO : (st.ns.map a.gO ++ [L]).Nodup := List.nodup_append.mpr ⟨d2.2, by simp, fun u hu v hv c => Lz (by rw [← List.mem_singleton.mp hv, ← c]; exact hu)⟩
        simp only [List.nodup_cons, List.mem_cons, List.mem_append, List.not_mem_nil, or_false, not_or]
        exact ⟨⟨d2.1, Ln tb.nm⟩, ndO⟩
      · rcases mem n hn with rfl | hn
        · show H0 (fset a.gE n G n) = none
          rw [fset_at]
          exact Same.free s0 (Same.free s12 G2)
        · show H0 (fset a.gE x G n) = none
          rw [fset_ne (sub n hn)]
          exact n4 n hn
end
end Ab
namespace Ab
open M6 PySem.Spec PyProof.Rows
local macro_rules | `(tactic| walk_at "rd") => `(tactic| (with_reducible first | refine Rd.tt_ ?_ | refine Rd.ff_ ?_ | refine Rd.sfld ?_ | refine Rd.dget ?_ | refine Rd.methR ?_ | refine Rd.propR ?_ | refine Rd.statR ?_ | refine Rd.getR ?_))
theorem isIn_of {x : Str} {l : List Str} (h : x ∈ l) : isIn (.str x) l = true := decide_eq_true h
theorem dget1R {td ty : TE} {σ : L2.St} {H : Hp} {Q : VK} (k : td σ H fun x H1 => ∃ a, x = .ref a ∧ IsD H1 a ∧ ty σ H1 fun y H2 => ∃ o, DGet H2 a y o ∧ Q (o.getD .non) H2) : tDGet1 td ty σ H Q := k
theorem dpop2R {td ty tx : TE} {σ : L2.St} {H : Hp} {Q : VK} (k : td σ H fun x H1 => ∃ a, x = .ref a ∧ IsD H1 a ∧ ty σ H1 fun y H2 => tx σ H2 fun z H3 => ∃ kvs k, H3 a = some (.dK kvs) ∧ y = kV k ∧
  (∀ v, valV kvs k = some v → Q v (upd H3 a (.dK (dropK kvs k)))) ∧ (valV kvs k = none → Q z H3)) : tDPop2 td ty tx σ H Q := k
theorem dinR {td ty : TE} {σ : L2.St} {H : Hp} {Q : VK} (k : ty σ H fun y H1 => td σ H1 fun x H2 => ∃ a o, x = .ref a ∧ DGet H2 a y o ∧ Q (.bl o.isSome) H2) : tDIn ty td σ H Q := k
theorem valV_drop' {kvs : List (Key × V)} {k j : Key} : valV (dropK kvs k) j = if j = k then none else valV kvs j := by
  unfold dropK
  induction kvs with
  | nil => simp [valV]
  | cons p r ih =>
    by_cases e : p.1 = k
    · rw [List.filter_cons_of_neg (by simp [e]), ih]
      by_cases c : j = k
      · rw [if_pos c, if_pos c]
      · rw [if_neg c, if_neg c, valV_neg (fun z => c (by rw [← z, e]))]
    · rw [List.filter_cons_of_pos (by simp [e])]
      by_cases c : p.1 = j
      · rw [valV_pos c, valV_pos c, if_neg (fun z => e (by rw [c, z]))]
      · rw [valV_neg c, valV_neg c, ih]
theorem map_ne {f : Str → Addr} : ∀ {l : List Str}, (l.map f).Nodup → ∀ {a b : Str}, a ∈ l → b ∈ l → a ≠ b → f a ≠ f b
  | [], _, _, _, h, _, _ => nomatch h
  | c :: l, nd, a, b, ha, hb, ne => by
    rw [List.map_cons, List.nodup_cons] at nd
    rcases List.mem_cons.mp ha with ea | ma
    · rcases List.mem_cons.mp hb with eb | mb
      · exact absurd (ea.trans eb.symm) ne
      · exact fun e => nd.1 (by rw [← ea, e]; exact List.mem_map_of_mem mb)
    · rcases List.mem_cons.mp hb with eb | mb
      · exact fun e => nd.1 (by rw [← eb, ← e]; exact List.mem_map_of_mem ma)
      · exact map_ne nd.2 ma mb ne
def Tt.put (s : Tt) (x m : Str) (o : Option Ent) : Tt := { s with en := fset s.en x (fset (s.en x) m o) }
theorem TbAt.put {K : PySem.W.Frag} {CT CB CK : Addr} {H0 H : Hp} {t : Addr} {a : TA} {s : Tt} {c c' : Nat} {x : Str} {kvs kvs' : List (Key × V)} {f : Str → Option Ent} (h : TbAt K CT CB CK H0 H t a s c) (s0 : Same H0 H) (hx : x ∈ s.ns) (hk : H (a.gE x) = some (.dK kvs))
    (he : Ents K CB H kvs' f) (lz : kvs'.length ≤ c') (lc : c ≤ c') : Same H0 (upd H (a.gE x) (.dK kvs')) ∧ TbAt K CT CB CK H0 (upd H (a.gE x) (.dK kvs')) t a { s with en := fset s.en x f } c' := by
  have k : Keep (a.gE x) H (upd H (a.gE x) (.dK kvs')) := Keep.put (fun _ _ _ e => e)
  have e1 : upd H (a.gE x) (.dK kvs') (a.gE x) = some (.dK kvs') := upd_same
  have n0 := h.new.2.2.2.2 x hx
  have s1 : Same H0 (upd H (a.gE x) (.dK kvs')) := fun b u e => k _ _ (fun c => by rw [c, n0] at e; cases e) (s0 _ _ e)
  refine ⟨s1, ?_⟩
  have nt := nt_dK hk
  have nb := nb_dK hk
  clear s1
  generalize upd H (a.gE x) (.dK kvs') = H' at k e1 ⊢
  have dd := h.d1
  have d1 := h.d1
  have d2 := h.d2
  have nw := h.new
  simp only [List.nodup_cons, List.mem_cons, not_or] at dd
  obtain ⟨⟨w1, w2, w3, w4, w5⟩, ⟨f2, f3, f4, f5⟩, ⟨b3, b4, b5⟩, ⟨o4, o5⟩, n5, ndE⟩ := dd
  have inE := List.mem_map_of_mem (f := a.gE) hx
  obtain ⟨dx, ht⟩ := h.ins
  have bk := h.bk
  obtain ⟨dk, hb⟩ := bk.ins
  have cI : ∀ {b C e : Addr} {fs : List (Str × V)}, H b = some (.ins C e fs) → b ≠ a.gE x := fun h1 c => by rw [c, hk] at h1; cases h1
  have cL : ∀ {b : Addr} {xs : List V}, H b = some (.lst xs) → b ≠ a.gE x := fun h1 c => by rw [c, hk] at h1; cases h1
  refine { ins := ⟨dx, k _ _ (cI ht) ht⟩, bk := ⟨⟨dk, k _ _ (cI hb) hb⟩, k _ _ (fun c => w5 (c ▸ inE)) bk.wd, k _ _ (fun c => f5 (c ▸ inE)) bk.fd, fun o ho => sqT_keep k nt (bk.tp o ho), bk.ne⟩, nm := k _ _ (cL h.nm) h.nm, ba := ⟨k _ _ (fun c => b5 (c ▸ inE)) h.ba.dt, fun m hm => sqT_keep k nt (h.ba.tp m hm)⟩, od := k _ _ (fun c => o5 (c ▸ inE)) h.od, ol := fun n hn => k _ _ (cL (h.ol n hn)) (h.ol n hn), en := k _ _ (fun c => n5 (c ▸ inE)) h.en, ee := fun n hn => ?_, d1 := d1, d2 := d2, new := nw }
  by_cases c : n = x
  · subst c
    refine ⟨kvs', e1, lz, ?_⟩
    show Ents K CB H' kvs' (fset s.en n f n)
    rw [fset_at]
    exact ents_keep k nt nb he
  · obtain ⟨kv, h1, h2, h3⟩ := h.ee n hn
    refine ⟨kv, k _ _ (map_ne ndE hn hx c) h1, Nat.le_trans h2 lc, ?_⟩
    show Ents K CB H' kv (fset s.en x f n)
    rw [fset_ne c]
    exact ents_keep k nt nb h3
section
variable {P : Program} {w : World} {K : PySem.W.Frag} {mg : Str → Option Value} {base : Heap}
abbrev sIs_entry : Stmt := top 65
abbrev nIs_entry : List Str := ["method", "value"]
theorem scIs_entry : FnScope nIs_entry ["method", "value"] (defScope sIs_entry) := ⟨rfl, rfl, rfl, by decide +kernel, rfl, by decide +kernel, by decide +kernel⟩
def spIsEntry (K : PySem.W.Frag) (CB : Addr) : Sp := fun vs H Q _ => ∃ (m : Str) (e : Ent) (v : V), vs = [.str m, v] ∧ EntAt K CB H m e v ∧ Q (.bl true) H
theorem ok_is_entry (T : Txt K mg) {C_Body p_ENTRY_WORDS : Addr} (g_ENTRY_WORDS : mg "ENTRY_WORDS" = some (.ref p_ENTRY_WORDS)) (tE : ∀ H, SqT K H p_ENTRY_WORDS (entW.map V.str)) (K_Body : BdF K mg C_Body) (ic : BIC K C_Body) (kS : PySem.W.kitOne K (.type "str") (.ref C_Body) = some false)
    (D : DefAt K mg "is_entry" sIs_entry ["method", "value"]) (CIs_one_of : CalG P w K mg base 1 "is_one_of" (spOneOf K)) : CalG P w K mg base 2 "is_entry" (spIsEntry K C_Body) := by
  refine D.by scIs_entry (fun vs H Q E h => ?_) (fun f cd A hg outer s H vs Q E hr h => ?_)
  · obtain ⟨_, _, _, rfl, _⟩ := h
    rfl
  · obtain ⟨m, e, v, rfl, he, q⟩ := h
    refine ⟨_, (pss_cons (ps_if (pt_val (pe_callB (r := rIsi K) call_isi (by rfl) T.isinstance (by decide +kernel) (pa_cons (pv 1) (pa_cons (pe_glob (v := .ref C_Body) (by rfl) K_Body.g rfl) pa_nil))))
  (pss_one (ps_ret (pe_cmpR (r := rEqD K) (op_eqD hr.units) (pe_fld (pv 1) (by rfl)) (pv 0) (nomark _))))
  pss_nil)
  (pss_one (ps_ret (pe_cG CIs_one_of hg hr (by decide) (pa_cons (pv 1) (pa_cons (pe_glob (v := .ref p_ENTRY_WORDS) (by rfl) g_ENTRY_WORDS rfl) pa_nil)))))), ?_⟩
    repeat walk_at "rd"
    cases e with
    | w z =>
      obtain ⟨rfl, hz⟩ := he
      refine ⟨.str z, .ref C_Body, .type "str", .ref C_Body, false, rfl, .own _, .base (.str z), kS, ?_⟩
      repeat walk_at "rd"
      refine ⟨.str z, p_ENTRY_WORDS, "str", entW, rfl, kd_str z, tE H, ?_⟩
      rw [isIn_of hz]
      exact q
    | b nd =>
      obtain ⟨b, L, x, rfl, bd, ok⟩ := he
      obtain ⟨dx, hb⟩ := bd.ins
      refine ⟨.ref b, .ref C_Body, .ref C_Body, .ref C_Body, true, rfl, .own _, bd_ty K_Body ic bd, kit_self, ?_⟩
      repeat walk_at "rd"
      refine Rd.fldV rfl hb K_Body.cl K_Body.n1 rfl ?_
      repeat walk_at "rd"
      refine Rd.eqD (d := .str m) (e := .str m) (.str _) (.str _) (meth_shaped ok.mm) (meth_shaped ok.mm) ?_
      rw [eqv_str, decide_eq_true rfl]
      exact q
abbrev sTable___getitem__ : Stmt := meth 66 3
abbrev nTable___getitem__ : List Str := ["self", "at", "name", "method"]
theorem scTable___getitem__ : FnScope nTable___getitem__ ["self", "at"] (defScope sTable___getitem__) := ⟨rfl, rfl, rfl, by decide +kernel, rfl, by decide +kernel, by decide +kernel⟩
def spTGet (K : PySem.W.Frag) (CT CB CK : Addr) : Sp := fun vs H Q _ => ∃ (H0 : Hp) (t : Addr) (a : TA) (s : Tt) (c : Nat) (p : Addr) (x m : Str), vs = [.ref t, .ref p] ∧ TbAt K CT CB CK H0 H t a s c ∧ SqT K H p [.str x, .str m] ∧ x ∈ s.ns ∧ m ∈ methods ∧
  (s.en x m = none → Q .non H) ∧ ∀ e v, s.en x m = some e → EntAt K CB H m e v → Q v H
theorem ok_tget (T : Txt K mg) {CT CB CK CN : Addr} (K_Table : TF K mg CT) (CCheck_method : Ex.CalX P w K mg base 3 "check_method" (spCheck K CN methods)) (M_Table__check_class : Ob.MCal P w K mg base CX0 CT 2 "_check_class" (spCC K CT CB CK)) {f : Addr} {fd : FuncData}
    (D : Ob.MethAt K "__getitem__" "Table.__getitem__" sTable___getitem__ ["self", "at"] f fd) : FnG P w K mg base CX0 4 f fd ["self", "at"] (spTGet K CT CB CK) := by
  refine Ob.byG D scTable___getitem__ (fun vs H Q E h => ?_) (fun cd A hg outer s H vs Q E hr h => ?_)
  · obtain ⟨_, _, _, _, _, _, _, _, rfl, _⟩ := h
    rfl
  · obtain ⟨H0, t, a, st, c, p, x, m, rfl, tb, hp, hx, hm, qn, qs⟩ := h
    obtain ⟨dx, ht⟩ := tb.ins
    refine ⟨_, (pss_cons (ps_asg (pv 1) (pg_tup (by rfl) (pgs_cons (pg_name (i := 2) scTable___getitem__.nd rfl (Or.inl rfl)) (pgs_cons (pg_name (i := 3) scTable___getitem__.nd rfl (Or.inl rfl)) pgs_nil))))
  (pss_cons (ps_expr (Ob.meth (pv 0) K_Table.cl M_Table__check_class hg hr (by decide) pass0 (pa_cons (pv 2) pa_nil)))
  (pss_cons (ps_expr (Ex.pe_x0 CCheck_method hg hr (by decide) (pa_cons (pv 3) pa_nil)))
  (pss_one (ps_ret (pe_dget1 (one_ hr.units) (pe_dget (one_ hr.units) (pe_fld (pv 0) (by rfl)) (pv 2) (fun _ _ => rfl)) (pv 3) ⟨rfl, rfl, rfl, rfl⟩)))))), ?_⟩
    repeat walk_at "rd"
    refine ⟨p, _, rfl, hp, rfl, ?_⟩
    repeat walk_at "rd"
    refine ⟨t, dx, _, rfl, ht, rfl, ?_⟩
    repeat walk_at "rd"
    refine ⟨H0, t, a, st, c, x, rfl, tb, hx, ?_⟩
    repeat walk_at "rd"
    refine ⟨.str m, "str", rfl, kd_str m, fun _ => ?_, fun z => absurd ((isIn_of hm).symm.trans z) (by decide)⟩
    repeat walk_at "rd"
    refine dget1R ?_
    repeat walk_at "rd"
    refine Rd.fldV rfl ht K_Table.cl K_Table.n5 rfl ?_
    repeat walk_at "rd"
    obtain ⟨kvs, h1, _, h3⟩ := tb.ee x hx
    refine ⟨a.en, _, rfl, get_tab tb.en hx, a.gE x, rfl, .inl ⟨kvs, .inl h1⟩, ?_⟩
    repeat walk_at "rd"
    refine ⟨_, DGet.k (k := .inr m) h1, ?_⟩
    cases e : st.en x m with
    | none =>
      rw [h3.no m hm e]
      exact qn e
    | some en =>
      obtain ⟨v, h4, h5⟩ := h3.yes m hm en e
      rw [h4]
      exact qs en v e h5
abbrev sTable___setitem__ : Stmt := meth 66 4
abbrev nTable___setitem__ : List Str := ["self", "at", "worth", "name", "method"]
theorem scTable___setitem__ : FnScope nTable___setitem__ ["self", "at", "worth"] (defScope sTable___setitem__) := ⟨rfl, rfl, rfl, by decide +kernel, rfl, by decide +kernel, by decide +kernel⟩
def spTSet (K : PySem.W.Frag) (CT CB CK : Addr) : Sp := fun vs H Q _ => ∃ (H0 : Hp) (t : Addr) (a : TA) (s : Tt) (c : Nat) (p : Addr) (x m : Str) (v : V) (o : Option Ent), vs = [.ref t, .ref p, v] ∧ TbAt K CT CB CK H0 H t a s c ∧ Same H0 H ∧ c < 1000 ∧ SqT K H p [.str x, .str m] ∧ x ∈ s.ns ∧ m ∈ methods ∧
  ((o = none ∧ v = .non) ∨ ∃ e, o = some e ∧ EntAt K CB H m e v) ∧ ∀ H', Same H0 H' → TbAt K CT CB CK H0 H' t a (s.put x m o) (c + 1) → Q .non H'
theorem ok_tset (T : Txt K mg) {CT CB CK CN : Addr} (K_Table : TF K mg CT) (CCheck_method : Ex.CalX P w K mg base 3 "check_method" (spCheck K CN methods)) (CIs_entry : CalG P w K mg base 2 "is_entry" (spIsEntry K CB)) (M_Table__check_class : Ob.MCal P w K mg base CX0 CT 2 "_check_class" (spCC K CT CB CK)) {f : Addr} {fd : FuncData}
    (D : Ob.MethAt K "__setitem__" "Table.__setitem__" sTable___setitem__ ["self", "at", "worth"] f fd) : FnG P w K mg base CX0 4 f fd ["self", "at", "worth"] (spTSet K CT CB CK) := by
  refine Ob.byG D scTable___setitem__ (fun vs H Q E h => ?_) (fun cd A hg outer s H vs Q E hr h => ?_)
  · obtain ⟨_, _, _, _, _, _, _, _, _, _, rfl, _⟩ := h
    rfl
  · obtain ⟨H0, t, a, st, c, p, x, m, v, o, rfl, tb, s0, cz, hp, hx, hm, hv, q⟩ := h
    obtain ⟨dx, ht⟩ := tb.ins
    obtain ⟨kvs, h1, h2, h3⟩ := tb.ee x hx
    refine ⟨_, (pss_cons (ps_asg (pv 1) (pg_tup (by rfl) (pgs_cons (pg_name (i := 3) scTable___setitem__.nd rfl (Or.inl rfl)) (pgs_cons (pg_name (i := 4) scTable___setitem__.nd rfl (Or.inl rfl)) pgs_nil))))
  (pss_cons (ps_expr (Ob.meth (pv 0) K_Table.cl M_Table__check_class hg hr (by decide) pass0 (pa_cons (pv 3) pa_nil)))
  (pss_cons (ps_expr (Ex.pe_x0 CCheck_method hg hr (by decide) (pa_cons (pv 4) pa_nil)))
  (pss_one (ps_if (pt_cmpR op_isN (pv 2) pe_non (nomark _))
  (pss_one (ps_expr (pe_dpop2 (pe_dget (one_ hr.units) (pe_fld (pv 0) (by rfl)) (pv 3) (fun _ _ => rfl)) (pv 4) pe_non ⟨rfl, rfl, rfl, rfl⟩)))
  (pss_one (ps_if (pt_val (pe_cG CIs_entry hg hr (by decide) (pa_cons (pv 4) (pa_cons (pv 2) pa_nil))))
  (pss_one (ps_asg (pv 2) (pg_sub (pe_dget (one_ hr.units) (pe_fld (pv 0) (by rfl)) (pv 3) (fun _ _ => rfl)) (pv 4) (set_dict (one_ hr.units)))))
  (pss_one Sm.ps_dead)))))))), ?_⟩
    repeat walk_at "rd"
    refine ⟨p, _, rfl, hp, rfl, ?_⟩
    repeat walk_at "rd"
    refine ⟨t, dx, _, rfl, ht, rfl, ?_⟩
    repeat walk_at "rd"
    refine ⟨H0, t, a, st, c, x, rfl, tb, hx, ?_⟩
    repeat walk_at "rd"
    refine ⟨.str m, "str", rfl, kd_str m, fun _ => ?_, fun z => absurd ((isIn_of hm).symm.trans z) (by decide)⟩
    repeat walk_at "rd"
    rcases hv with ⟨rfl, rfl⟩ | ⟨e, rfl, he⟩
    · refine Rd.dec (fun _ => ?_) (fun c => absurd rfl c)
      repeat walk_at "rd"
      refine dpop2R ?_
      repeat walk_at "rd"
      refine Rd.fldV rfl ht K_Table.cl K_Table.n5 rfl ?_
      repeat walk_at "rd"
      refine ⟨a.en, _, rfl, get_tab tb.en hx, a.gE x, rfl, .inl ⟨kvs, .inl h1⟩, ?_⟩
      repeat walk_at "rd"
      have new : Ents K CB H (dropK kvs (.inr m)) (fset (st.en x) m none) := by
        refine ⟨fun m2 hm2 en => ?_, fun m2 hm2 e2 en => ?_, ksOk_drop h3.ks _⟩
        · rw [valV_drop']
          by_cases c : m2 = m
          · rw [if_pos (by rw [c])]
          · rw [if_neg (fun z => c (Sum.inr.inj z))]
            rw [fset_ne c] at en
            exact h3.no m2 hm2 en
        · rw [valV_drop']
          by_cases c : m2 = m
          · subst c; rw [fset_at] at en; cases en
          · rw [if_neg (fun z => c (Sum.inr.inj z))]
            rw [fset_ne c] at en
            exact h3.yes m2 hm2 e2 en
      refine ⟨kvs, .inr m, h1, rfl, fun v hv => ?_, fun hn => ?_⟩
      · obtain ⟨z1, z2⟩ := tb.put (c' := c + 1) s0 hx h1 new (by have := List.length_filter_le (fun kv : Key × V => decide (kv.1 ≠ .inr m)) kvs; show (dropK kvs (.inr m)).length ≤ _; unfold dropK; omega) (Nat.le_succ c)
        exact q _ z1 z2
      · have e : dropK kvs (.inr m) = kvs := by
          have := valV_any (.inr m : Key) kvs
          rw [hn] at this
          unfold dropK
          refine List.filter_eq_self.mpr fun kv hkv => ?_
          have := List.any_eq_false.mp this kv hkv
          simpa using this
        obtain ⟨z1, z2⟩ := tb.put (c' := c + 1) s0 hx h1 new (by rw [e]; omega) (Nat.le_succ c)
        rw [e] at z1 z2
        have eu : upd H (a.gE x) (.dK kvs) = H := by
          funext b
          by_cases c : b = a.gE x
          · subst c; rw [upd_same, h1]
          · rw [upd_ne c]
        rw [eu] at z1 z2
        exact q _ z1 z2
    · have nv : v ≠ .non := by
        cases e with
        | w z => obtain ⟨rfl, _⟩ := he; simp
        | b nd => obtain ⟨_, _, _, rfl, _⟩ := he; simp
      refine Rd.dec (fun c => absurd c nv) (fun _ => ?_)
      repeat walk_at "rd"
      refine ⟨m, e, v, rfl, he, ?_⟩
      repeat walk_at "rd"
      refine Rd.fldV rfl ht K_Table.cl K_Table.n5 rfl ?_
      repeat walk_at "rd"
      refine ⟨a.en, _, rfl, get_tab tb.en hx, ?_⟩
      repeat walk_at "rd"
      refine ⟨a.gE x, _, rfl, .inl ⟨kvs, .inr m, h1, rfl, Rd.szl (by omega), rfl⟩, ?_⟩
      have new : Ents K CB H (putK kvs (.inr m) v) (fset (st.en x) m (some e)) := by
        refine ⟨fun m2 hm2 en => ?_, fun m2 hm2 e2 en => ?_, ksOk_put h3.ks hm v⟩
        · rw [valV_put]
          by_cases c : m2 = m
          · subst c; rw [fset_at] at en; cases en
          · rw [if_neg (fun z => c (Sum.inr.inj z))]
            rw [fset_ne c] at en
            exact h3.no m2 hm2 en
        · rw [valV_put]
          by_cases c : m2 = m
          · subst c
            rw [fset_at] at en
            cases en
            rw [if_pos rfl]
            exact ⟨v, rfl, he⟩
          · rw [if_neg (fun z => c (Sum.inr.inj z))]
            rw [fset_ne c] at en
            exact h3.yes m2 hm2 e2 en
      obtain ⟨z1, z2⟩ := tb.put (c' := c + 1) s0 hx h1 new (Nat.le_trans (length_putK _ _ _) (by omega)) (Nat.le_succ c)
      exact q _ z1 z2
end
end Ab
namespace Ab
open M6 PySem.Spec PyProof.Rows
local macro_rules | `(tactic| walk_at "rd") => `(tactic| (with_reducible first | refine Rd.tt_ ?_ | refine Rd.ff_ ?_ | refine Rd.sfld ?_ | refine Rd.dget ?_ | refine Rd.methR ?_ | refine Rd.propR ?_ | refine Rd.statR ?_ | refine Rd.getR ?_))
theorem pe_fldK {X : Cx} {K : PySem.W.Frag} {e : Expr} {ta : TE} {f : Str} {pos : Pos} (hk : X.K = K) (he : PE X e ta) (hb : attributeBase e f X.env (eval e X.env) = eval e X.env) : PE X (.Attribute e f pos) (tFld K ta f) := hk ▸ pe_fld he hb
def heirsOf (s : Tt) (x : Str) : List Str := s.ns.filter fun h => decide (h ≠ x) && decide (x ∈ s.od h)
def entsOf (f : Str → Option Ent) : List (Str × Ent) := (methods.filter fun m => (f m).isSome).map fun m => (m, (f m).getD (.w ""))
def EnAt (K : PySem.W.Frag) (CB : Addr) (b : Str × Ent) (y : V) (H : Hp) : Prop := ∃ p v, y = .ref p ∧ SqT K H p [.str b.1, v] ∧ EntAt K CB H b.1 b.2 v
theorem EnAt.stays (K : PySem.W.Frag) (CB : Addr) : Rd.Stays (EnAt K CB) := fun b x H H' s ⟨p, v, e, h1, h2⟩ => ⟨p, v, e, sqT_same s h1, ent_mono s h2⟩
section
variable {P : Program} {w : World} {K : PySem.W.Frag} {mg : Str → Option Value} {base : Heap}
abbrev sTable_bases : Stmt := meth 66 6
abbrev nTable_bases : List Str := ["self", "name"]
theorem scTable_bases : FnScope nTable_bases ["self", "name"] (defScope sTable_bases) := ⟨rfl, rfl, rfl, by decide +kernel, rfl, by decide +kernel, by decide +kernel⟩
def spTBases (K : PySem.W.Frag) (CT CB CK : Addr) : Sp := fun vs H Q _ => ∃ (H0 : Hp) (t : Addr) (a : TA) (s : Tt) (c : Nat) (x : Str), vs = [.ref t, .str x] ∧ TbAt K CT CB CK H0 H t a s c ∧ x ∈ s.ns ∧ ∀ p, SqT K H p ((s.bs x).map V.str) → Q (.ref p) H
theorem ok_tbases {CT CB CK : Addr} (K_Table : TF K mg CT) (M_Table__check_class : Ob.MCal P w K mg base CX0 CT 2 "_check_class" (spCC K CT CB CK)) {f : Addr} {fd : FuncData}
    (D : Ob.MethAt K "bases" "Table.bases" sTable_bases ["self", "name"] f fd) : FnG P w K mg base CX0 3 f fd ["self", "name"] (spTBases K CT CB CK) := by
  refine Ob.byG D scTable_bases (fun vs H Q E h => ?_) (fun cd A hg outer s H vs Q E hr h => ?_)
  · obtain ⟨_, _, _, _, _, _, rfl, _⟩ := h
    rfl
  · obtain ⟨H0, t, a, st, c, x, rfl, tb, hx, q⟩ := h
    obtain ⟨dx, ht⟩ := tb.ins
    refine ⟨_, (pss_cons (ps_expr (Ob.meth (pv 0) K_Table.cl M_Table__check_class hg hr (by decide) pass0 (pa_cons (pv 1) pa_nil)))
  (pss_one (ps_ret (pe_dget (one_ hr.units) (pe_fld (pv 0) (by rfl)) (pv 1) (fun _ _ => rfl))))), ?_⟩
    repeat walk_at "rd"
    refine ⟨t, dx, _, rfl, ht, rfl, ?_⟩
    repeat walk_at "rd"
    refine ⟨H0, t, a, st, c, x, rfl, tb, hx, ?_⟩
    repeat walk_at "rd"
    refine Rd.fldV rfl ht K_Table.cl K_Table.n3 rfl ?_
    repeat walk_at "rd"
    exact ⟨a.ba, _, rfl, get_tab tb.ba.dt hx, q _ (tb.ba.tp x hx)⟩
abbrev sTable_order : Stmt := meth 66 7
abbrev nTable_order : List Str := ["self", "name"]
theorem scTable_order : FnScope nTable_order ["self", "name"] (defScope sTable_order) := ⟨rfl, rfl, rfl, by decide +kernel, rfl, by decide +kernel, by decide +kernel⟩
def spTOrder (K : PySem.W.Frag) (CT CB CK : Addr) : Sp := fun vs H Q _ => ∃ (H0 : Hp) (t : Addr) (a : TA) (s : Tt) (c : Nat) (x : Str), vs = [.ref t, .str x] ∧ TbAt K CT CB CK H0 H t a s c ∧ x ∈ s.ns ∧ ∀ l, H l = none → Q (.ref l) (upd H l (.lst ((s.od x).map V.str)))
theorem ok_torder (T : Txt K mg) {CT CB CK : Addr} (K_Table : TF K mg CT) (M_Table__check_class : Ob.MCal P w K mg base CX0 CT 2 "_check_class" (spCC K CT CB CK)) {f : Addr} {fd : FuncData}
    (D : Ob.MethAt K "order" "Table.order" sTable_order ["self", "name"] f fd) : FnG P w K mg base CX0 3 f fd ["self", "name"] (spTOrder K CT CB CK) := by
  refine Ob.byG D scTable_order (fun vs H Q E h => ?_) (fun cd A hg outer s H vs Q E hr h => ?_)
  · obtain ⟨_, _, _, _, _, _, rfl, _⟩ := h
    rfl
  · obtain ⟨H0, t, a, st, c, x, rfl, tb, hx, q⟩ := h
    obtain ⟨dx, ht⟩ := tb.ins
    refine ⟨_, (pss_cons (ps_expr (Ob.meth (pv 0) K_Table.cl M_Table__check_class hg hr (by decide) pass0 (pa_cons (pv 1) pa_nil)))
  (pss_one (ps_ret (pe_callTy (r := Rd.rListK K) Rd.callList (by rfl) T.list (by decide +kernel) (pa_cons (pe_dget (one_ hr.units) (pe_fld (pv 0) (by rfl)) (pv 1) (fun _ _ => rfl)) pa_nil))))), ?_⟩
    repeat walk_at "rd"
    refine ⟨t, dx, _, rfl, ht, rfl, ?_⟩
    repeat walk_at "rd"
    refine ⟨H0, t, a, st, c, x, rfl, tb, hx, ?_⟩
    repeat walk_at "rd"
    refine Rd.fldV rfl ht K_Table.cl K_Table.n4 rfl ?_
    repeat walk_at "rd"
    refine ⟨a.od, _, rfl, get_tab tb.od hx, ?_⟩
    repeat walk_at "rd"
    exact ⟨a.gO x, _, rfl, .inl (SqL.of (tb.ol x hx)), q⟩
abbrev sTable_book : Stmt := meth 66 10
abbrev nTable_book : List Str := ["self"]
theorem scTable_book : FnScope nTable_book ["self"] (defScope sTable_book) := ⟨rfl, rfl, rfl, by decide +kernel, rfl, by decide +kernel, by decide +kernel⟩
def spTBook (K : PySem.W.Frag) (CT CB CK : Addr) : Sp := fun vs H Q _ => ∃ (H0 : Hp) (t : Addr) (a : TA) (s : Tt) (c : Nat), vs = [.ref t] ∧ TbAt K CT CB CK H0 H t a s c ∧ ∀ g, NewBk K CK g s.m s.fl Q H
theorem ok_tbook {CT CB C_Book : Addr} (K_Table : TF K mg CT) (K_Book : BF K mg C_Book) (M_Book_twin : Ob.MCal P w K mg base CX0 C_Book 3 "twin" (spBkTwin K C_Book)) {f : Addr} {fd : FuncData}
    (D : Ob.MethAt K "book" "Table.book" sTable_book ["self"] f fd) : FnG P w K mg base CX0 4 f fd ["self"] (spTBook K CT CB C_Book) := by
  refine Ob.byG D scTable_book (fun vs H Q E h => ?_) (fun cd A hg outer s H vs Q E hr h => ?_)
  · obtain ⟨_, _, _, _, _, rfl, _⟩ := h
    rfl
  · obtain ⟨H0, t, a, st, c, rfl, tb, q⟩ := h
    obtain ⟨dx, ht⟩ := tb.ins
    obtain ⟨db, hb⟩ := tb.bk.ins
    refine ⟨_, (pss_one (ps_ret (Ob.meth0 (pe_fld (pv 0) (by rfl)) K_Book.cl M_Book_twin hg hr (by decide) pass0))), ?_⟩
    repeat walk_at "rd"
    refine Rd.fldV rfl ht K_Table.cl K_Table.n1 rfl ?_
    refine ⟨a.bk, db, _, rfl, hb, rfl, ?_⟩
    repeat walk_at "rd"
    exact ⟨a.bk, a.w, a.f, a.g, st.m, st.fl, rfl, tb.bk, q _⟩
abbrev sTable_listed : Stmt := meth 66 13
abbrev nTable_listed : List Str := ["self"]
theorem scTable_listed : FnScope nTable_listed ["self"] (defScope sTable_listed) := ⟨rfl, rfl, rfl, by decide +kernel, rfl, by decide +kernel, by decide +kernel⟩
def spTListed (K : PySem.W.Frag) (CT CB CK : Addr) : Sp := fun vs H Q _ => ∃ (H0 : Hp) (t : Addr) (a : TA) (s : Tt) (c : Nat), vs = [.ref t] ∧ TbAt K CT CB CK H0 H t a s c ∧ ∀ l, H l = none → Q (.ref l) (upd H l (.lst (s.ns.map V.str)))
theorem ok_tlisted (T : Txt K mg) {CT CB CK : Addr} (K_Table : TF K mg CT) {f : Addr} {fd : FuncData} (D : Ob.MethAt K "listed" "Table.listed" sTable_listed ["self"] f fd) : FnG P w K mg base CX0 1 f fd ["self"] (spTListed K CT CB CK) := by
  refine Ob.byG D scTable_listed (fun vs H Q E h => ?_) (fun cd A hg outer s H vs Q E hr h => ?_)
  · obtain ⟨_, _, _, _, _, rfl, _⟩ := h
    rfl
  · obtain ⟨H0, t, a, st, c, rfl, tb, q⟩ := h
    obtain ⟨dx, ht⟩ := tb.ins
    refine ⟨_, (pss_one (ps_ret (pe_callTy (r := Rd.rListK K) Rd.callList (by rfl) T.list (by decide +kernel) (pa_cons (pe_fld (pv 0) (by rfl)) pa_nil)))), ?_⟩
    repeat walk_at "rd"
    refine Rd.fldV rfl ht K_Table.cl K_Table.n2 rfl ?_
    repeat walk_at "rd"
    exact ⟨a.nm, _, rfl, .inl (SqL.of tb.nm), q⟩
abbrev sTable___contains__ : Stmt := meth 66 15
abbrev nTable___contains__ : List Str := ["self", "value"]
theorem scTable___contains__ : FnScope nTable___contains__ ["self", "value"] (defScope sTable___contains__) := ⟨rfl, rfl, rfl, by decide +kernel, rfl, by decide +kernel, by decide +kernel⟩
def spTHas (K : PySem.W.Frag) (CT CB CK : Addr) : Sp := fun vs H Q _ => ∃ (H0 : Hp) (t : Addr) (a : TA) (s : Tt) (c : Nat) (v : V) (tn : String), vs = [.ref t, v] ∧ TbAt K CT CB CK H0 H t a s c ∧ Kd K H v tn ∧ Q (.bl (isIn v s.ns)) H
theorem ok_thas {CT CB CK : Addr} (K_Table : TF K mg CT) (CIs_one_of : CalG P w K mg base 1 "is_one_of" (spOneOfL K)) {f : Addr} {fd : FuncData} (D : Ob.MethAt K "__contains__" "Table.__contains__" sTable___contains__ ["self", "value"] f fd) : FnG P w K mg base CX0 2 f fd ["self", "value"] (spTHas K CT CB CK) := by
  refine Ob.byG D scTable___contains__ (fun vs H Q E h => ?_) (fun cd A hg outer s H vs Q E hr h => ?_)
  · obtain ⟨_, _, _, _, _, _, _, rfl, _⟩ := h
    rfl
  · obtain ⟨H0, t, a, st, c, v, tn, rfl, tb, kd, q⟩ := h
    obtain ⟨dx, ht⟩ := tb.ins
    refine ⟨_, (pss_one (ps_ret (pe_cG CIs_one_of hg hr (by decide) (pa_cons (pv 1) (pa_cons (pe_fld (pv 0) (by rfl)) pa_nil))))), ?_⟩
    repeat walk_at "rd"
    refine Rd.fldV rfl ht K_Table.cl K_Table.n2 rfl ?_
    repeat walk_at "rd"
    exact ⟨v, a.nm, tn, st.ns, rfl, kd, SqL.of tb.nm, q⟩
abbrev sTable___len__ : Stmt := meth 66 17
abbrev nTable___len__ : List Str := ["self"]
theorem scTable___len__ : FnScope nTable___len__ ["self"] (defScope sTable___len__) := ⟨rfl, rfl, rfl, by decide +kernel, rfl, by decide +kernel, by decide +kernel⟩
def spTLen (K : PySem.W.Frag) (CT CB CK : Addr) : Sp := fun vs H Q _ => ∃ (H0 : Hp) (t : Addr) (a : TA) (s : Tt) (c : Nat), vs = [.ref t] ∧ TbAt K CT CB CK H0 H t a s c ∧ Q (.int s.ns.length) H
theorem ok_tlen (T : Txt K mg) {CT CB CK : Addr} (K_Table : TF K mg CT) {f : Addr} {fd : FuncData} (D : Ob.MethAt K "__len__" "Table.__len__" sTable___len__ ["self"] f fd) : FnG P w K mg base CX0 1 f fd ["self"] (spTLen K CT CB CK) := by
  refine Ob.byG D scTable___len__ (fun vs H Q E h => ?_) (fun cd A hg outer s H vs Q E hr h => ?_)
  · obtain ⟨_, _, _, _, _, rfl, _⟩ := h
    rfl
  · obtain ⟨H0, t, a, st, c, rfl, tb, q⟩ := h
    obtain ⟨dx, ht⟩ := tb.ins
    refine ⟨_, (pss_one (ps_ret (pe_callB (r := Rd.rLenK K) Rd.callLen (by rfl) T.len PySem.boot_len (pa_cons (pe_fld (pv 0) (by rfl)) pa_nil)))), ?_⟩
    repeat walk_at "rd"
    refine Rd.fldV rfl ht K_Table.cl K_Table.n2 rfl ?_
    repeat walk_at "rd"
    refine Rd.lenK (SqL.of tb.nm) ?_
    rw [List.length_map]
    exact q
abbrev sTable_entries : Stmt := meth 66 5
abbrev nTable_entries : List Str := ["self", "name", "entries", "method"]
theorem scTable_entries : FnScope nTable_entries ["self", "name"] (defScope sTable_entries) := ⟨rfl, rfl, rfl, by decide +kernel, rfl, by decide +kernel, by decide +kernel⟩
def spTEnts (K : PySem.W.Frag) (CT CB CK : Addr) : Sp := fun vs H Q _ => ∃ (H0 : Hp) (t : Addr) (a : TA) (s : Tt) (c : Nat) (x : Str), vs = [.ref t, .str x] ∧ TbAt K CT CB CK H0 H t a s c ∧ x ∈ s.ns ∧ ∀ l ys H', H l = none → Same H H' → H' l = some (.lst ys) → Paired (fun b y => EnAt K CB b y H') (entsOf (s.en x)) ys → Q (.ref l) H'
theorem ok_tents {CT CB CK p_METHODS : Addr} (K_Table : TF K mg CT) (g_METHODS : mg "METHODS" = some (.ref p_METHODS)) (tM : ∀ H, SqT K H p_METHODS (methods.map V.str)) (M_Table__check_class : Ob.MCal P w K mg base CX0 CT 2 "_check_class" (spCC K CT CB CK)) {f : Addr} {fd : FuncData}
    (D : Ob.MethAt K "entries" "Table.entries" sTable_entries ["self", "name"] f fd) : FnG P w K mg base CX0 3 f fd ["self", "name"] (spTEnts K CT CB CK) := by
  refine Ob.byG D scTable_entries (fun vs H Q E h => ?_) (fun cd A hg outer s H vs Q E hr h => ?_)
  · obtain ⟨_, _, _, _, _, _, rfl, _⟩ := h
    rfl
  · obtain ⟨H0, t, a, st, c, x, rfl, tb, hx, q⟩ := h
    obtain ⟨dx, ht⟩ := tb.ins
    refine ⟨_, (pss_cons (ps_expr (Ob.meth (pv 0) K_Table.cl M_Table__check_class hg hr (by decide) pass0 (pa_cons (pv 1) pa_nil)))
  (pss_cons (ps_set (i := 2) scTable_entries.nd rfl (Or.inr rfl) (pe_dget (one_ hr.units) (pe_fld (pv 0) (by rfl)) (pv 1) (fun _ _ => rfl)))
  (pss_one (ps_ret (pe_lc (wi := iTup K _) (own := [("method", 3)]) (g := gName 3) (by rfl) scTable_entries.nd (pi_tup (pe_glob (v := .ref p_METHODS) (by rfl) g_METHODS rfl)) (blkOk_by (N := nTable_entries) (sc := defScope sTable_entries) (by decide +kernel)) (fun _ _ _ _ _ => pg_name (i := 3) scTable_entries.nd rfl (Or.inl rfl)) (fun _ _ _ _ _ => (pts_one (pt_cmp (pc_din (one_ hr.units) (pv 3) (pv 2))))) (fun _ _ _ _ _ => (pe_tup (pa_cons (pv 3) (pa_cons (pe_dget (one_ hr.units) (pv 2) (pv 3) (fun _ _ => rfl)) pa_nil))))))))), ?_⟩
    repeat walk_at "rd"
    refine ⟨t, dx, _, rfl, ht, rfl, ?_⟩
    repeat walk_at "rd"
    refine ⟨H0, t, a, st, c, x, rfl, tb, hx, ?_⟩
    repeat walk_at "rd"
    refine Rd.fldV rfl ht K_Table.cl K_Table.n5 rfl ?_
    repeat walk_at "rd"
    obtain ⟨kvs, h1, _, h3⟩ := tb.ee x hx
    refine ⟨a.en, _, rfl, get_tab tb.en hx, ?_⟩
    repeat walk_at "rd"
    refine Rd.lcT (K := K) (a := p_METHODS) (xs := methods.map V.str) (bs := methods) (fun s v _ => v = .str s) (EnAt K CB) (fun m => (st.en x m).isSome) (fun m => (m, (st.en x m).getD (.w ""))) (fun R k => k) (tM H) (fun _ _ _ _ _ h => h) (EnAt.stays K CB) (strs_pair _ H) (by decide) (fun _ => rfl) ?_ ?_ ?_
    · rintro m v H1 R hm rfl _ s1 k
      repeat walk_at "rd"
      refine dinR ?_
      repeat walk_at "rd"
      refine ⟨a.gE x, _, rfl, DGet.k (k := .inr m) (s1 _ _ h1), ?_⟩
      have e : (valV kvs (.inr m)).isSome = (st.en x m).isSome := by
        cases z : st.en x m with
        | none => rw [h3.no m hm z]; rfl
        | some en => obtain ⟨v, h4, _⟩ := h3.yes m hm en z; rw [h4]; rfl
      rw [e]
      exact ⟨_, rfl, k _ (Same.refl _)⟩
    · rintro m v H1 R hm hf rfl _ s1 k
      obtain ⟨en, he⟩ := Option.isSome_iff_exists.mp hf
      obtain ⟨v, h4, h5⟩ := h3.yes m hm en he
      rw [he] at k
      repeat walk_at "rd"
      refine ⟨a.gE x, v, rfl, by rw [← h4]; exact DGet.k (k := .inr m) (s1 _ _ h1), ?_⟩
      repeat walk_at "rd"
      refine ⟨Rd.sz (by simp), fun p hp => ?_⟩
      have s2 := s1.trans (Rd.sNew (o := .tup [.str m, v]) hp)
      refine k _ _ (Rd.sNew hp) fun D o hD h1D => ⟨p, v, rfl, .inl (.inl ?_), ent_mono (Rd.sMut s2 hD) h5⟩
      rw [upd_ne (fun e => h1D (by rw [← e]; exact hp)), upd_same]
    · intro Dd ys H1 hD s1 hd pr
      exact q Dd ys H1 hD s1 hd pr
end
end Ab
namespace Ab
open M6 PySem.Spec PyProof.Rows
local macro_rules | `(tactic| walk_at "rd") => `(tactic| (with_reducible first | refine Rd.tt_ ?_ | refine Rd.ff_ ?_ | refine Rd.sfld ?_ | refine Rd.dget ?_ | refine Rd.methR ?_ | refine Rd.propR ?_ | refine Rd.statR ?_ | refine Rd.getR ?_))
/-- a dict comprehension over a list that stays -/
theorem dc_list {K : PySem.W.Frag} {a : Addr} {xs : List V} {g : TG} {tt : TT} {tk tv : TE} {vs : List Nat} {σ : L2.St} {H1 : Hp} {D : Addr} {Qd : Hp → Prop} (Pv : Nat → Hp → Prop) (h0 : Pv 0 (upd H1 D (.dK []))) (hl : ∀ i H, i ≤ xs.length → Pv i H → SqL K H a xs)
    (hs : ∀ i x H, xs[i]? = some x → Pv i H → g x (wipe σ vs) H fun σ2 H2 => wipe σ2 vs = wipe σ vs ∧ tt σ2 H2 fun b H3 =>
      if b = true then tk σ2 H3 fun y H4 => tv σ2 H4 fun z H5 => ∃ kvs k, y = kV k ∧ H5 D = some (.dK kvs) ∧ kvs.length < sizeLine ∧ Pv (i + 1) (upd H5 D (.dK (putK kvs k z))) else Pv (i + 1) H3) (hd : ∀ H, Pv xs.length H → Qd H) :
    ∃ W : Nat → Nat → Hp → Prop, (∃ m, W 0 m (upd H1 D (.dK []))) ∧ ∀ i m H, W i m H →
      ((Itl K a).stop i H ∧ Qd H) ∨ ((Itl K a).go i H ∧ ∃ Nx : Hp → Prop, (∀ H', Nx H' → ∃ m', m' < m ∧ W (i + 1) m' H') ∧ ∀ x H', (Itl K a).yld i H x H' → g x (wipe σ vs) H' fun σ2 H2 => wipe σ2 vs = wipe σ vs ∧ tt σ2 H2 fun b H3 =>
        if b = true then tk σ2 H3 fun y H4 => tv σ2 H4 fun z H5 => ∃ kvs k, y = kV k ∧ H5 D = some (.dK kvs) ∧ kvs.length < sizeLine ∧ Nx (upd H5 D (.dK (putK kvs k z))) else Nx H3) := by
  refine ⟨fun i m H => m = xs.length - i ∧ i ≤ xs.length ∧ Pv i H, ⟨xs.length, by simp, Nat.zero_le _, h0⟩, ?_⟩
  rintro i m H ⟨rfl, hi, p⟩
  have q := hl i H hi p
  by_cases hlt : i < xs.length
  · refine .inr ⟨⟨xs, xs[i], q, by simp [hlt]⟩, Pv (i + 1), fun H' p' => ⟨xs.length - (i + 1), by omega, rfl, hlt, p'⟩, fun x H' y => ?_⟩
    obtain ⟨e, y⟩ := y
    subst e
    exact hs i x _ (y xs q) p
  · have e : i = xs.length := by omega
    subst e
    exact .inl ⟨⟨xs, q, Nat.le_refl _⟩, hd H p⟩
/-- a dict of new dicts: for each name of a list the copy of a dict -/
theorem dcN {K : PySem.W.Frag} {σ : L2.St} {H : Hp} {Q : VK} {tl tk tv : TE} {vs : List Nat} {j : Nat} {a : Addr} {l : List Str} {kv : Str → List (Key × V)} (nd : l.Nodup) (z : l.length ≤ 1000) (htl : ∀ R : V → Hp → Prop, R (.ref a) H → tl σ H R) (ha : H a = some (.lst (l.map V.str)))
    (hw : ∀ x, wipe ((wipe σ vs).set j (some x)) vs = wipe σ vs) (key : ∀ o H1 (R : VK), R (.str o) H1 → tk ((wipe σ vs).set j (some (.str o))) H1 R)
    (val : ∀ o, o ∈ l → ∀ H1 (R : VK), Same H H1 → (∀ p, H1 p = none → R (.ref p) (upd H1 p (.dK (kv o)))) → tv ((wipe σ vs).set j (some (.str o))) H1 R)
    (fin : ∀ D (gE : Str → Addr) H', H D = none → Same H H' → H' D = some (.dK (tab l fun n => .ref (gE n))) → (∀ n ∈ l, H' (gE n) = some (.dK (kv n)) ∧ H (gE n) = none ∧ gE n ≠ D) → (l.map gE).Nodup → Q (.ref D) H') : tDc (iList K tl) (gName j) tYes tk tv vs σ H Q := by
  refine htl _ ⟨a, rfl, ⟨_, SqL.of ha⟩, fun D hD => ?_⟩
  refine dc_list (K := K) (a := a) (xs := l.map V.str) (fun i H1 => ∃ gE : Str → Addr, Same H H1 ∧ H1 D = some (.dK (tab (l.take i) fun n => .ref (gE n))) ∧ (∀ n ∈ l.take i, H1 (gE n) = some (.dK (kv n)) ∧ H (gE n) = none ∧ gE n ≠ D) ∧ ((l.take i).map gE).Nodup)
    ⟨fun _ => 0, Rd.sNew hD, by rw [upd_same, List.take_zero]; rfl, fun n hn => by simp at hn, by simp⟩ (fun i H1 _ ⟨_, s, _⟩ => SqL.of (s _ _ ha)) ?_ ?_
  · rintro i x H1 hx ⟨gE, s1, hd, hg, ng⟩
    obtain ⟨hi, e⟩ := List.getElem?_eq_some_iff.mp hx
    rw [List.length_map] at hi
    rw [List.getElem_map] at e
    subst e
    have nm : l[i] ∉ l.take i := fun m => by
      obtain ⟨k, hk, e⟩ := List.mem_iff_getElem.mp m
      rw [List.getElem_take] at e
      rw [List.length_take] at hk
      have := (List.getElem_inj nd).mp e
      omega
    refine ⟨hw _, ?_⟩
    refine Rd.yes (Rd.tt_ ?_)
    refine key _ _ _ (val _ (List.getElem_mem hi) _ _ s1 fun p hp => ?_)
    have pD : p ≠ D := fun e => by rw [e, hd] at hp; cases hp
    have dp : D ≠ p := Ne.symm pD
    refine ⟨tab (l.take i) fun n => .ref (gE n), .inr l[i], rfl, by rw [upd_ne dp]; exact hd, by rw [tab_len, List.length_take]; exact Rd.szl (by omega), ?_⟩
    rw [tab_put_new nm, fset_ref]
    have et : l.take (i + 1) = l.take i ++ [l[i]] := by rw [List.take_add_one, List.getElem?_eq_getElem hi]; rfl
    have hp0 : H p = none := Same.free s1 hp
    refine ⟨fset gE l[i] p, fun b u e => ?_, ?_, fun n hn => ?_, ?_⟩
    · have e1 := s1 _ _ e
      rw [upd_ne (ne_of_none e hD), upd_ne (ne_of_none e1 hp)]
      exact e1
    · rw [upd_same, et]
    · rw [et] at hn
      by_cases c : n = l[i]
      · subst c
        rw [fset_at]
        exact ⟨by rw [upd_ne pD, upd_same], hp0, pD⟩
      · rw [fset_ne c]
        have hn' : n ∈ l.take i := by
          rcases List.mem_append.mp hn with h | h
          · exact h
          · exact absurd (List.mem_singleton.mp h) c
        obtain ⟨h1, h2, h3⟩ := hg n hn'
        exact ⟨by rw [upd_ne h3, upd_ne (ne_of_none h1 hp)]; exact h1, h2, h3⟩
    · rw [et, List.map_append]
      have em : (l.take i).map (fset gE l[i] p) = (l.take i).map gE := List.map_congr_left fun n hn => fset_ne fun c => nm (c ▸ hn)
      rw [em]
      refine List.nodup_append.mpr ⟨ng, by simp, fun x hx y hy e => ?_⟩
      have hy2 : y = p := by simpa [fset_at] using hy
      obtain ⟨n, hn, rfl⟩ := List.mem_map.mp hx
      obtain ⟨h1, _, _⟩ := hg n hn
      rw [e, hy2, hp] at h1
      cases h1
  · rintro H1 ⟨gE, s1, hd, hg, ng⟩
    rw [List.length_map, List.take_length] at hd hg ng
    exact fin D gE H1 hD s1 hd hg ng
/-- Table(book) -/
theorem mkTb {K : PySem.W.Frag} {CT CB CK CNB : Addr} {H : Hp} {Q : Addr → Hp → Prop} {E : XK} {b w f : Addr} {g : Str → Addr} {m : Str → List Str} {fl : Str → Bool} (bk : Bk K CK H b w f g m fl) (q : ∀ t ta H', Same H H' → TbAt K CT CB CK H H' t ta (tt0 m fl) 0 → Q t H') :
    ∀ x dx, H x = none → H dx = none → dx ≠ x → spTInit K CT CB CK CNB (.ref x :: ([V.ref b] ++ [])) (upd (upd H dx (.own x)) x (.ins CT dx [])) (fun v H2 => v = .non ∧ Q x H2) E := by
  refine fun t dx ht hdx nd => .inr ⟨t, dx, b, w, f, g, m, fl, rfl, upd_same, ?_, fun ta H2 s2 tb => ⟨rfl, ?_⟩⟩
  · refine bk.mono fun z u e => ?_
    rw [upd_ne (ne_of_none e ht), upd_ne (ne_of_none e hdx)]
    exact e
  · have sH : Same H (hide t (upd (upd H dx (.own t)) t (.ins CT dx []))) := fun z u e => by
      rw [hide_ne _ (ne_of_none e ht), upd_ne (ne_of_none e ht), upd_ne (ne_of_none e hdx)]
      exact e
    exact q t ta H2 (sH.trans s2) (tb.lower sH)
section
variable {P : Program} {w : World} {K : PySem.W.Frag} {mg : Str → Option Value} {base : Heap}
abbrev sTable_twin : Stmt := meth 66 12
abbrev nTable_twin : List Str := ["self", "table", "name"]
theorem scTable_twin : FnScope nTable_twin ["self"] (defScope sTable_twin) := ⟨rfl, rfl, rfl, by decide +kernel, rfl, by decide +kernel, by decide +kernel⟩
def NewTb (K : PySem.W.Frag) (CT CB CK : Addr) (s : Tt) (c : Nat) (Q : VK) (H : Hp) : Prop := ∀ t ta H', Same H H' → TbAt K CT CB CK H H' t ta s c → Q (.ref t) H'
def spTTwin (K : PySem.W.Frag) (CT CB CK : Addr) : Sp := fun vs H Q _ => ∃ (H0 : Hp) (t : Addr) (a : TA) (s : Tt) (c : Nat), vs = [.ref t] ∧ TbAt K CT CB CK H0 H t a s c ∧ s.ns.Nodup ∧ s.ns.length ≤ 8 ∧ NewTb K CT CB CK s c Q H
theorem ok_ttwin (T : Txt K mg) {CT CB C_Book CNB : Addr} (K_Table : TF K mg CT) (I_Table : Ob.MkCal P w K mg base (L2.CX P w) CT 4 "Table" (spTInit K CT CB C_Book CNB)) {f : Addr} {fd : FuncData}
    (D : Ob.MethAt K "twin" "Table.twin" sTable_twin ["self"] f fd) : FnG P w K mg base CX0 6 f fd ["self"] (spTTwin K CT CB C_Book) := by
  refine Ob.byG D scTable_twin (fun vs H Q E h => ?_) (fun cd A hg outer s H vs Q E hr h => ?_)
  · obtain ⟨_, _, _, _, _, rfl, _⟩ := h
    rfl
  · obtain ⟨H0, t, a, st, c, rfl, tb, nd, l8, q⟩ := h
    obtain ⟨dx, ht⟩ := tb.ins
    refine ⟨_, (pss_cons (ps_set (i := 1) scTable_twin.nd rfl (Or.inl rfl) (Ob.make I_Table hg hr (by decide) Ob.px0 (pa_cons (pe_fld (pv 0) (by rfl)) pa_nil)))
  (pss_cons (ps_fld (pv 1) (pe_callTy (r := Rd.rListK K) Rd.callList (by rfl) T.list (by decide +kernel) (pa_cons (pe_fld (pv 0) (by rfl)) pa_nil)) (by rfl))
  (pss_cons (ps_fld (pv 1) (pe_callTy (r := Od2.rDictD) Od2.call_dict (by rfl) T.dict (by decide +kernel) (pa_cons (pe_fld (pv 0) (by rfl)) pa_nil)) (by rfl))
  (pss_cons (ps_fld (pv 1) (pe_callTy (r := Od2.rDictD) Od2.call_dict (by rfl) T.dict (by decide +kernel) (pa_cons (pe_fld (pv 0) (by rfl)) pa_nil)) (by rfl))
  (pss_cons (ps_fld (pv 1) (pe_dc (wi := iList K _) (own := [("name", 2)]) (g := gName 2) (by rfl) scTable_twin.nd (pi_list (pe_fld (pv 0) (by rfl))) (blkOk_by (N := nTable_twin) (sc := defScope sTable_twin) (by decide +kernel)) (fun _ _ _ _ _ => pg_name (i := 2) scTable_twin.nd rfl (Or.inl rfl)) (fun _ _ _ _ _ => pts_nil) (fun _ _ _ _ _ => (pv 2)) (fun _ _ _ _ _ => (pe_callTy (r := Od2.rDictD) Od2.call_dict (by rfl) T.dict (by decide +kernel) (pa_cons (pe_dget (one_ hr.units) (pe_fldK (K := K) rfl (pv 0) (by rfl)) (pv 2) (fun _ _ => rfl)) pa_nil)))) (by rfl))
  (pss_one (ps_ret (pv 1)))))))), ?_⟩
    repeat walk_at "rd"
    refine Rd.makeR ?_
    refine Rd.fldV rfl ht K_Table.cl K_Table.n1 rfl ?_
    repeat walk_at "rd"
    refine mkTb (CNB := CNB) tb.bk fun t2 ta H1 s1 tb1 => ?_
    obtain ⟨dy, hy⟩ := tb1.ins
    have nt2 := tb1.new.1
    have tt : t ≠ t2 := ne_of_none ht nt2
    have bk2 := tb1.bk
    obtain ⟨db, hb⟩ := bk2.ins
    have ne_ : ∀ {x : Addr} {u : HO}, H x = some u → x ≠ t2 := fun e => ne_of_none e nt2
    have hy1 := hy
    repeat walk_at "rd"
    refine Rd.fldV rfl (s1 _ _ ht) K_Table.cl K_Table.n2 rfl ?_
    refine ⟨a.nm, _, rfl, .inl (SqL.of (s1 _ _ tb.nm)), fun l hl => ?_⟩
    have tl : l ≠ t2 := fun e => by rw [e, hy] at hl; cases hl
    repeat walk_at "rd"
    refine ⟨t2, CT, dy, _, rfl, by rw [upd_ne (Ne.symm tl)]; exact hy, K_Table.cl, K_Table.n2, by simp, ?_⟩
    have e2 : putF "_names" (.ref l) [(("_book" : Str), V.ref ta.bk), ("_names", .ref ta.nm), ("_bases", .ref ta.ba), ("_orders", .ref ta.od), ("_entries", .ref ta.en)] = [(("_book" : Str), V.ref ta.bk), ("_names", .ref l), ("_bases", .ref ta.ba), ("_orders", .ref ta.od), ("_entries", .ref ta.en)] := rfl
    rw [e2]
    have k2 : Keep t2 H1 (upd (upd H1 l (.lst (st.ns.map V.str))) t2 (.ins CT dy [(("_book" : Str), V.ref ta.bk), ("_names", .ref l), ("_bases", .ref ta.ba), ("_orders", .ref ta.od), ("_entries", .ref ta.en)])) := (Keep.same (Rd.sNew hl)).put
    have y2 : (upd (upd H1 l (.lst (st.ns.map V.str))) t2 (.ins CT dy [(("_book" : Str), V.ref ta.bk), ("_names", .ref l), ("_bases", .ref ta.ba), ("_orders", .ref ta.od), ("_entries", .ref ta.en)])) t2 = some (.ins CT dy [(("_book" : Str), V.ref ta.bk), ("_names", .ref l), ("_bases", .ref ta.ba), ("_orders", .ref ta.od), ("_entries", .ref ta.en)]) := upd_same
    have n2 : (upd (upd H1 l (.lst (st.ns.map V.str))) t2 (.ins CT dy [(("_book" : Str), V.ref ta.bk), ("_names", .ref l), ("_bases", .ref ta.ba), ("_orders", .ref ta.od), ("_entries", .ref ta.en)])) l = some (.lst (st.ns.map V.str)) := by rw [upd_ne tl, upd_same]
    generalize upd (upd H1 l (.lst (st.ns.map V.str))) t2 (.ins CT dy [(("_book" : Str), V.ref ta.bk), ("_names", .ref l), ("_bases", .ref ta.ba), ("_orders", .ref ta.od), ("_entries", .ref ta.en)]) = H2 at k2 y2 n2 ⊢
    have z2 : ∀ {x : Addr} {u : HO}, H x = some u → H2 x = some u := fun e => k2 _ _ (ne_ e) (s1 _ _ e)
    repeat walk_at "rd"
    refine Rd.fldV rfl (z2 ht) K_Table.cl K_Table.n3 rfl ?_
    refine ⟨a.ba, _, rfl, .inl (z2 tb.ba.dt), fun d hd => ?_⟩
    have td : d ≠ t2 := fun e => by rw [e, y2] at hd; cases hd
    repeat walk_at "rd"
    refine ⟨t2, CT, dy, _, rfl, by rw [upd_ne (Ne.symm td)]; exact y2, K_Table.cl, K_Table.n3, by simp, ?_⟩
    have e3 : putF "_bases" (.ref d) [(("_book" : Str), V.ref ta.bk), ("_names", .ref l), ("_bases", .ref ta.ba), ("_orders", .ref ta.od), ("_entries", .ref ta.en)] = [(("_book" : Str), V.ref ta.bk), ("_names", .ref l), ("_bases", .ref d), ("_orders", .ref ta.od), ("_entries", .ref ta.en)] := rfl
    rw [e3]
    have k3 : Keep t2 H2 (upd (upd H2 d (.dK (tab st.ns fun n => .ref (a.gB n)))) t2 (.ins CT dy [(("_book" : Str), V.ref ta.bk), ("_names", .ref l), ("_bases", .ref d), ("_orders", .ref ta.od), ("_entries", .ref ta.en)])) := (Keep.same (Rd.sNew hd)).put
    have y3 : (upd (upd H2 d (.dK (tab st.ns fun n => .ref (a.gB n)))) t2 (.ins CT dy [(("_book" : Str), V.ref ta.bk), ("_names", .ref l), ("_bases", .ref d), ("_orders", .ref ta.od), ("_entries", .ref ta.en)])) t2 = some (.ins CT dy [(("_book" : Str), V.ref ta.bk), ("_names", .ref l), ("_bases", .ref d), ("_orders", .ref ta.od), ("_entries", .ref ta.en)]) := upd_same
    have n3 : (upd (upd H2 d (.dK (tab st.ns fun n => .ref (a.gB n)))) t2 (.ins CT dy [(("_book" : Str), V.ref ta.bk), ("_names", .ref l), ("_bases", .ref d), ("_orders", .ref ta.od), ("_entries", .ref ta.en)])) d = some (.dK (tab st.ns fun n => .ref (a.gB n))) := by rw [upd_ne td, upd_same]
    generalize upd (upd H2 d (.dK (tab st.ns fun n => .ref (a.gB n)))) t2 (.ins CT dy [(("_book" : Str), V.ref ta.bk), ("_names", .ref l), ("_bases", .ref d), ("_orders", .ref ta.od), ("_entries", .ref ta.en)]) = H3 at k3 y3 n3 ⊢
    have z3 : ∀ {x : Addr} {u : HO}, H x = some u → H3 x = some u := fun e => k3 _ _ (ne_ e) (z2 e)
    repeat walk_at "rd"
    refine Rd.fldV rfl (z3 ht) K_Table.cl K_Table.n4 rfl ?_
    refine ⟨a.od, _, rfl, .inl (z3 tb.od), fun r hr2 => ?_⟩
    have tr : r ≠ t2 := fun e => by rw [e, y3] at hr2; cases hr2
    repeat walk_at "rd"
    refine ⟨t2, CT, dy, _, rfl, by rw [upd_ne (Ne.symm tr)]; exact y3, K_Table.cl, K_Table.n4, by simp, ?_⟩
    have e4 : putF "_orders" (.ref r) [(("_book" : Str), V.ref ta.bk), ("_names", .ref l), ("_bases", .ref d), ("_orders", .ref ta.od), ("_entries", .ref ta.en)] = [(("_book" : Str), V.ref ta.bk), ("_names", .ref l), ("_bases", .ref d), ("_orders", .ref r), ("_entries", .ref ta.en)] := rfl
    rw [e4]
    have k4 : Keep t2 H3 (upd (upd H3 r (.dK (tab st.ns fun n => .ref (a.gO n)))) t2 (.ins CT dy [(("_book" : Str), V.ref ta.bk), ("_names", .ref l), ("_bases", .ref d), ("_orders", .ref r), ("_entries", .ref ta.en)])) := (Keep.same (Rd.sNew hr2)).put
    have y4 : (upd (upd H3 r (.dK (tab st.ns fun n => .ref (a.gO n)))) t2 (.ins CT dy [(("_book" : Str), V.ref ta.bk), ("_names", .ref l), ("_bases", .ref d), ("_orders", .ref r), ("_entries", .ref ta.en)])) t2 = some (.ins CT dy [(("_book" : Str), V.ref ta.bk), ("_names", .ref l), ("_bases", .ref d), ("_orders", .ref r), ("_entries", .ref ta.en)]) := upd_same
    have n4 : (upd (upd H3 r (.dK (tab st.ns fun n => .ref (a.gO n)))) t2 (.ins CT dy [(("_book" : Str), V.ref ta.bk), ("_names", .ref l), ("_bases", .ref d), ("_orders", .ref r), ("_entries", .ref ta.en)])) r = some (.dK (tab st.ns fun n => .ref (a.gO n))) := by rw [upd_ne tr, upd_same]
    generalize upd (upd H3 r (.dK (tab st.ns fun n => .ref (a.gO n)))) t2 (.ins CT dy [(("_book" : Str), V.ref ta.bk), ("_names", .ref l), ("_bases", .ref d), ("_orders", .ref r), ("_entries", .ref ta.en)]) = H4 at k4 y4 n4 ⊢
    have z4 : ∀ {x : Addr} {u : HO}, H x = some u → H4 x = some u := fun e => k4 _ _ (ne_ e) (z3 e)
    obtain ⟨kv, hkv⟩ : ∃ kv : Str → List (Key × V), ∀ n ∈ st.ns, H (a.gE n) = some (.dK (kv n)) ∧ (kv n).length ≤ c ∧ Ents K CB H (kv n) (st.en n) := by
      have h : ∀ n, ∃ kvs, n ∈ st.ns → H (a.gE n) = some (.dK kvs) ∧ kvs.length ≤ c ∧ Ents K CB H kvs (st.en n) := fun n => by
        by_cases hn : n ∈ st.ns
        · obtain ⟨kvs, h⟩ := tb.ee n hn
          exact ⟨kvs, fun _ => h⟩
        · exact ⟨[], fun z => absurd z hn⟩
      exact ⟨fun n => Classical.choose (h n), fun n hn => Classical.choose_spec (h n) hn⟩
    repeat walk_at "rd"
    refine dcN (kv := kv) nd (by omega) (fun R k => Rd.fldV rfl (z4 ht) K_Table.cl K_Table.n2 rfl k) (z4 tb.nm) (fun _ => rfl) (fun o H1 R k => Rd.var rfl k) (fun o ho Hx R sx k => ?_) fun G gE H5 hG s5 g5 hg ng => ?_
    · repeat walk_at "rd"
      refine Rd.fldV rfl (sx _ _ (z4 ht)) K_Table.cl K_Table.n5 rfl ?_
      repeat walk_at "rd"
      refine ⟨a.en, _, rfl, get_tab (sx _ _ (z4 tb.en)) ho, ?_⟩
      exact ⟨a.gE o, _, rfl, .inl (sx _ _ (z4 (hkv o ho).1)), k⟩
    repeat walk_at "rd"
    refine ⟨t2, CT, dy, _, rfl, s5 _ _ y4, K_Table.cl, K_Table.n5, by simp, ?_⟩
    have e5 : putF "_entries" (.ref G) [(("_book" : Str), V.ref ta.bk), ("_names", .ref l), ("_bases", .ref d), ("_orders", .ref r), ("_entries", .ref ta.en)] = [(("_book" : Str), V.ref ta.bk), ("_names", .ref l), ("_bases", .ref d), ("_orders", .ref r), ("_entries", .ref G)] := rfl
    rw [e5]
    have k5 : Keep t2 H4 (upd H5 t2 (.ins CT dy [(("_book" : Str), V.ref ta.bk), ("_names", .ref l), ("_bases", .ref d), ("_orders", .ref r), ("_entries", .ref G)])) := (Keep.same s5).put
    have tG : G ≠ t2 := fun e => by rw [e, y4] at hG; cases hG
    have tg : ∀ n ∈ st.ns, gE n ≠ t2 := fun n hn e => by have := (hg n hn).2.1; rw [e, y4] at this; cases this
    have y5 : (upd H5 t2 (.ins CT dy [(("_book" : Str), V.ref ta.bk), ("_names", .ref l), ("_bases", .ref d), ("_orders", .ref r), ("_entries", .ref G)])) t2 = some (.ins CT dy [(("_book" : Str), V.ref ta.bk), ("_names", .ref l), ("_bases", .ref d), ("_orders", .ref r), ("_entries", .ref G)]) := upd_same
    have G5 : (upd H5 t2 (.ins CT dy [(("_book" : Str), V.ref ta.bk), ("_names", .ref l), ("_bases", .ref d), ("_orders", .ref r), ("_entries", .ref G)])) G = some (.dK (tab st.ns fun n => .ref (gE n))) := by rw [upd_ne tG]; exact g5
    have gg : ∀ n ∈ st.ns, (upd H5 t2 (.ins CT dy [(("_book" : Str), V.ref ta.bk), ("_names", .ref l), ("_bases", .ref d), ("_orders", .ref r), ("_entries", .ref G)])) (gE n) = some (.dK (kv n)) := fun n hn => by rw [upd_ne (tg n hn)]; exact (hg n hn).1
    generalize upd H5 t2 (.ins CT dy [(("_book" : Str), V.ref ta.bk), ("_names", .ref l), ("_bases", .ref d), ("_orders", .ref r), ("_entries", .ref G)]) = H6 at k5 y5 G5 gg ⊢
    have back : ∀ {Ha Hb : Hp} {x : Addr}, Keep t2 Ha Hb → x ≠ t2 → Hb x = none → Ha x = none := fun {Ha Hb x} kp ne e => by
      cases z : Ha x with
      | none => rfl
      | some u => rw [kp _ _ ne z] at e; cases e
    have sF : Same H H6 := fun b u e => k5 _ _ (ne_ e) (z4 e)
    have kF : Keep t2 H1 H6 := ((k2.trans k3).trans k4).trans k5
    have l1 : H1 l = none := hl
    have d1 : H1 d = none := back k2 td hd
    have r1 : H1 r = none := back (k2.trans k3) tr hr2
    have G1 : H1 G = none := back ((k2.trans k3).trans k4) tG hG
    have g1 : ∀ n ∈ st.ns, H1 (gE n) = none := fun n hn => back ((k2.trans k3).trans k4) (tg n hn) (hg n hn).2.1
    have nm6 : H6 l = some (.lst (st.ns.map V.str)) := k5 _ _ tl (k4 _ _ tl (k3 _ _ tl n2))
    have d6 : H6 d = some (.dK (tab st.ns fun n => .ref (a.gB n))) := k5 _ _ td (k4 _ _ td n3)
    have r6 : H6 r = some (.dK (tab st.ns fun n => .ref (a.gO n))) := k5 _ _ tr n4
    repeat walk_at "rd"
    refine q t2 { bk := ta.bk, w := ta.w, f := ta.f, nm := l, ba := d, od := r, en := G, g := ta.g, gB := a.gB, gO := a.gO, gE := gE } H6 sF ?_
    refine { ins := ⟨dy, y5⟩, bk := bk_keep kF (nt_ins hy1) (fun e => by rw [e, hy1] at hb; cases hb) (fun e => by have := bk2.wd; rw [e, hy1] at this; cases this) (fun e => by have := bk2.fd; rw [e, hy1] at this; cases this) bk2, nm := nm6, ba := ⟨d6, fun m hm => sqT_same sF (tb.ba.tp m hm)⟩, od := r6, ol := fun n hn => sF _ _ (tb.ol n hn), en := G5, ee := fun n hn => ⟨kv n, gg n hn, (hkv n hn).2.1, (hkv n hn).2.2.mono sF⟩, d1 := ?_, d2 := ?_, new := ⟨nt2, Same.free s1 l1, Same.free s1 r1, Same.free s1 G1, fun n hn => Same.free s1 (g1 n hn)⟩ }
    · show (ta.w :: ta.f :: d :: r :: G :: st.ns.map gE).Nodup
      have w1 := bk2.wd
      have f1 := bk2.fd
      have dr : d ≠ r := fun e => by have := k3.trans k4; rw [← e, n3] at hr2; cases hr2
      have dG : d ≠ G := fun e => by rw [← e, k4 _ _ td n3] at hG; cases hG
      have rG : r ≠ G := fun e => by rw [← e, n4] at hG; cases hG
      have ge : ∀ {x : Addr}, H4 x ≠ none → x ∉ st.ns.map gE := fun hx z => by
        obtain ⟨n, hn, e⟩ := List.mem_map.mp z
        exact hx (e ▸ (hg n hn).2.1)
      have g4 : ∀ {x : Addr} {u : HO}, H1 x = some u → x ≠ t2 → H4 x ≠ none := fun e ne z => by rw [((k2.trans k3).trans k4) _ _ ne e] at z; cases z
      have tw : ta.w ≠ t2 := fun e => by rw [e, hy1] at w1; cases w1
      have tf : ta.f ≠ t2 := fun e => by rw [e, hy1] at f1; cases f1
      have GE : G ∉ st.ns.map gE := fun z => by
        obtain ⟨n, hn, e⟩ := List.mem_map.mp z
        exact (hg n hn).2.2 e
      have q1 := ge (g4 w1 tw)
      have q2 := ge (g4 f1 tf)
      have q3 := ge (x := d) (fun z => by rw [k4 _ _ td n3] at z; cases z)
      have q4 := ge (x := r) (fun z => by rw [n4] at z; cases z)
      have c1 : ta.w ≠ d := ne_of_none w1 d1
      have c2 : ta.w ≠ r := ne_of_none w1 r1
      have c3 : ta.w ≠ G := ne_of_none w1 G1
      have c4 : ta.f ≠ d := ne_of_none f1 d1
      have c5 : ta.f ≠ r := ne_of_none f1 r1
      have c6 : ta.f ≠ G := ne_of_none f1 G1
      have c7 := bk2.ne
      refine List.nodup_cons.mpr ⟨?_, List.nodup_cons.mpr ⟨?_, List.nodup_cons.mpr ⟨?_, List.nodup_cons.mpr ⟨?_, List.nodup_cons.mpr ⟨GE, ng⟩⟩⟩⟩⟩
      · simp only [List.mem_cons, not_or]; exact ⟨c7, c1, c2, c3, q1⟩
      · simp only [List.mem_cons, not_or]; exact ⟨c4, c5, c6, q2⟩
      · simp only [List.mem_cons, not_or]; exact ⟨dr, dG, q3⟩
      · simp only [List.mem_cons, not_or]; exact ⟨rG, q4⟩
    · show (l :: st.ns.map a.gO).Nodup
      refine List.nodup_cons.mpr ⟨fun z => ?_, (List.nodup_cons.mp tb.d2).2⟩
      obtain ⟨n, hn, e⟩ := List.mem_map.mp z
      have h1 := s1 _ _ (tb.ol n hn)
      rw [e, l1] at h1
      cases h1
end
end Ab
namespace Ab
open M6 PySem.Spec PyProof.Rows
local macro_rules | `(tactic| walk_at "rd") => `(tactic| (with_reducible first | refine Rd.tt_ ?_ | refine Rd.ff_ ?_ | refine Rd.sfld ?_ | refine Rd.dget ?_ | refine Rd.methR ?_ | refine Rd.propR ?_ | refine Rd.statR ?_ | refine Rd.getR ?_))
/-! ### two tables that hold the same -/
theorem val_in {kvs : List (Key × V)} (nd : (kvs.map (·.1)).Nodup) : ∀ {kv : Key × V}, kv ∈ kvs → valV kvs kv.1 = some kv.2 := by
  induction kvs with
  | nil => exact fun h => (nomatch h)
  | cons p r ih =>
    intro kv h
    obtain ⟨n1, n2⟩ := List.nodup_cons.mp nd
    rcases List.mem_cons.mp h with rfl | h
    · exact valV_pos rfl
    · rw [valV_neg (fun e => n1 (by show p.1 ∈ _; rw [e]; exact List.mem_map_of_mem (f := fun x : Key × V => x.1) h))]
      exact ih n2 h
theorem val_key {kvs : List (Key × V)} {k : Key} : k ∈ kvs.map (·.1) ↔ (valV kvs k).isSome = true := by
  rw [← valV_any, List.any_eq_true]
  constructor
  · intro h
    obtain ⟨kv, h1, h2⟩ := List.mem_map.mp h
    exact ⟨kv, h1, decide_eq_true h2⟩
  · rintro ⟨kv, h1, h2⟩
    exact List.mem_map.mpr ⟨kv, h1, of_decide_eq_true h2⟩
theorem entW_shaped : ∀ z ∈ entW, SeqAt.shaped (.str z) = true := by decide +kernel
def WordsOf (f : Str → Option Ent) : Prop := ∀ m ∈ methods, ∀ e, f m = some e → ∃ z, e = .w z
theorem ents_same {K : PySem.W.Frag} {CB : Addr} {H : Hp} {kvs kvs' : List (Key × V)} {f : Str → Option Ent} (h : Ents K CB H kvs f) (h' : Ents K CB H kvs' f) (wd : WordsOf f) : kvs.length = kvs'.length ∧ Ob.HitF (Ob.EqB K H 1) kvs' kvs true := by
  have key : ∀ {k1 k2 : List (Key × V)}, Ents K CB H k1 f → Ents K CB H k2 f → ∀ k ∈ k1.map (·.1), k ∈ k2.map (·.1) := by
    intro k1 k2 e1 e2 k hk
    obtain ⟨m, hm, rfl⟩ := e1.ks.2 k hk
    have v1 := val_key.mp hk
    cases c : f m with
    | none => rw [e1.no m hm c] at v1; cases v1
    | some e =>
      obtain ⟨v, hv, _⟩ := e2.yes m hm e c
      exact val_key.mpr (by rw [hv]; rfl)
  have len : ∀ {k1 k2 : List (Key × V)}, Ents K CB H k1 f → Ents K CB H k2 f → k1.length ≤ k2.length := fun {k1 k2} e1 e2 => by
    have := nodup_le e1.ks.1 (key e1 e2)
    rw [List.length_map, List.length_map] at this
    exact this
  refine ⟨Nat.le_antisymm (len h h') (len h' h), ?_⟩
  have go : ∀ r : List (Key × V), (∀ kv ∈ r, kv ∈ kvs) → Ob.HitF (Ob.EqB K H 1) kvs' r true := by
    intro r
    induction r with
    | nil => exact fun _ => .nil
    | cons p r ih =>
      intro sub
      obtain ⟨k, v⟩ := p
      have mem := sub _ List.mem_cons_self
      obtain ⟨m, hm, e⟩ := h.ks.2 k (List.mem_map.mpr ⟨_, mem, rfl⟩)
      have e : k = .inr m := e
      subst e
      have hv : valV kvs (.inr m) = some v := val_in h.ks.1 mem
      cases c : f m with
      | none => rw [h.no m hm c] at hv; cases hv
      | some e =>
        obtain ⟨z, rfl⟩ := wd m hm e c
        obtain ⟨v1, h1, rfl, hz⟩ := h.yes m hm _ c
        obtain ⟨v2, h2, rfl, _⟩ := h'.yes m hm _ c
        rw [h1] at hv
        obtain rfl : V.str z = v := Option.some.inj hv
        have := Ob.HitF.hit (F := Ob.EqB K H 1) (e := true) (b := true) h2 (.inl ⟨.str z, .str z, .str _, .str _, entW_shaped z hz, entW_shaped z hz, (SeqAt.eqv_refl _ (SeqAt.canLay_of_shaped (entW_shaped z hz))).symm⟩) (ih fun kv hkv => sub kv (List.mem_cons_of_mem _ hkv))
        exact this
  exact go kvs fun _ h => h
section
variable {P : Program} {w : World} {K : PySem.W.Frag} {mg : Str → Option Value} {base : Heap}
theorem tb_ty {CT CB CK : Addr} (B : TF K mg CT) (c : BkIC K CT) {H0 H : Hp} {t : Addr} {a : TA} {s : Tt} {n : Nat} (tb : TbAt K CT CB CK H0 H t a s n) : TyX K H (.ref t) (.ref CT) := by
  obtain ⟨dx, hb⟩ := tb.ins
  exact .base (.ins hb B.cl c.hc c.hs c.ht B.ob)
/-- the same content, by words alone -/
structure Alike (s s' : Tt) : Prop where
  ns : s'.ns = s.ns
  bs : ∀ n ∈ s.ns, s'.bs n = s.bs n
  en : ∀ n ∈ s.ns, s'.en n = s.en n
  wd : ∀ n ∈ s.ns, WordsOf (s.en n)
  sn : SeqAt.shaped (Dt.dS s.ns) = true
  sb : ∀ n ∈ s.ns, SeqAt.shaped (dT (s.bs n)) = true
theorem eq_bases {H : Hp} {a a' : TA} {s s' : Tt} (al : Alike s s') (h : BasesAt K H a.ba s.ns a.gB s.bs) (h' : BasesAt K H a'.ba s'.ns a'.gB s'.bs) : ∃ ks ls r, H a.ba = some (.dK ks) ∧ H a'.ba = some (.dK ls) ∧ Ob.HitF (Ob.EqB K H 2) ls ks r ∧ (ks.length == ls.length && r) = true := by
  have e1 := al.ns
  refine ⟨_, _, s.ns.all fun _ => true, h.dt, h'.dt, hit_tab (l0 := s'.ns) fun o ho => ⟨by rw [e1]; exact ho, .inl ⟨dT (s.bs o), dT (s'.bs o), .tup (h.tp o ho) (Dt.dp_strs _), .tup (h'.tp o (by rw [e1]; exact ho)) (Dt.dp_strs _), al.sb o ho, by rw [al.bs o ho]; exact al.sb o ho, by rw [al.bs o ho, eqv_dT]; exact (decide_eq_true rfl).symm⟩⟩, ?_⟩
  rw [tab_len, tab_len, e1, beq_self_eq_true, Bool.true_and]
  exact List.all_eq_true.mpr fun _ _ => rfl
theorem eq_ents {CT CB CK CT' : Addr} {H0 H0' H : Hp} {t t' : Addr} {a a' : TA} {s s' : Tt} {c c' : Nat} (al : Alike s s') (h : TbAt K CT CB CK H0 H t a s c) (h' : TbAt K CT' CB CK H0' H t' a' s' c') (nd : ∀ n ∈ s.ns, a.gE n ≠ a'.gE n) : ∃ ks ls r, H a.en = some (.dK ks) ∧ H a'.en = some (.dK ls) ∧ Ob.HitF (Ob.EqB K H 2) ls ks r ∧ (ks.length == ls.length && r) = true := by
  have e1 := al.ns
  refine ⟨_, _, s.ns.all fun _ => true, h.en, h'.en, hit_tab (l0 := s'.ns) fun o ho => ⟨by rw [e1]; exact ho, ?_⟩, ?_⟩
  · obtain ⟨kv, h1, _, h2⟩ := h.ee o ho
    obtain ⟨kv', h1', _, h2'⟩ := h'.ee o (by rw [e1]; exact ho)
    rw [al.en o ho] at h2'
    obtain ⟨l1, l2⟩ := ents_same h2 h2' (al.wd o ho)
    exact .inr ⟨a.gE o, a'.gE o, kv, kv', true, rfl, rfl, nd o ho, h1, h1', l2, by rw [l1, beq_self_eq_true]; rfl⟩
  · rw [tab_len, tab_len, e1, beq_self_eq_true, Bool.true_and]
    exact List.all_eq_true.mpr fun _ _ => rfl
abbrev sTable___eq__ : Stmt := meth 66 14
abbrev nTable___eq__ : List Str := ["self", "other"]
theorem scTable___eq__ : FnScope nTable___eq__ ["self", "other"] (defScope sTable___eq__) := ⟨rfl, rfl, rfl, by decide +kernel, rfl, by decide +kernel, by decide +kernel⟩
def spTEq (K : PySem.W.Frag) (CT CB CK : Addr) : Sp := fun vs H Q _ => ∃ (H0 H0' : Hp) (t t' : Addr) (a a' : TA) (s s' : Tt) (c c' : Nat), vs = [.ref t, .ref t'] ∧ TbAt K CT CB CK H0 H t a s c ∧ TbAt K CT CB CK H0' H t' a' s' c' ∧ Alike s s' ∧ (∀ n ∈ s.ns, a.gE n ≠ a'.gE n) ∧ OkM s.m ∧ OkM s'.m ∧
  Q (.bl (bookEq s.m s'.m s.fl s'.fl)) H
theorem ok_teq (T : Txt K mg) {C_Table CB C_Book : Addr} (K_Table : TF K mg C_Table) (K_Book : BF K mg C_Book) (ic : BkIC K C_Table) (icb : BkIC K C_Book) (Q_Book : Ob.EqCal P w K mg base CX0 C_Book 1 (spBkEq K C_Book)) {f : Addr} {fd : FuncData} (D : Ob.MethAt K "__eq__" "Table.__eq__" sTable___eq__ ["self", "other"] f fd) : FnG P w K mg base CX0 4 f fd ["self", "other"] (spTEq K C_Table CB C_Book) := by
  refine Ob.byG D scTable___eq__ (fun vs H Q E h => ?_) (fun cd A hg outer s H vs Q E hr h => ?_)
  · obtain ⟨_, _, _, _, _, _, _, _, _, _, rfl, _⟩ := h
    rfl
  · obtain ⟨H0, H0', t, t', a, a', st, st', c, c', rfl, tb, tb', al, ng, om, om', q⟩ := h
    obtain ⟨dx, ht⟩ := tb.ins
    obtain ⟨dy, ht'⟩ := tb'.ins
    let Q_sp_Book := spBkEq K C_Book
    refine ⟨_, (pss_one (ps_ret (pe_and (pe_callB (r := rIsi K) call_isi (by rfl) T.isinstance (by decide +kernel) (pa_cons (pv 1) (pa_cons (pe_glob (v := .ref C_Table) (by rfl) K_Table.g rfl) pa_nil))) (pe_and (pe_cmpR (r := rEqD K) (op_eqD hr.units) (pe_fld (pv 0) (by rfl)) (pe_fld (pv 1) (by rfl)) (nomark _)) (pe_and (pe_cmpR (r := Ob.rEqX K false) (Ob.op_eqX (un80 hr)) (pe_fld (pv 0) (by rfl)) (pe_fld (pv 1) (by rfl)) (nomark _)) (pe_and (pe_cmpR (r := Ob.rEqX K false) (Ob.op_eqX (un80 hr)) (pe_fld (pv 0) (by rfl)) (pe_fld (pv 1) (by rfl)) (nomark _)) (pe_one (pe_cmpR (r := Ob.rEqO K C_Book Q_sp_Book false) (Ob.op_eqO Q_Book hg hr (by decide) pass0) (pe_fld (pv 0) (by rfl)) (pe_fld (pv 1) (by rfl)) (nomark _))))))))), ?_⟩
    repeat walk_at "rd"
    refine ⟨.ref t', .ref C_Table, .ref C_Table, .ref C_Table, true, rfl, .own _, tb_ty K_Table ic tb', kit_self, ?_⟩
    repeat walk_at "rd"
    refine Rd.fldV rfl ht K_Table.cl K_Table.n2 rfl ?_
    refine Rd.fldV rfl ht' K_Table.cl K_Table.n2 rfl ?_
    refine Rd.eqD (d := Dt.dS st.ns) (e := Dt.dS st'.ns) (Dt.dp_S (SqL.of tb.nm)) (Dt.dp_S (SqL.of tb'.nm)) al.sn (by rw [al.ns]; exact al.sn) ?_
    have e1 : PyData.eqv (Dt.dS st.ns) (Dt.dS st'.ns) = true := by rw [al.ns]; exact SeqAt.eqv_refl _ (SeqAt.canLay_of_shaped al.sn)
    rw [e1]
    refine ⟨_, rfl, ?_⟩
    refine Rd.tt_ ?_
    repeat walk_at "rd"
    refine Rd.fldV rfl ht K_Table.cl K_Table.n3 rfl ?_
    refine Rd.fldV rfl ht' K_Table.cl K_Table.n3 rfl ?_
    obtain ⟨ks, ls, r, h1, h2, h3, h4⟩ := eq_bases (K := K) al tb.ba tb'.ba
    refine ⟨a.ba, a'.ba, ks, ls, r, rfl, rfl, h1, h2, h3, ?_⟩
    rw [if_neg Bool.false_ne_true, h4]
    refine ⟨_, rfl, ?_⟩
    refine Rd.tt_ ?_
    repeat walk_at "rd"
    refine Rd.fldV rfl ht K_Table.cl K_Table.n5 rfl ?_
    refine Rd.fldV rfl ht' K_Table.cl K_Table.n5 rfl ?_
    obtain ⟨ks, ls, r, h1, h2, h3, h4⟩ := eq_ents (K := K) al tb tb' ng
    refine ⟨a.en, a'.en, ks, ls, r, rfl, rfl, h1, h2, h3, ?_⟩
    rw [if_neg Bool.false_ne_true, h4]
    refine ⟨_, rfl, ?_⟩
    refine Rd.tt_ ?_
    repeat walk_at "rd"
    refine Rd.fldV rfl ht K_Table.cl K_Table.n1 rfl ?_
    refine Rd.fldV rfl ht' K_Table.cl K_Table.n1 rfl ?_
    obtain ⟨db, hb⟩ := tb.bk.ins
    repeat walk_at "rd"
    refine ⟨a.bk, db, _, .ref C_Book, rfl, hb, bk_ty K_Book icb tb'.bk, by show (Value.ref C_Book == Value.ref C_Book || _) = true; simp, a.bk, a.w, a.f, a.g, st.m, st.fl, .ref a'.bk, rfl, tb.bk, om, .inr ⟨a'.bk, a'.w, a'.f, a'.g, st'.m, st'.fl, rfl, tb'.bk, om', _, rfl, ?_⟩⟩
    rw [if_neg Bool.false_ne_true]
    exact q
/-- table != table, of two that hold the same -/
theorem neTb {CT CB CK : Addr} {H0 H0' H : Hp} {t t' : Addr} {a a' : TA} {s s' : Tt} {c c' : Nat} {Q : VK} (B : TF K mg CT) (ic : BkIC K CT) (tb : TbAt K CT CB CK H0 H t a s c) (tb' : TbAt K CT CB CK H0' H t' a' s' c') (al : Alike s s') (ng : ∀ n ∈ s.ns, a.gE n ≠ a'.gE n) (om : OkM s.m) (om' : OkM s'.m) (q : Q (.bl (!bookEq s.m s'.m s.fl s'.fl)) H) : Ob.rEqO K CT (spTEq K CT CB CK) true (.ref t) (.ref t') H Q := by
  obtain ⟨dx, hb⟩ := tb.ins
  refine ⟨t, dx, _, .ref CT, rfl, hb, tb_ty B ic tb', by show (Value.ref CT == Value.ref CT || _) = true; simp, H0, H0', t, t', a, a', s, s', c, c', rfl, tb, tb', al, ng, om, om', _, rfl, ?_⟩
  rw [if_pos rfl]
  exact q
end
end Ab
namespace Gk
open PySem.Spec PyProof.Rows
/-- a def that has defaults -/
structure FunDf (K : PySem.W.Frag) (x qual : Str) (st : Stmt) (f : Addr) (fd : FuncData) : Prop where
  ex : ∃ (oc : Value) (od : Option Addr) (dV kV doc pm : Value) (an : Option Addr) (cd ct : Value) (osl : Array (Option Value)), fd = PySem.W.fnOf x qual (defArgs st) (defBody st) (defScope st) dV kV doc pm an cd ct ∧ K.lookup f = some ⟨oc, od, .func fd, osl⟩ ∧ PySem.W.codeIn K cd qual = true
section
variable {P : Program} {w : World} {K : PySem.W.Frag} {mg : Str → Option Value} {base : Heap}
/-- the rule for a def, where it has defaults -/
theorem defGD {CX : CXT} {k : Nat} {f : Addr} {x qual : Str} {st : Stmt} {fd : FuncData} {N ps : List Str} {sp : Sp}
    (F : FunDf K x qual st f fd) (S : FnScope N ps (defScope st)) (len : ∀ vs H Q E, sp vs H Q E → vs.length = ps.length)
    (inner : ∀ (cd : Value) (A : Around), A.guards = some [] → ∀ (outer : List Env) (s : Shared) (H : Hp) (vs : List V) (Q : VK) (E : XK),
      Room k (A.deeper (envOfC qual (defScope st) s.heap.objs.size f cd)) → sp vs H Q E →
      ∃ t, PSs (cxOf CX P w K mg base N qual (defScope st) f cd A outer s H E) (defBody st) t ∧ t { nx := fun _ H' => Q .non H', rt := Q } (start N vs) H) :
    FnG P w K mg base CX (k + 1) f fd ps sp := by
  obtain ⟨oc, od, dV, kV, doc, pm, an, cd, ct, osl, rfl, lk, hcd⟩ := F.ex
  refine ⟨len, ?_⟩
  intro A g outer s H args us vs Q E hr e0 hb r hsp
  have kept : ∀ b o, base.get? b = some o → s.heap.get? b = some o := fun b o z => (e0.bs b o z).1
  have KX : K.In s.heap := e0.mod.kin.keeps kept
  have lim : s.heap.NoLimit := e0.mod.nolimit.keeps kept
  have slots : ∀ y ∈ ps.zip us, (defScope st).names.lookup y.1 = some .local ∨
      ((defScope st).names.lookup y.1 = some .cell ∧ ((cellsFrom (s.heap.objs.size + 1) (defScope st).names []).lookup y.1).isSome = true) := by
    rintro ⟨n, v⟩ hy
    have hp := S.par n (List.of_mem_zip hy).1
    exact hp.imp id fun q => ⟨q, PySem.W.cellsFrom_some _ _ _ (.inl q)⟩
  refine codeAny_call_function hr.depth (KX _ _ lk) rfl S.co S.gen rfl (PySem.W.codeRec_of KX hcd) (hb _ _ _ _ ?_)
  refine wpAny_newFunctionEnv_cells S.kind slots ?_
  rintro env rfl s1 x
  refine ⟨lim.keeps x.toInCall.keep, codeAny_func ?_⟩
  obtain ⟨t, ht, hq⟩ := inner cd A g outer s H vs Q E (hr.deeper _) hsp
  have I := inv_start (CX := CX) (mg := mg) (E := E) S hr.hd e0 (len _ _ _ _ hsp) r x
  refine wpAny_mono (ht.run [] s1 (start N vs) H _ I hq) ?_ fun _ _ z => z
  intro fl s' hs
  match fl, hs with
  | .ret u, ⟨v, σ', H', J, rv, q⟩ => exact ⟨v, H', J.os, J.bare, J.base, J.hok, rv, q⟩
  | .next, ⟨σ', H', J, q⟩ => exact ⟨V.non, H', J.os, J.bare, J.base, J.hok, rfl, q⟩
  | .brk, ⟨_, _, _, q⟩ => exact q.elim
  | .cont, ⟨_, _, _, q⟩ => exact q.elim
theorem defGD0 {k : Nat} {f : Addr} {x qual : Str} {st : Stmt} {fd : FuncData} {N ps : List Str} {sp : Sp}
    (F : FunDf K x qual st f fd) (S : FnScope N ps (defScope st)) (len : ∀ vs H Q E, sp vs H Q E → vs.length = ps.length)
    (inner : ∀ (cd : Value) (A : Around), A.guards = some [] → ∀ (outer : List Env) (s : Shared) (H : Hp) (vs : List V) (Q : VK) (E : XK),
      Room k (A.deeper (envOfC qual (defScope st) s.heap.objs.size f cd)) → sp vs H Q E →
      ∃ t, PSs (cxOf CX0 P w K mg base N qual (defScope st) f cd A outer s H E).nox (defBody st) t ∧ t { nx := fun _ H' => Q .non H', rt := Q } (start N vs) H) :
    FnG P w K mg base CX0 (k + 1) f fd ps sp :=
  defGD F S len fun cd A g outer s H vs Q E hr h => let ⟨t, a, b⟩ := inner cd A g outer s H vs Q E hr h; ⟨t, a.nox, b⟩
end
end Gk
namespace Ab
open M6 PySem.Spec PyProof.Rows
local macro_rules | `(tactic| walk_at "rd") => `(tactic| (with_reducible first | refine Rd.tt_ ?_ | refine Rd.ff_ ?_ | refine Rd.sfld ?_ | refine Rd.dget ?_ | refine Rd.methR ?_ | refine Rd.propR ?_ | refine Rd.statR ?_ | refine Rd.getR ?_))
/-! ### a scene -/
structure SF (K : PySem.W.Frag) (mg : Str → Option Value) (C : Addr) : Prop extends Ob.CF K mg "Scene" C where
  n1 : NoAttr K C "_names"
  n2 : NoAttr K C "_table"
  n3 : NoAttr K C "_book"
structure ScAt (K : PySem.W.Frag) (CS CT CB CK : Addr) (H0 H : Hp) (x p t : Addr) (ta : TA) (ns : List Str) (s : Tt) (c : Nat) : Prop where
  ins : ∃ dx b, H x = some (.ins CS dx [("_names", .ref p), ("_table", .ref t), ("_book", .ref b)])
  nm : SqT K H p (ns.map V.str)
  tb : TbAt K CT CB CK H0 H t ta s c
theorem tb_keep {K : PySem.W.Frag} {CT CB CK : Addr} {H0 H H' : Hp} {t p C dx : Addr} {fs : List (Str × V)} {a : TA} {s : Tt} {c : Nat} (h : TbAt K CT CB CK H0 H t a s c) (k : Keep p H H') (hp : H p = some (.ins C dx fs)) (n5 : fs.length ≠ 5) (n3 : fs.length ≠ 3) (nb : a.bk ≠ p) : TbAt K CT CB CK H0 H' t a s c := by
  obtain ⟨dt, ht⟩ := h.ins
  have nt := nt_ins hp
  have nbd := nb_ins hp n3
  have dk : ∀ {u : Addr} {l : List (Key × V)}, H u = some (.dK l) → u ≠ p := fun e z => by rw [z, hp] at e; cases e
  have ls : ∀ {u : Addr} {l : List V}, H u = some (.lst l) → u ≠ p := fun e z => by rw [z, hp] at e; cases e
  have tp : t ≠ p := fun z => by
    rw [z, hp] at ht
    have e2 := (HO.ins.inj (Option.some.inj ht)).2.2
    rw [e2] at n5
    exact n5 rfl
  exact { ins := ⟨dt, k _ _ tp ht⟩, bk := bk_keep k nt nb (dk h.bk.wd) (dk h.bk.fd) h.bk, nm := k _ _ (ls h.nm) h.nm, ba := ⟨k _ _ (dk h.ba.dt) h.ba.dt, fun m hm => sqT_keep k nt (h.ba.tp m hm)⟩, od := k _ _ (dk h.od) h.od, ol := fun n hn => k _ _ (ls (h.ol n hn)) (h.ol n hn), en := k _ _ (dk h.en) h.en, ee := fun n hn => let ⟨kv, e1, e2, e3⟩ := h.ee n hn; ⟨kv, k _ _ (dk e1) e1, e2, ents_keep k nt nbd e3⟩, d1 := h.d1, d2 := h.d2, new := h.new }
section
variable {P : Program} {w : World} {K : PySem.W.Frag} {mg : Str → Option Value} {base : Heap}
abbrev sCheck_table : Stmt := top 67
abbrev nCheck_table : List Str := ["table"]
theorem scCheck_table : FnScope nCheck_table ["table"] (defScope sCheck_table) := ⟨rfl, rfl, rfl, by decide +kernel, rfl, by decide +kernel, by decide +kernel⟩
def spCheckTable (K : PySem.W.Frag) (CT CB CK : Addr) : Sp := fun vs H Q _ => ∃ (H0 : Hp) (t : Addr) (a : TA) (s : Tt) (c : Nat), vs = [.ref t] ∧ TbAt K CT CB CK H0 H t a s c ∧ Q .non H
theorem ok_check_table (T : Txt K mg) {C_Table CB CK : Addr} (K_Table : TF K mg C_Table) (ic : BkIC K C_Table) (D : DefAt K mg "check_table" sCheck_table ["table"]) : CalG P w K mg base 1 "check_table" (spCheckTable K C_Table CB CK) := by
  refine D.by scCheck_table (fun vs H Q E h => ?_) (fun f cd A hg outer s H vs Q E hr h => ?_)
  · obtain ⟨_, _, _, _, _, rfl, _⟩ := h
    rfl
  · obtain ⟨H0, t, a, st, c, rfl, tb, q⟩ := h
    refine ⟨_, (pss_one (ps_if (pt_not (pt_val (pe_callB (r := rIsi K) call_isi (by rfl) T.isinstance (by decide +kernel) (pa_cons (pv 0) (pa_cons (pe_glob (v := .ref C_Table) (by rfl) K_Table.g rfl) pa_nil)))))
  (pss_one Sm.ps_dead)
  pss_nil)), ?_⟩
    repeat walk_at "rd"
    refine ⟨.ref t, .ref C_Table, .ref C_Table, .ref C_Table, true, rfl, .own _, tb_ty K_Table ic tb, kit_self, ?_⟩
    repeat walk_at "rd"
    refine Rd.ff_ ?_
    repeat walk_at "rd"
    exact q
abbrev sScene___init__ : Stmt := meth 71 0
abbrev nScene___init__ : List Str := ["self", "table", "left", "right", "item", "names", "name"]
theorem scScene___init__ : FnScope nScene___init__ ["self", "table", "left", "right", "item"] (defScope sScene___init__) := ⟨rfl, rfl, rfl, by decide +kernel, rfl, by decide +kernel, by decide +kernel⟩
def spSInit (K : PySem.W.Frag) (CS CT CB CK : Addr) : Sp := fun vs H Q _ => ∃ (H0 : Hp) (x dx t : Addr) (a : TA) (s : Tt) (c : Nat) (n0 n1 n2 : Str), vs = [.ref x, .ref t, .str n0, .str n1, .str n2] ∧ H x = some (.ins CS dx []) ∧ TbAt K CT CB CK H0 H t a s c ∧ s.ns.Nodup ∧ s.ns.length ≤ 8 ∧ n0 ∈ s.ns ∧ n1 ∈ s.ns ∧ n2 ∈ s.ns ∧
  ∀ p t2 ta H', Same (hide x H) H' → ScAt K CS CT CB CK (hide x H) H' x p t2 ta [n0, n1, n2] s c → Q .non H'
theorem ok_sinit (T : Txt K mg) {CS C_Table CB C_Book : Addr} (K_Scene : SF K mg CS) (K_Table : TF K mg C_Table) (CCheck_table : CalG P w K mg base 1 "check_table" (spCheckTable K C_Table CB C_Book)) (N_Table : Sm.InCal P w K mg base CX0 C_Table 2 (spTHas K C_Table CB C_Book)) (M_Table_twin : Ob.MCal P w K mg base CX0 C_Table 6 "twin" (spTTwin K C_Table CB C_Book)) (M_Table_book : Ob.MCal P w K mg base CX0 C_Table 4 "book" (spTBook K C_Table CB C_Book)) {f : Addr} {fd : FuncData}
    (D : FunDf K "__init__" "Scene.__init__" sScene___init__ f fd) : FnG P w K mg base CX0 7 f fd ["self", "table", "left", "right", "item"] (spSInit K CS C_Table CB C_Book) := by
  refine defGD0 D scScene___init__ (fun vs H Q E h => ?_) (fun cd A hg outer s H vs Q E hr h => ?_)
  · obtain ⟨_, _, _, _, _, _, _, _, _, _, rfl, _⟩ := h
    rfl
  · obtain ⟨H0, x, dx, t, a, st, c, n0, n1, n2, rfl, hx, tb, nd, l8, m0, m1, m2, q⟩ := h
    obtain ⟨dt, ht⟩ := tb.ins
    let N_sp_Table := spTHas K C_Table CB C_Book
    refine ⟨_, (pss_cons (ps_expr (pe_cG CCheck_table hg hr (by decide) (pa_cons (pv 1) pa_nil)))
  (pss_cons (ps_set (i := 5) scScene___init__.nd rfl (Or.inl rfl) (pe_tup (pa_cons (pv 2) (pa_cons (pe_ifExp (pt_cmpR op_isN (pv 3) pe_non (nomark _)) (pv 2) (pv 3)) (pa_cons (pe_ifExp (pt_cmpR op_isN (pv 4) pe_non (nomark _)) (pv 2) (pv 4)) pa_nil)))))
  (pss_cons (ps_for (wi := iTup K _) PassesOwn.never rfl (pi_tup (pv 5)) (pg_name (i := 6) scScene___init__.nd rfl (Or.inl rfl))
  (pss_one (ps_if (pt_cmpR (r := Sm.rInO C_Table N_sp_Table true) (Sm.op_ninO N_Table hg hr (by decide) pass0) (pv 6) (pv 1) (by rfl))
  (pss_one Sm.ps_dead)
  pss_nil)))
  (pss_cons (ps_fld (pv 0) (pv 5) (by rfl))
  (pss_cons (ps_fld (pv 0) (Ob.meth0 (pv 1) K_Table.cl M_Table_twin hg hr (by decide) pass0) (by rfl))
  (pss_one (ps_fld (pv 0) (Ob.meth0 (pv 1) K_Table.cl M_Table_book hg hr (by decide) pass0) (by rfl)))))))), ?_⟩
    repeat walk_at "rd"
    refine ⟨H0, t, a, st, c, rfl, tb, ?_⟩
    repeat walk_at "rd"
    refine Rd.dec (fun e => nomatch e) (fun _ => ?_)
    repeat walk_at "rd"
    refine Rd.dec (fun e => nomatch e) (fun _ => ?_)
    repeat walk_at "rd"
    refine ⟨Rd.sz (by simp), fun p hp => ?_⟩
    have px : p ≠ x := fun e => by rw [e, hx] at hp; cases hp
    have s1 := Rd.sNew (o := .tup [.str n0, .str n1, .str n2]) hp
    have p1 : SqT K (upd H p (.tup [.str n0, .str n1, .str n2])) p ([n0, n1, n2].map V.str) := .inl (.inl upd_same)
    have x1 := s1 _ _ hx
    generalize upd H p (.tup [.str n0, .str n1, .str n2]) = H1 at s1 p1 x1 ⊢
    repeat walk_at "rd"
    refine forTu ?_
    repeat walk_at "rd"
    refine ⟨p, rfl, ⟨_, p1⟩, ?_⟩
    have mem : ∀ n ∈ [n0, n1, n2], n ∈ st.ns := by
      intro n hn
      simp only [List.mem_cons, List.not_mem_nil, or_false] at hn
      rcases hn with rfl | rfl | rfl <;> assumption
    refine for_tup (K := K) (a := p) (xs := [n0, n1, n2].map V.str) (fun i σ H2 => ∃ v6, σ = [some (.ref x), some (.ref t), some (.str n0), some (.str n1), some (.str n2), some (.ref p), v6] ∧ H2 = H1) ⟨_, rfl, rfl⟩ (fun i σ H2 _ ⟨_, _, e⟩ => by rw [e]; exact p1) ?_ ?_
    · rintro i z σ H2 hz ⟨v6, rfl, eH⟩
      obtain rfl : H1 = H2 := eH.symm
      obtain ⟨hi, e⟩ := List.getElem?_eq_some_iff.mp hz
      rw [List.length_map] at hi
      rw [List.getElem_map] at e
      subst e
      repeat walk_at "rd"
      have hm := mem _ (List.getElem_mem hi)
      have e : isIn (.str [n0, n1, n2][i]) st.ns = true := decide_eq_true hm
      refine ⟨t, dt, _, rfl, s1 _ _ ht, H0, t, a, st, c, _, _, rfl, tb.mono s1, kd_str _, _, rfl, ?_⟩
      rw [if_pos rfl, e]
      repeat walk_at "rd"
      exact ⟨_, rfl, rfl⟩
    · rintro σ H2 ⟨v6, rfl, eH⟩
      obtain rfl : H1 = H2 := eH.symm
      clear eH
      repeat walk_at "rd"
      refine ⟨x, CS, dx, [], rfl, x1, K_Scene.cl, K_Scene.n1, by decide, ?_⟩
      have e1 : putF "_names" (.ref p) [] = [(("_names" : Str), V.ref p)] := rfl
      rw [e1]
      have k2 : Keep x H1 (upd H1 x (.ins CS dx [("_names", .ref p)])) := Keep.put (fun _ _ _ e => e)
      have x2 : upd H1 x (.ins CS dx [("_names", .ref p)]) x = some (.ins CS dx [("_names", .ref p)]) := upd_same
      generalize upd H1 x (.ins CS dx [("_names", .ref p)]) = H2 at k2 x2 ⊢
      have bx : a.bk ≠ x := fun e => by
        obtain ⟨db, hb⟩ := tb.bk.ins
        rw [e, hx] at hb
        have := (HO.ins.inj (Option.some.inj hb)).2.2
        cases this
      have tb2 := tb_keep (tb.mono s1) k2 x1 (by decide) (by decide) bx
      obtain ⟨dt2, ht2⟩ := tb2.ins
      repeat walk_at "rd"
      refine ⟨t, dt2, _, rfl, ht2, rfl, ?_⟩
      repeat walk_at "rd"
      refine ⟨H0, t, a, st, c, rfl, tb2, nd, l8, fun t2 ta H3 s3 tb3 => ?_⟩
      have x3 := s3 _ _ x2
      repeat walk_at "rd"
      refine ⟨x, CS, dx, _, rfl, x3, K_Scene.cl, K_Scene.n2, by simp, ?_⟩
      have e2 : putF "_table" (.ref t2) [(("_names" : Str), V.ref p)] = [(("_names" : Str), V.ref p), ("_table", .ref t2)] := rfl
      rw [e2]
      have k4 : Keep x H3 (upd H3 x (.ins CS dx [("_names", .ref p), ("_table", .ref t2)])) := Keep.put (fun _ _ _ e => e)
      have x4 : upd H3 x (.ins CS dx [("_names", .ref p), ("_table", .ref t2)]) x = some (.ins CS dx [("_names", .ref p), ("_table", .ref t2)]) := upd_same
      generalize upd H3 x (.ins CS dx [("_names", .ref p), ("_table", .ref t2)]) = H4 at k4 x4 ⊢
      have bx2 : ta.bk ≠ x := fun e => by
        obtain ⟨db, hb⟩ := tb3.bk.ins
        rw [e, x3] at hb
        have := (HO.ins.inj (Option.some.inj hb)).2.2
        cases this
      have tb4 := tb_keep (tb2.mono s3) k4 x3 (by simp) (by simp) bx
      have tw4 := tb_keep tb3 k4 x3 (by simp) (by simp) bx2
      obtain ⟨dt4, ht4⟩ := tb4.ins
      repeat walk_at "rd"
      refine ⟨t, dt4, _, rfl, ht4, rfl, ?_⟩
      repeat walk_at "rd"
      refine ⟨H0, t, a, st, c, rfl, tb4, fun g b w1 f1 H5 s5 nb5 nw5 nf5 bk5 => ?_⟩
      have x5 := s5 _ _ x4
      repeat walk_at "rd"
      refine ⟨x, CS, dx, _, rfl, x5, K_Scene.cl, K_Scene.n3, by simp, ?_⟩
      have e3 : putF "_book" (.ref b) [(("_names" : Str), V.ref p), ("_table", .ref t2)] = [(("_names" : Str), V.ref p), ("_table", .ref t2), ("_book", .ref b)] := rfl
      rw [e3]
      have k6 : Keep x H5 (upd H5 x (.ins CS dx [("_names", .ref p), ("_table", .ref t2), ("_book", .ref b)])) := Keep.put (fun _ _ _ e => e)
      have x6 : upd H5 x (.ins CS dx [("_names", .ref p), ("_table", .ref t2), ("_book", .ref b)]) x = some (.ins CS dx [("_names", .ref p), ("_table", .ref t2), ("_book", .ref b)]) := upd_same
      generalize upd H5 x (.ins CS dx [("_names", .ref p), ("_table", .ref t2), ("_book", .ref b)]) = H6 at k6 x6 ⊢
      have tw6 := tb_keep (tw4.mono s5) k6 x5 (by simp) (by simp) bx2
      have kk : Keep x H1 H6 := (((k2.trans (Keep.same s3)).trans k4).trans (Keep.same s5)).trans k6
      have sh2 : Same (hide x H) H2 := fun u o e => by
        by_cases cx : u = x
        · subst cx; rw [hide_at] at e; cases e
        · rw [hide_ne _ cx] at e
          exact k2 _ _ cx (s1 _ _ e)
      have sh : Same (hide x H) H6 := fun u o e => by
        by_cases cx : u = x
        · subst cx; rw [hide_at] at e; cases e
        · rw [hide_ne _ cx] at e
          exact kk _ _ cx (s1 _ _ e)
      repeat walk_at "rd"
      exact q p t2 ta H6 sh ⟨⟨dx, b, x6⟩, sqT_keep kk (nt_ins x1) p1, tw6.lower sh2⟩
abbrev sScene_classes : Stmt := meth 71 1
abbrev nScene_classes : List Str := ["self"]
theorem scScene_classes : FnScope nScene_classes ["self"] (defScope sScene_classes) := ⟨rfl, rfl, rfl, by decide +kernel, rfl, by decide +kernel, by decide +kernel⟩
def spSClasses (K : PySem.W.Frag) (CS CT CB CK : Addr) : Sp := fun vs H Q _ => ∃ (H0 : Hp) (x p t : Addr) (a : TA) (ns : List Str) (s : Tt) (c : Nat), vs = [.ref x] ∧ ScAt K CS CT CB CK H0 H x p t a ns s c ∧ Q (.ref p) H
theorem ok_sclasses {CS CT CB CK : Addr} (K_Scene : SF K mg CS) {f : Addr} {fd : FuncData} (D : Ob.MethAt K "classes" "Scene.classes" sScene_classes ["self"] f fd) : FnG P w K mg base CX0 1 f fd ["self"] (spSClasses K CS CT CB CK) := by
  refine Ob.byG D scScene_classes (fun vs H Q E h => ?_) (fun cd A hg outer s H vs Q E hr h => ?_)
  · obtain ⟨_, _, _, _, _, _, _, _, rfl, _⟩ := h
    rfl
  · obtain ⟨H0, x, p, t, a, ns, st, c, rfl, sc, q⟩ := h
    obtain ⟨dx, b, hx⟩ := sc.ins
    refine ⟨_, (pss_one (ps_ret (pe_fld (pv 0) (by rfl)))), ?_⟩
    repeat walk_at "rd"
    exact Rd.fldV rfl hx K_Scene.cl K_Scene.n1 rfl q
abbrev sScene_table : Stmt := meth 71 3
abbrev nScene_table : List Str := ["self"]
theorem scScene_table : FnScope nScene_table ["self"] (defScope sScene_table) := ⟨rfl, rfl, rfl, by decide +kernel, rfl, by decide +kernel, by decide +kernel⟩
def spSTable (K : PySem.W.Frag) (CS CT CB CK : Addr) : Sp := fun vs H Q _ => ∃ (H0 : Hp) (x p t : Addr) (a : TA) (ns : List Str) (s : Tt) (c : Nat), vs = [.ref x] ∧ ScAt K CS CT CB CK H0 H x p t a ns s c ∧ s.ns.Nodup ∧ s.ns.length ≤ 8 ∧ NewTb K CT CB CK s c Q H
theorem ok_stable {CS C_Table CB CK : Addr} (K_Scene : SF K mg CS) (K_Table : TF K mg C_Table) (M_Table_twin : Ob.MCal P w K mg base CX0 C_Table 6 "twin" (spTTwin K C_Table CB CK)) {f : Addr} {fd : FuncData} (D : Ob.MethAt K "table" "Scene.table" sScene_table ["self"] f fd) : FnG P w K mg base CX0 7 f fd ["self"] (spSTable K CS C_Table CB CK) := by
  refine Ob.byG D scScene_table (fun vs H Q E h => ?_) (fun cd A hg outer s H vs Q E hr h => ?_)
  · obtain ⟨_, _, _, _, _, _, _, _, rfl, _⟩ := h
    rfl
  · obtain ⟨H0, x, p, t, a, ns, st, c, rfl, sc, nd, l8, q⟩ := h
    obtain ⟨dx, b, hx⟩ := sc.ins
    obtain ⟨dt, ht⟩ := sc.tb.ins
    refine ⟨_, (pss_one (ps_ret (Ob.meth0 (pe_fld (pv 0) (by rfl)) K_Table.cl M_Table_twin hg hr (by decide) pass0))), ?_⟩
    repeat walk_at "rd"
    refine Rd.fldV rfl hx K_Scene.cl K_Scene.n2 rfl ?_
    refine ⟨t, dt, _, rfl, ht, rfl, ?_⟩
    repeat walk_at "rd"
    exact ⟨H0, t, a, st, c, rfl, sc.tb, nd, l8, q⟩
end
end Ab
namespace Ab
open M6 PySem.Spec PyProof.Rows
local macro_rules | `(tactic| walk_at "rd") => `(tactic| (with_reducible first | refine Rd.tt_ ?_ | refine Rd.ff_ ?_ | refine Rd.sfld ?_ | refine Rd.dget ?_ | refine Rd.methR ?_ | refine Rd.propR ?_ | refine Rd.statR ?_ | refine Rd.getR ?_))
/-! ### entries for the spread -/
def opers : List Int := [0, 1, 2]
theorem inV_int (i : Int) (l : List Int) : inV (.int i) (l.map V.int) = decide (i ∈ l) := by
  induction l with
  | nil => rfl
  | cons a l ih =>
    show (eqV (.int a) (.int i) || inV (.int i) (l.map V.int)) = _
    rw [ih]
    show ((a == i) || _) = _
    by_cases e : a = i
    · subst e; simp
    · have e' : ¬ i = a := fun z => e z.symm
      simp [e, e']
def isOp : V → Bool
  | .int i => decide (i ∈ opers)
  | _ => false
/-- an entry of the list: what stands in it where it is one, none where it is none -/
structure WrongAt (K : PySem.W.Frag) (H : Hp) (x : V) : Prop where
  go : (∃ tn, TyX K H x (.type tn) ∧ kitB tn "tuple" = some false) ∨ (∃ p xs, x = .ref p ∧ SqT K H p xs ∧ xs.length ≤ 1000 ∧ xs.length ≠ 3) ∨
    ∃ p a b c ta tb tc, x = .ref p ∧ SqT K H p [a, b, c] ∧ Kd K H a ta ∧ Kd K H b tb ∧ Kd K H c tc ∧ (isOp a && (isIn b methods && isIn c entW)) = false
def SpAt (K : PySem.W.Frag) (H : Hp) : Option (Nat × Str × Str) → V → Prop
  | none, x => ∀ H', Same H H' → WrongAt K H' x
  | some (i, m, e), x => ∃ p, x = .ref p ∧ SqT K H p [.int (i : Nat), .str m, .str e] ∧ i < 3 ∧ m ∈ methods ∧ e ∈ entW
theorem SpAt.mono {K : PySem.W.Frag} {H H' : Hp} {o : Option (Nat × Str × Str)} {x : V} (s : Same H H') (h : SpAt K H o x) : SpAt K H' o x := by
  cases o with
  | none => exact fun H2 s2 => h H2 (s.trans s2)
  | some z =>
    obtain ⟨p, e, h1, h2⟩ := h
    exact ⟨p, e, sqT_same s h1, h2⟩
theorem op_lt3 : ∀ i : Nat, i < 3 → isOp (.int (i : Nat)) = true := by
  intro i h
  have : i = 0 ∨ i = 1 ∨ i = 2 := by omega
  rcases this with rfl | rfl | rfl <;> decide
section
variable {P : Program} {w : World} {K : PySem.W.Frag} {mg : Str → Option Value} {base : Heap}
abbrev sIs_operand : Stmt := top 70
abbrev nIs_operand : List Str := ["value"]
theorem scIs_operand : FnScope nIs_operand ["value"] (defScope sIs_operand) := ⟨rfl, rfl, rfl, by decide +kernel, rfl, by decide +kernel, by decide +kernel⟩
def spOper (K : PySem.W.Frag) : Sp := fun vs H Q _ => ∃ (v : V) (tn : String), vs = [v] ∧ Kd K H v tn ∧ Q (.bl (isOp v)) H
theorem ok_oper (T : Txt K mg) {p_OPERANDS : Addr} (g_OPERANDS : mg "OPERANDS" = some (.ref p_OPERANDS)) (tO : ∀ H, SqT K H p_OPERANDS (opers.map V.int)) (D : DefAt K mg "is_operand" sIs_operand ["value"]) (CIs_number : CalG P w K mg base 1 "is_number" (spNum K)) : CalG P w K mg base 2 "is_operand" (spOper K) := by
  refine D.by scIs_operand (fun vs H Q E h => ?_) (fun f cd A hg outer s H vs Q E hr h => ?_)
  · obtain ⟨_, _, rfl, _⟩ := h
    rfl
  · obtain ⟨v, tn, rfl, kd, q⟩ := h
    refine ⟨_, (pss_one (ps_ret (pe_and (pe_cG CIs_number hg hr (by decide) (pa_cons (pv 0) pa_nil)) (pe_one (pe_cmpR (r := rIn K false) op_in_seq (pv 0) (pe_glob (v := .ref p_OPERANDS) (by rfl) g_OPERANDS rfl) (by rfl)))))), ?_⟩
    repeat walk_at "rd"
    refine ⟨v, tn, rfl, kd, ?_⟩
    refine ⟨_, rfl, ?_⟩
    refine Rd.bool (fun c => ?_) (fun c => ?_)
    · obtain ⟨i, rfl⟩ : ∃ i, v = .int i := by cases v <;> first | exact ⟨_, rfl⟩ | cases c
      repeat walk_at "rd"
      refine inT (tO _) rfl (by decide) ?_
      have e : (if (false : Bool) = true then !inV (.int i) (opers.map V.int) else inV (.int i) (opers.map V.int)) = isOp (.int i) := by
        rw [if_neg Bool.false_ne_true]
        show _ = decide (i ∈ opers)
        exact inV_int i opers
      rw [e]
      exact q
    · have e : isOp v = false := by cases v <;> first | rfl | cases c
      rw [e] at q
      exact q
abbrev sIs_spread : Stmt := top 75
abbrev nIs_spread : List Str := ["value", "operand", "method", "entry"]
theorem scIs_spread : FnScope nIs_spread ["value"] (defScope sIs_spread) := ⟨rfl, rfl, rfl, by decide +kernel, rfl, by decide +kernel, by decide +kernel⟩
def spIsSpread (K : PySem.W.Frag) : Sp := fun vs H Q _ => ∃ (x : V) (o : Option (Nat × Str × Str)), vs = [x] ∧ SpAt K H o x ∧ Q (.bl o.isSome) H
theorem ok_isspread (T : Txt K mg) {p_METHODS p_ENTRY_WORDS : Addr} (g_METHODS : mg "METHODS" = some (.ref p_METHODS)) (tM : ∀ H, SqT K H p_METHODS (methods.map V.str)) (g_ENTRY_WORDS : mg "ENTRY_WORDS" = some (.ref p_ENTRY_WORDS)) (tE : ∀ H, SqT K H p_ENTRY_WORDS (entW.map V.str))
    (D : DefAt K mg "_is_spread" sIs_spread ["value"]) (CIs_operand : CalG P w K mg base 2 "is_operand" (spOper K)) (CIs_one_of : CalG P w K mg base 1 "is_one_of" (spOneOf K)) : CalG P w K mg base 3 "_is_spread" (spIsSpread K) := by
  refine D.by scIs_spread (fun vs H Q E h => ?_) (fun f cd A hg outer s H vs Q E hr h => ?_)
  · obtain ⟨_, _, rfl, _⟩ := h
    rfl
  · obtain ⟨x, o, rfl, sp, q⟩ := h
    have key : (∃ tn, TyX K H x (.type tn) ∧ kitB tn "tuple" = some false ∧ Q (.bl false) H) ∨ (∃ p xs, x = .ref p ∧ SqT K H p xs ∧ xs.length ≤ 1000 ∧ xs.length ≠ 3 ∧ Q (.bl false) H) ∨
        ∃ p a b c ta tb tc, x = .ref p ∧ SqT K H p [a, b, c] ∧ Kd K H a ta ∧ Kd K H b tb ∧ Kd K H c tc ∧ Q (.bl (isOp a && (isIn b methods && isIn c entW))) H := by
      cases o with
      | none =>
        rcases (sp H (Same.refl _)).go with ⟨tn, h1, h2⟩ | ⟨p, xs, h1, h2, h3, h4⟩ | ⟨p, a, b, c, ta, tb, tc, h1, h2, h3, h4, h5, h6⟩
        · exact .inl ⟨tn, h1, h2, q⟩
        · exact .inr (.inl ⟨p, xs, h1, h2, h3, h4, q⟩)
        · exact .inr (.inr ⟨p, a, b, c, ta, tb, tc, h1, h2, h3, h4, h5, by rw [h6]; exact q⟩)
      | some z =>
        obtain ⟨i, m, e⟩ := z
        obtain ⟨p, h1, h2, h3, h4, h5⟩ := (show ∃ p, x = .ref p ∧ SqT K H p [.int (i : Nat), .str m, .str e] ∧ i < 3 ∧ m ∈ methods ∧ e ∈ entW from sp)
        have q2 : Q (.bl (isOp (.int (i : Nat)) && (isIn (.str m) methods && isIn (.str e) entW))) H := by
          rw [op_lt3 i h3, isIn_of h4, isIn_of h5]
          exact q
        exact .inr (.inr ⟨p, .int (i : Nat), .str m, .str e, "int", "str", "str", h1, h2, kd_int _, kd_str _, kd_str _, q2⟩)
    rcases key with ⟨tn, ty, kt, q⟩ | ⟨p, xs, rfl, hp, hl, h3, q⟩ | ⟨p, a, b, c, ta, tb, tc, rfl, hp, ka, kb, kc, q⟩
    · refine ⟨_, (pss_cons (ps_if (PW.pt (pw_or (pt_not (pt_val (pe_callB (r := rIsi K) call_isi (by rfl) T.isinstance (by decide +kernel) (pa_cons (pv 0) (pa_cons (pe_bltn (v := .ty "tuple") (by rfl) T.tuple (by decide +kernel) rfl) pa_nil))))) (pw_or1 (pt_cmpR op_ne (pe_callB (r := Rd.rLenK K) Rd.callLen (by rfl) T.len PySem.boot_len (pa_cons (pv 0) pa_nil)) pe_int (nomark _)))))
  (pss_one (ps_ret pe_bl))
  pss_nil)
  (pss_cons (ps_asg (pv 0) (pg_tup (by rfl) (pgs_cons (pg_name (i := 1) scIs_spread.nd rfl (Or.inl rfl)) (pgs_cons (pg_name (i := 2) scIs_spread.nd rfl (Or.inl rfl)) (pgs_cons (pg_name (i := 3) scIs_spread.nd rfl (Or.inl rfl)) pgs_nil)))))
  (pss_one (ps_ret (pe_and (pe_cG CIs_operand hg hr (by decide) (pa_cons (pv 1) pa_nil)) (pe_and (pe_cG CIs_one_of hg hr (by decide) (pa_cons (pv 2) (pa_cons (pe_glob (v := .ref p_METHODS) (by rfl) g_METHODS rfl) pa_nil))) (pe_one (pe_cG CIs_one_of hg hr (by decide) (pa_cons (pv 3) (pa_cons (pe_glob (v := .ref p_ENTRY_WORDS) (by rfl) g_ENTRY_WORDS rfl) pa_nil)))))))))), ?_⟩
      repeat walk_at "rd"
      refine isi ty kt ?_
      repeat walk_at "rd"
      refine Rd.tt_ (Rd.tt_ ?_)
      repeat walk_at "rd"
      exact q
    · refine ⟨_, (pss_cons (ps_if (PW.pt (pw_or (pt_not (pt_val (pe_callB (r := rIsi K) call_isi (by rfl) T.isinstance (by decide +kernel) (pa_cons (pv 0) (pa_cons (pe_bltn (v := .ty "tuple") (by rfl) T.tuple (by decide +kernel) rfl) pa_nil))))) (pw_or1 (pt_cmpR op_ne (pe_callB (r := Rd.rLenK K) Rd.callLen (by rfl) T.len PySem.boot_len (pa_cons (pv 0) pa_nil)) pe_int (nomark _)))))
  (pss_one (ps_ret pe_bl))
  pss_nil)
  (pss_cons (ps_asg (pv 0) (pg_tup (by rfl) (pgs_cons (pg_name (i := 1) scIs_spread.nd rfl (Or.inl rfl)) (pgs_cons (pg_name (i := 2) scIs_spread.nd rfl (Or.inl rfl)) (pgs_cons (pg_name (i := 3) scIs_spread.nd rfl (Or.inl rfl)) pgs_nil)))))
  (pss_one (ps_ret (pe_and (pe_cG CIs_operand hg hr (by decide) (pa_cons (pv 1) pa_nil)) (pe_and (pe_cG CIs_one_of hg hr (by decide) (pa_cons (pv 2) (pa_cons (pe_glob (v := .ref p_METHODS) (by rfl) g_METHODS rfl) pa_nil))) (pe_one (pe_cG CIs_one_of hg hr (by decide) (pa_cons (pv 3) (pa_cons (pe_glob (v := .ref p_ENTRY_WORDS) (by rfl) g_ENTRY_WORDS rfl) pa_nil)))))))))), ?_⟩
      repeat walk_at "rd"
      refine isi (tup_ty hp) (by show kitB "tuple" "tuple" = some true; decide +kernel) ?_
      repeat walk_at "rd"
      refine Rd.ff_ ?_
      repeat walk_at "rd"
      refine Rd.lenT hp ?_
      repeat walk_at "rd"
      refine Rd.ndec (fun _ => ?_) (fun c => absurd (Int.ofNat.inj (V.int.inj c)) h3)
      repeat walk_at "rd"
      exact q
    · refine ⟨_, (pss_cons (ps_if (PW.pt (pw_or (pt_not (pt_val (pe_callB (r := rIsi K) call_isi (by rfl) T.isinstance (by decide +kernel) (pa_cons (pv 0) (pa_cons (pe_bltn (v := .ty "tuple") (by rfl) T.tuple (by decide +kernel) rfl) pa_nil))))) (pw_or1 (pt_cmpR op_ne (pe_callB (r := Rd.rLenK K) Rd.callLen (by rfl) T.len PySem.boot_len (pa_cons (pv 0) pa_nil)) pe_int (nomark _)))))
  (pss_one (ps_ret pe_bl))
  pss_nil)
  (pss_cons (ps_asg (pv 0) (pg_tup (by rfl) (pgs_cons (pg_name (i := 1) scIs_spread.nd rfl (Or.inl rfl)) (pgs_cons (pg_name (i := 2) scIs_spread.nd rfl (Or.inl rfl)) (pgs_cons (pg_name (i := 3) scIs_spread.nd rfl (Or.inl rfl)) pgs_nil)))))
  (pss_one (ps_ret (pe_and (pe_cG CIs_operand hg hr (by decide) (pa_cons (pv 1) pa_nil)) (pe_and (pe_cG CIs_one_of hg hr (by decide) (pa_cons (pv 2) (pa_cons (pe_glob (v := .ref p_METHODS) (by rfl) g_METHODS rfl) pa_nil))) (pe_one (pe_cG CIs_one_of hg hr (by decide) (pa_cons (pv 3) (pa_cons (pe_glob (v := .ref p_ENTRY_WORDS) (by rfl) g_ENTRY_WORDS rfl) pa_nil)))))))))), ?_⟩
      repeat walk_at "rd"
      refine isi (tup_ty hp) (by show kitB "tuple" "tuple" = some true; decide +kernel) ?_
      repeat walk_at "rd"
      refine Rd.ff_ ?_
      repeat walk_at "rd"
      refine Rd.lenT hp ?_
      repeat walk_at "rd"
      refine Rd.ndec (fun c => absurd rfl c) (fun _ => ?_)
      repeat walk_at "rd"
      refine ⟨p, _, rfl, hp, rfl, ?_⟩
      repeat walk_at "rd"
      refine ⟨a, ta, rfl, ka, _, rfl, ?_⟩
      refine Rd.bool (fun c1 => ?_) (fun c1 => ?_)
      · repeat walk_at "rd"
        refine ⟨b, p_METHODS, tb, methods, rfl, kb, tM _, _, rfl, ?_⟩
        refine Rd.bool (fun c2 => ?_) (fun c2 => ?_)
        · repeat walk_at "rd"
          refine ⟨c, p_ENTRY_WORDS, tc, entW, rfl, kc, tE _, ?_⟩
          rw [c1, c2, Bool.true_and, Bool.true_and] at q
          exact q
        · rw [c1, c2, Bool.true_and, Bool.false_and] at q
          exact q
      · rw [c1, Bool.false_and] at q
        exact q
abbrev sPlace_of : Stmt := top 74
abbrev nPlace_of : List Str := ["pair"]
theorem scPlace_of : FnScope nPlace_of ["pair"] (defScope sPlace_of) := ⟨rfl, rfl, rfl, by decide +kernel, rfl, by decide +kernel, by decide +kernel⟩
theorem idx_first {l : List Str} {m : Str} : ∀ {k : Nat}, k < l.idxOf m → l[k]? ≠ some m := by
  induction l with
  | nil => exact fun _ e => by simp at e
  | cons a l ih =>
    intro k hk e
    rw [List.idxOf_cons] at hk
    by_cases c : a = m
    · rw [show (a == m) = true by simp [c]] at hk
      exact absurd hk (by simp)
    · rw [show (a == m) = false by simp [c]] at hk
      cases k with
      | zero =>
        rw [List.getElem?_cons_zero] at e
        exact c (Option.some.inj e)
      | succ k =>
        rw [List.getElem?_cons_succ] at e
        exact ih (by simpa using hk) e
theorem idx_at {l : List Str} {m : Str} : m ∈ l → l[l.idxOf m]? = some m := by
  induction l with
  | nil => exact fun h => (nomatch h)
  | cons a l ih =>
    intro h
    rw [List.idxOf_cons]
    by_cases c : a = m
    · rw [show (a == m) = true by simp [c], c]
      rfl
    · rw [show (a == m) = false by simp [c]]
      rcases List.mem_cons.mp h with e | e
      · exact absurd e.symm c
      · exact ih e
def placeOf (z : Nat × Str × Str) : List Int := [(z.1 : Int), (methods.idxOf z.2.1 : Int)]
def spPlace (K : PySem.W.Frag) : Sp := fun vs H Q _ => ∃ (x : V) (z : Nat × Str × Str), vs = [x] ∧ SpAt K H (some z) x ∧ ∀ p, H p = none → Q (.ref p) (upd H p (.tup ((placeOf z).map V.int)))
theorem ok_place {p_METHODS : Addr} (T : Txt K mg) (lM : ∃ o, K.lookup p_METHODS = some o ∧ o.cls = .type "tuple" ∧ o.dict = none) (g_METHODS : mg "METHODS" = some (.ref p_METHODS)) (tM : ∀ H, SqT K H p_METHODS (methods.map V.str)) (D : DefAt K mg "_place_of" sPlace_of ["pair"]) : CalG P w K mg base 1 "_place_of" (spPlace K) := by
  refine D.by scPlace_of (fun vs H Q E h => ?_) (fun f cd A hg outer s H vs Q E hr h => ?_)
  · obtain ⟨_, _, rfl, _⟩ := h
    rfl
  · obtain ⟨x, ⟨i, m, e⟩, rfl, sp, q⟩ := h
    obtain ⟨p, rfl, hp, hi, hm, he⟩ := (show ∃ p, x = .ref p ∧ SqT K H p [.int (i : Nat), .str m, .str e] ∧ i < 3 ∧ m ∈ methods ∧ e ∈ entW from sp)
    refine ⟨_, (pss_one (ps_ret (pe_tup (pa_cons (pe_ix (r := rIxT K) ix_tup (pv 0) pe_int (fun _ _ => rfl)) (pa_cons (pe_bm PySem.F.plainAttrs_tuple PySem.F.slot_tuple_index PySem.F.type_tuple_index mt_tup_index (pe_glob (v := .ref p_METHODS) (by rfl) g_METHODS rfl) (pa_cons (pe_ix (r := rIxT K) ix_tup (pv 0) pe_int (fun _ _ => rfl)) pa_nil)) pa_nil))))), ?_⟩
    repeat walk_at "rd"
    refine Rd.ixT hp rfl ?_
    repeat walk_at "rd"
    refine ⟨.inr (.inl ⟨rfl, lM⟩), ?_⟩
    repeat walk_at "rd"
    refine Rd.ixT hp rfl ?_
    repeat walk_at "rd"
    have hlt := List.idxOf_lt_length_of_mem hm
    refine ⟨p_METHODS, methods, m, methods.idxOf m, rfl, rfl, tM _, idx_at hm, fun k hk e => idx_first hk e, ?_⟩
    refine ⟨Rd.sz (by simp), fun r hr2 => ?_⟩
    exact q r hr2
end
end Ab
namespace Ab
open M6 PySem.Spec PyProof.Rows
local macro_rules | `(tactic| walk_at "rd") => `(tactic| (with_reducible first | refine Rd.tt_ ?_ | refine Rd.ff_ ?_ | refine Rd.sfld ?_ | refine Rd.dget ?_ | refine Rd.methR ?_ | refine Rd.propR ?_ | refine Rd.statR ?_ | refine Rd.getR ?_))
/-! ### a list for the spread -/
theorem units_ {k : Nat} {A : Around} (r : Room k A) : A.units < cLine := by have := r.un; omega
abbrev Sp3 := Nat × Str × Str
def leP (a b : Sp3) : Bool := Ob.lexAt (fun j => decide ((placeOf a).getD j 0 = (placeOf b).getD j 0)) (fun j => decide ((placeOf a).getD j 0 ≤ (placeOf b).getD j 0)) (decide ((placeOf a).length ≤ (placeOf b).length)) 0 (min (placeOf a).length (placeOf b).length)
/-- some entry stands at a place not behind the one ahead of it -/
def unordered (zs : List Sp3) : Bool := ((zs.zip (zs.drop 1)).map fun p => leP p.2 p.1).any id
def SpsAt (K : PySem.W.Frag) (H : Hp) (os : List (Option Sp3)) (xs : List V) : Prop := Paired (fun o x => SpAt K H o x) os xs
theorem SpsAt.mono {K : PySem.W.Frag} {H H' : Hp} (s : Same H H') : ∀ {os : List (Option Sp3)} {xs : List V}, SpsAt K H os xs → SpsAt K H' os xs
  | _, _, .nil => .nil
  | _, _, .cons h t => .cons (h.mono s) (SpsAt.mono s t)
def PlAt (K : PySem.W.Frag) (z : Sp3) (y : V) (H : Hp) : Prop := ∃ p, y = .ref p ∧ SqT K H p ((placeOf z).map V.int)
theorem all_some {α : Type} : ∀ {os : List (Option α)}, os.all Option.isSome = true → ∃ zs : List α, os = zs.map some
  | [], _ => ⟨[], rfl⟩
  | o :: os, h => by
    rw [List.all_cons, Bool.and_eq_true] at h
    obtain ⟨zs, e⟩ := all_some h.2
    cases o with
    | none => cases h.1
    | some z => exact ⟨z :: zs, by rw [e]; rfl⟩
theorem pair_some {K : PySem.W.Frag} {H : Hp} : ∀ {zs : List Sp3} {xs : List V}, SpsAt K H (zs.map some) xs → Paired (fun z x => SpAt K H (some z) x) zs xs
  | [], _, .nil => .nil
  | _ :: _, _, .cons h t => .cons h (pair_some t)
theorem pair_nth {α β : Type} {F : α → β → Prop} : ∀ {as : List α} {bs : List β} {i : Nat} {b : β}, Paired F as bs → bs[i]? = some b → ∃ a, as[i]? = some a ∧ F a b
  | _, _, 0, _, .cons h _, e => by
    rw [List.getElem?_cons_zero] at e
    cases e
    exact ⟨_, rfl, h⟩
  | _, _, i + 1, _, .cons _ t, e => by
    rw [List.getElem?_cons_succ] at e
    obtain ⟨a, h1, h2⟩ := pair_nth t e
    exact ⟨a, by rw [List.getElem?_cons_succ]; exact h1, h2⟩
  | _, _, _, _, .nil, e => by simp at e
section
variable {P : Program} {w : World} {K : PySem.W.Frag} {mg : Str → Option Value} {base : Heap}
abbrev sCheck_spread : Stmt := top 76
abbrev nCheck_spread : List Str := ["entries", "entry", "places", "before", "place"]
theorem scCheck_spread : FnScope nCheck_spread ["entries"] (defScope sCheck_spread) := ⟨rfl, rfl, rfl, by decide +kernel, rfl, by decide +kernel, by decide +kernel⟩
def spChk (K : PySem.W.Frag) (CNE : Addr) : Sp := fun vs H Q E => (∃ (v : V) (tn : String), vs = [v] ∧ TyX K H v (.type tn) ∧ kitB tn "list" = some false ∧ OutB CNE "method" .non H E) ∨
  ∃ (p : Addr) (xs : List V) (os : List (Option Sp3)), vs = [.ref p] ∧ SqL K H p xs ∧ xs.length ≤ 200 ∧ SpsAt K H os xs ∧
    ((os.all Option.isSome = false ∧ OutB CNE "method" .non H E) ∨ ∃ zs : List Sp3, os = zs.map some ∧ ((unordered zs = true ∧ OutB CNE "method" .non H E) ∨ (unordered zs = false ∧ ∀ H', Same H H' → Q .non H')))
theorem ok_chk (T : Txt K mg) {C_NoEntry : Addr} (T_NoEntry : Ex.ErrC K mg "NoEntry" "method" C_NoEntry) (M_NoEntry : Ex.InitOk P w K mg base "method" C_NoEntry) (D : DefAt K mg "_check_spread" sCheck_spread ["entries"]) (CIs_spread : CalG P w K mg base 3 "_is_spread" (spIsSpread K)) (CPlace_of : CalG P w K mg base 1 "_place_of" (spPlace K)) : Ex.CalX P w K mg base 5 "_check_spread" (spChk K C_NoEntry) := by
  refine Ex.byX D scCheck_spread (fun vs H Q E h => ?_) (fun f cd A hg outer s H vs Q E hr h => ?_)
  · rcases h with ⟨_, _, rfl, _⟩ | ⟨_, _, _, rfl, _⟩ <;> rfl
  · rcases h with ⟨v, tn, rfl, ty, kt, q⟩ | ⟨p, xs, os, rfl, hp, hl, pr, q⟩
    · refine ⟨_, (pss_cons (ps_if (PW.pt (pw_or (pt_not (pt_val (pe_callB (r := rIsi K) call_isi (by rfl) T.isinstance (by decide +kernel) (pa_cons (pv 0) (pa_cons (pe_bltn (v := .ty "list") (by rfl) T.list (by decide +kernel) rfl) pa_nil))))) (pw_or1 (pt_not (pt_val (pe_callB (r := rAll K) (cr_all rfl) (by rfl) T.all (by decide +kernel) (pa_cons (pe_lc (wi := iList K _) (own := [("entry", 1)]) (g := gName 1) (by rfl) scCheck_spread.nd (pi_list (pv 0)) (blkOk_by (N := nCheck_spread) (sc := defScope sCheck_spread) (by decide +kernel)) (fun _ _ _ _ _ => pg_name (i := 1) scCheck_spread.nd rfl (Or.inl rfl)) (fun _ _ _ _ _ => pts_nil) (fun _ _ _ _ _ => (pe_cG CIs_spread hg hr (by decide) (pa_cons (pv 1) pa_nil)))) pa_nil)))))))
  (pss_one (ps_raise rfl (takes_of rfl rfl rfl rfl) (Ex.pmkE T_NoEntry M_NoEntry hr (by decide) (pa_cons pe_non pa_nil))))
  pss_nil)
  (pss_cons (ps_setLc (i := 2) (wi := iList K _) (own := [("entry", 1)]) (g := gName 1) (by rfl) scCheck_spread.nd rfl rfl (sw_true rfl rfl rfl (by decide +kernel)) (pi_list (pv 0)) (blkOk_by (N := nCheck_spread) (sc := defScope sCheck_spread) (by decide +kernel)) (fun _ _ _ _ _ => pg_name (i := 1) scCheck_spread.nd rfl (Or.inl rfl)) (fun _ _ _ _ _ => pts_nil) (fun _ _ _ _ _ => (pe_cG CPlace_of hg hr (by decide) (pa_cons (pv 1) pa_nil))))
  (pss_one (ps_if (pt_val (pe_callB (r := rAny K) (cr_any rfl) (by rfl) T.any (by decide +kernel) (pa_cons (pe_lc (wi := RZ.iZipA K _) (own := [("before", 3), ("place", 4)]) (g := gTup K 2 (gCons (gName 3) (gCons (gName 4) gNil))) (by rfl) scCheck_spread.nd (RZ.pi_zipA (by rfl) T.zip (pa_cons (pv 2) (pa_cons (pe_slice (r := rSlL K) sl_list (pv 2) (po_some pe_int) po_none) pa_nil))) (blkOk_by (N := nCheck_spread) (sc := defScope sCheck_spread) (by decide +kernel)) (fun _ _ _ _ _ => pg_tup (by rfl) (pgs_cons (pg_name (i := 3) scCheck_spread.nd rfl (Or.inl rfl)) (pgs_cons (pg_name (i := 4) scCheck_spread.nd rfl (Or.inl rfl)) pgs_nil))) (fun _ _ _ _ _ => pts_nil) (fun _ _ _ _ _ => (pe_cmpR (r := rLeT K) (op_leT (units_ hr)) (pv 4) (pv 3) (nomark _)))) pa_nil)))
  (pss_one (ps_raise rfl (takes_of rfl rfl rfl rfl) (Ex.pmkE T_NoEntry M_NoEntry hr (by decide) (pa_cons pe_non pa_nil))))
  pss_nil)))), ?_⟩
      repeat walk_at "rd"
      refine isi ty kt ?_
      repeat walk_at "rd"
      refine Rd.tt_ (Rd.tt_ (Ex.mk ?_))
      repeat walk_at "rd"
      exact Ex.made (q H (Same.refl _))
    · refine ⟨_, (pss_cons (ps_if (PW.pt (pw_or (pt_not (pt_val (pe_callB (r := rIsi K) call_isi (by rfl) T.isinstance (by decide +kernel) (pa_cons (pv 0) (pa_cons (pe_bltn (v := .ty "list") (by rfl) T.list (by decide +kernel) rfl) pa_nil))))) (pw_or1 (pt_not (pt_val (pe_callB (r := rAll K) (cr_all rfl) (by rfl) T.all (by decide +kernel) (pa_cons (pe_lc (wi := iList K _) (own := [("entry", 1)]) (g := gName 1) (by rfl) scCheck_spread.nd (pi_list (pv 0)) (blkOk_by (N := nCheck_spread) (sc := defScope sCheck_spread) (by decide +kernel)) (fun _ _ _ _ _ => pg_name (i := 1) scCheck_spread.nd rfl (Or.inl rfl)) (fun _ _ _ _ _ => pts_nil) (fun _ _ _ _ _ => (pe_cG CIs_spread hg hr (by decide) (pa_cons (pv 1) pa_nil)))) pa_nil)))))))
  (pss_one (ps_raise rfl (takes_of rfl rfl rfl rfl) (Ex.pmkE T_NoEntry M_NoEntry hr (by decide) (pa_cons pe_non pa_nil))))
  pss_nil)
  (pss_cons (ps_setLc (i := 2) (wi := iList K _) (own := [("entry", 1)]) (g := gName 1) (by rfl) scCheck_spread.nd rfl rfl (sw_true rfl rfl rfl (by decide +kernel)) (pi_list (pv 0)) (blkOk_by (N := nCheck_spread) (sc := defScope sCheck_spread) (by decide +kernel)) (fun _ _ _ _ _ => pg_name (i := 1) scCheck_spread.nd rfl (Or.inl rfl)) (fun _ _ _ _ _ => pts_nil) (fun _ _ _ _ _ => (pe_cG CPlace_of hg hr (by decide) (pa_cons (pv 1) pa_nil))))
  (pss_one (ps_if (pt_val (pe_callB (r := rAny K) (cr_any rfl) (by rfl) T.any (by decide +kernel) (pa_cons (pe_lc (wi := RZ.iZipA K _) (own := [("before", 3), ("place", 4)]) (g := gTup K 2 (gCons (gName 3) (gCons (gName 4) gNil))) (by rfl) scCheck_spread.nd (RZ.pi_zipA (by rfl) T.zip (pa_cons (pv 2) (pa_cons (pe_slice (r := rSlL K) sl_list (pv 2) (po_some pe_int) po_none) pa_nil))) (blkOk_by (N := nCheck_spread) (sc := defScope sCheck_spread) (by decide +kernel)) (fun _ _ _ _ _ => pg_tup (by rfl) (pgs_cons (pg_name (i := 3) scCheck_spread.nd rfl (Or.inl rfl)) (pgs_cons (pg_name (i := 4) scCheck_spread.nd rfl (Or.inl rfl)) pgs_nil))) (fun _ _ _ _ _ => pts_nil) (fun _ _ _ _ _ => (pe_cmpR (r := rLeT K) (op_leT (units_ hr)) (pv 4) (pv 3) (nomark _)))) pa_nil)))
  (pss_one (ps_raise rfl (takes_of rfl rfl rfl rfl) (Ex.pmkE T_NoEntry M_NoEntry hr (by decide) (pa_cons pe_non pa_nil))))
  pss_nil)))), ?_⟩
      repeat walk_at "rd"
      refine isi (lst_ty hp) (by show kitB "list" "list" = some true; decide +kernel) ?_
      repeat walk_at "rd"
      refine Rd.ff_ ?_
      repeat walk_at "rd"
      refine Rd.lcL (tl := tVar 0) (a := p) (xs := xs) (bs := os) (fun o x H' => SpAt K H' o x) (fun (b : Bool) y _ => y = .bl b) (fun _ => true) (fun o => o.isSome) (fun R k => Rd.var rfl k) hp (fun _ _ _ _ s h => h.mono s) (fun _ _ _ _ _ h => h) pr (by omega) (fun _ => rfl) ?_ ?_ ?_
      · intro b x H1 R _ _ _ _ k
        repeat walk_at "rd"
        exact k _ (Same.refl _)
      · rintro b x H1 R hm _ _ h1 s1 k
        repeat walk_at "rd"
        refine ⟨x, b, rfl, h1, ?_⟩
        exact k _ H1 (Same.refl _) (Rd.off_any rfl)
      · intro Dd ys H1 hD s1 hd pr2
        have e : ys = (os.map fun o => o.isSome).map V.bl := by
          rw [List.filter_eq_self.mpr (fun _ _ => rfl)] at pr2
          exact Rd.pair_map pr2
        rw [e] at hd
        repeat walk_at "rd"
        refine Rd.all_ (SqL.of hd) ?_
        repeat walk_at "rd"
        have ea : (os.map fun o => o.isSome).all id = os.all Option.isSome := by rw [List.all_map]; rfl
        rw [ea]
        rcases q with ⟨c, q⟩ | ⟨zs, rfl, q⟩
        · rw [c]
          refine Rd.tt_ (Ex.mk ?_)
          repeat walk_at "rd"
          exact Ex.made (q H1 s1)
        · have c : (zs.map some).all Option.isSome = true := by rw [List.all_map]; exact List.all_eq_true.mpr fun _ _ => rfl
          rw [c]
          refine Rd.ff_ ?_
          repeat walk_at "rd"
          refine Rd.lcL (tl := tVar 0) (a := p) (xs := xs) (bs := zs) (fun z x H' => SpAt K H' (some z) x) (PlAt K) (fun _ => true) id (fun R k => Rd.var rfl k) (s1.seq hp) (fun _ _ _ _ s h => h.mono s) (fun _ _ _ _ s ⟨r, e, h⟩ => ⟨r, e, sqT_same s h⟩) (pair_some (SpsAt.mono s1 pr)) (by omega) (fun _ => rfl) ?_ ?_ ?_
          · intro b x H2 R _ _ _ _ k
            repeat walk_at "rd"
            exact k _ (Same.refl _)
          · rintro b x H2 R hm _ _ h1 s2 k
            repeat walk_at "rd"
            refine ⟨x, b, rfl, h1, fun r hr2 => ?_⟩
            refine k _ _ (Rd.sNew hr2) fun D o hD hD1 => ⟨r, rfl, .inl (.inl ?_)⟩
            rw [upd_ne (fun e : r = D => hD1 (by rw [← e]; exact hr2))]
            exact upd_same
          · intro D2 ys2 H2 hD2 s2 hd2 pr3
            rw [List.filter_eq_self.mpr (fun _ _ => rfl), List.map_id] at pr3
            repeat walk_at "rd"
            refine zipD ?_
            repeat walk_at "rd"
            refine Rd.slL (SqL.of hd2) fun r hr3 => ?_
            rw [Sq.cut1]
            have s3 := Rd.sNew (o := .lst ys2.tail) hr3
            have r3 : upd H2 r (.lst ys2.tail) r = some (.lst ys2.tail) := upd_same
            have d3 := s3 _ _ hd2
            generalize upd H2 r (.lst ys2.tail) = H3 at s3 r3 d3 ⊢
            repeat walk_at "rd"
            have lz : zs.length = ys2.length := Rd.pair_len pr3
            have lx : zs.length = xs.length := Rd.pair_len (pair_some pr)
            refine ⟨D2, r, ys2, ys2.tail, rfl, .inl ⟨SqL.of d3, SqL.of r3, fun D3 hD3 => ?_⟩⟩
            refine lc_it (walk_zip (K := K) (a := D2) (b := r) (xs := ys2) (ys := ys2.tail) rfl) (fun n H4 => H4 D3 = some (.lst ((((zs.zip (zs.drop 1)).map fun p => leP p.2 p.1).take n).map V.bl)) ∧ Same H3 H4) ⟨upd_same, Rd.sNew hD3⟩ ?_ ?_ ?_
            · rintro n H4 _ ⟨_, s4⟩
              exact ⟨SqL.of (s4 _ _ d3), SqL.of (s4 _ _ r3)⟩
            · rintro n v H4 H5 hn ⟨h4, s4⟩ ⟨T, x, y, rfl, hT, rfl, ex, ey⟩
              have ex : ys2[n]? = some x := ex
              have ey : ys2[n + 1]? = some y := by rw [← List.getElem?_tail]; exact ey
              obtain ⟨zx, ezx, px, rfl, hpx⟩ := pair_nth pr3 ex
              obtain ⟨zy, ezy, py, rfl, hpy⟩ := pair_nth pr3 ey
              have s5 := Rd.sNew (o := .tup [V.ref px, V.ref py]) hT
              refine ⟨T, _, rfl, .inl (.inl upd_same), rfl, ⟨_, _, rfl, ⟨_, _, rfl, ⟨rfl, ?_⟩⟩⟩⟩
              refine ⟨rfl, Rd.yes (Rd.tt_ ?_)⟩
              have sa := (s3.trans s4).trans s5
              have tD : T ≠ D3 := fun e => by rw [e, h4] at hT; cases hT
              repeat walk_at "rd"
              refine ⟨py, px, placeOf zy, placeOf zx, rfl, rfl, sqT_same sa hpy, sqT_same sa hpx, ?_⟩
              have ez : ((zs.zip (zs.drop 1)).map fun p => leP p.2 p.1)[n]? = some (leP zy zx) := by
                have e1 : (zs.drop 1)[n]? = some zy := by rw [List.getElem?_drop, Nat.add_comm]; exact ezy
                rw [List.getElem?_map, (List.getElem?_zip_eq_some (z := (zx, zy))).mpr ⟨ezx, e1⟩]
                rfl
              refine ⟨_, by rw [upd_ne (Ne.symm tD)]; exact h4, Rd.szl (by rw [List.length_map, List.length_take]; omega), ?_, ?_⟩
              · rw [upd_same, List.take_add_one, ez, List.map_append]
                rfl
              · exact Rd.sMut (s4.trans s5) hD3
            · rintro H4 ⟨h4, s4⟩
              have e4 : ((zs.zip (zs.drop 1)).map fun p => leP p.2 p.1).take (min ys2.length ys2.tail.length) = (zs.zip (zs.drop 1)).map fun p => leP p.2 p.1 := by
                refine List.take_of_length_le ?_
                rw [List.length_map, List.length_zip, List.length_drop, List.length_tail, lz]
                omega
              rw [e4] at h4
              have sf : Same H H4 := ((s1.trans s2).trans s3).trans s4
              repeat walk_at "rd"
              refine Rd.any_ (SqL.of h4) ?_
              repeat walk_at "rd"
              have eu : ((zs.zip (zs.drop 1)).map fun p => leP p.2 p.1).any id = unordered zs := rfl
              rw [eu]
              rcases q with ⟨c, q⟩ | ⟨c, q⟩
              · rw [c]
                refine Rd.tt_ (Ex.mk ?_)
                repeat walk_at "rd"
                exact Ex.made (q H4 sf)
              · rw [c]
                refine Rd.ff_ ?_
                repeat walk_at "rd"
                exact q H4 sf
end
end Ab
namespace Ob
open PySem.Spec PyProof.Rows
section
variable {X : Cx} {CX : CXT} {k j : Nat} {C : Addr} {sp : Sp} {E : XK} {x : Str} {e : Expr} {es : List Expr} {p pos : Pos} {t : TA}
/-- C(a, *b) -/
theorem makeSt (M : MkCal X.prog X.w X.K X.mg X.base CX C k x sp) (gd : X.A.guards = some []) (hr : Room j X.A) (hk : k + 1 ≤ j) (hx : Passes CX X E) (ha : PA X (e :: es) t) (hg : Gl X x := by rfl)
    (hdb : (x == ("__debug__" : Str)) = false := by decide) (he : starEach (e :: es) X.env = (false, eval e X.env) :: starEach es X.env := by rfl) (hpl : (backTo pos (starEach es X.env)).any (·.1) = true := by rfl) :
    PE X (.Call (.Name x p) (e :: es) [] pos) (tMake C sp [] E t) := by
  obtain ⟨f, fd, ps, F, M, hb, hm⟩ := M
  refine ⟨fun pins s σ H Q I h => wpAny_Call_Name_kw (ld_glob I hg hm ?_ hdb)⟩
  exact PySem.W.callWith_S2 (h₀ := X.base) I.ok.mod.kin M.kp (thn (ha.run pos pins s σ H _ I h) fun us s1 ⟨vs, H1, I1, r, q⟩ => ⟨I1.kIn, runMk M F gd (hr.mono hk) hb hx I1 r q⟩) he hpl
end
end Ob
namespace Ab
open M6 PySem.Spec PyProof.Rows
local macro_rules | `(tactic| walk_at "rd") => `(tactic| (with_reducible first | refine Rd.tt_ ?_ | refine Rd.ff_ ?_ | refine Rd.sfld ?_ | refine Rd.dget ?_ | refine Rd.methR ?_ | refine Rd.propR ?_ | refine Rd.statR ?_ | refine Rd.getR ?_))
/-! ### the three classes laid -/
def names3 : List Str := ["left", "right", "item"]
def addAll (l : List Str) (s : Tt) : Tt := l.foldl (fun s x => s.add x [] [x]) s
theorem addAll_snoc (l : List Str) (x : Str) (s : Tt) : addAll (l ++ [x]) s = (addAll l s).add x [] [x] := by
  unfold addAll
  rw [List.foldl_append]
  rfl
structure Plain (s : Tt) (m : Str → List Str) (fl : Str → Bool) (l : List Str) : Prop where
  ns : s.ns = l
  bs : ∀ n, s.bs n = []
  en : s.en = fun _ _ => none
  m : s.m = m
  fl : s.fl = fl
theorem plain_add {m : Str → List Str} {fl : Str → Bool} {s : Tt} {l : List Str} (h : Plain s m fl l) (x : Str) : Plain (s.add x [] [x]) m fl (l ++ [x]) where
  ns := by show s.ns ++ [x] = _; rw [h.ns]
  bs := fun n => by
    show fset s.bs x [] n = []
    unfold fset
    split
    · rfl
    · exact h.bs n
  en := by
    show fset s.en x (fun _ => none) = _
    rw [h.en]
    funext y z
    unfold fset
    split <;> rfl
  m := h.m
  fl := h.fl
theorem plain_all (m : Str → List Str) (fl : Str → Bool) (l : List Str) : Plain (addAll l (tt0 m fl)) m fl l := by
  have h0 : ∀ (l l0 : List Str) (s : Tt), Plain s m fl l0 → Plain (addAll l s) m fl (l0 ++ l) := by
    intro l
    induction l with
    | nil => intro l0 s h; rw [List.append_nil]; exact h
    | cons x l ih =>
      intro l0 s h
      have := ih (l0 ++ [x]) _ (plain_add h x)
      rw [List.append_assoc] at this
      exact this
  exact h0 l [] _ ⟨rfl, fun _ => rfl, rfl, rfl, rfl⟩
/-- table.add(name), of no bases -/
theorem add0 {K : PySem.W.Frag} {CT CB CK : Addr} {H0 H : Hp} {t : Addr} {ta : TA} {s : Tt} {x : Str} {Q : VK} {m : Str → List Str} {fl : Str → Bool} {l : List Str} (tb : TbAt K CT CB CK H0 H t ta s 0) (s0 : Same H0 H) (pl : Plain s m fl l) (wo : wordOk x = true) (nx : x ∉ l) (l8 : l.length < 8)
    (q : ∀ ta' H', Same H0 H' → TbAt K CT CB CK H0 H' t ta' (s.add x [] [x]) 0 → Q .non H') : Sm.spStar 2 (spAdd K CT CB CK) [.ref t, .str x] H Q E0 := by
  refine ⟨[.ref t, .str x], [], rfl, rfl, Nat.zero_le _, fun p hp => ?_⟩
  have sp := Rd.sNew (o := .tup []) hp
  refine ⟨H0, t, ta, s, 0, x, p, [], [x], fun _ => 0, rfl, tb.mono sp, s0.trans sp, .inl (.inl upd_same), wo, by rw [pl.ns]; exact nx, by rw [pl.ns]; exact l8, fun _ h => (nomatch h), ⟨?_, ?_, ?_⟩, Nat.zero_lt_succ _, ?_, fun n _ => by rw [pl.en], q⟩
  all_goals
    have e : ∀ n, fset s.bs x [] n = [] := fun n => by
      unfold fset
      split
      · rfl
      · exact pl.bs n
  · intro n _ b hb
    rw [e n] at hb
    cases hb
  · intro n _ b hb
    rw [e n] at hb
    cases hb
  · intro n _
    rw [e n]
    exact Nat.zero_le _
  · show (match listO (ordF (fset s.bs x []) 8) (fset s.bs x [] x) with
      | none => none
      | some rows => match mrg (rows ++ [fset s.bs x [] x]) with
        | none => none
        | some l => some (x :: l)) = _
    rw [e x]
    rfl
/-- Scene(table, a, b, c) -/
theorem mkSc {K : PySem.W.Frag} {CS CT CB CK : Addr} {H0 H : Hp} {t : Addr} {a : TA} {s : Tt} {c : Nat} {n0 n1 n2 : Str} {Q : Addr → Hp → Prop} {E : XK} (tb : TbAt K CT CB CK H0 H t a s c) (nd : s.ns.Nodup) (l8 : s.ns.length ≤ 8) (m0 : n0 ∈ s.ns) (m1 : n1 ∈ s.ns) (m2 : n2 ∈ s.ns)
    (q : ∀ x p t2 ta H', Same H H' → ScAt K CS CT CB CK H H' x p t2 ta [n0, n1, n2] s c → Q x H') :
    ∀ x dx, H x = none → H dx = none → dx ≠ x → spSInit K CS CT CB CK (.ref x :: ([V.ref t, .str n0, .str n1, .str n2] ++ [])) (upd (upd H dx (.own x)) x (.ins CS dx [])) (fun v H2 => v = .non ∧ Q x H2) E := by
  refine fun x dx hx hdx nd2 => ⟨H0, x, dx, t, a, s, c, n0, n1, n2, rfl, upd_same, ?_, nd, l8, m0, m1, m2, fun p t2 ta H2 s2 sc => ⟨rfl, ?_⟩⟩
  · refine tb.mono fun z u e => ?_
    rw [upd_ne (ne_of_none e hx), upd_ne (ne_of_none e hdx)]
    exact e
  · have sH : Same H (hide x (upd (upd H dx (.own x)) x (.ins CS dx []))) := fun z u e => by
      rw [hide_ne _ (ne_of_none e hx), upd_ne (ne_of_none e hx), upd_ne (ne_of_none e hdx)]
      exact e
    exact q x p t2 ta H2 (sH.trans s2) ⟨sc.ins, sc.nm, sc.tb.lower sH⟩
theorem forLi {K : PySem.W.Frag} {tl : TE} {g : TG} {tb : TS} {D : Ends} {σ : L2.St} {H : Hp} (k : tl σ H fun x H1 => tFor (iList K (tC x)) g tb D σ H1) : tFor (iList K tl) g tb D σ H := k
theorem names3_nd : names3.Nodup := by decide
theorem names3_ok : ∀ x ∈ names3, wordOk x = true := by decide +kernel
def clsAt (i : Nat) : Str := names3.getD i "left"
def putZ (s : Tt) (z : Sp3) : Tt := s.put (clsAt z.1) z.2.1 (some (.w z.2.2))
def laid (zs : List Sp3) (m : Str → List Str) (fl : Str → Bool) : Tt := zs.foldl putZ (addAll names3 (tt0 m fl))
theorem laid_ns (zs : List Sp3) (s : Tt) : (zs.foldl putZ s).ns = s.ns := by
  induction zs generalizing s with
  | nil => rfl
  | cons z zs ih => exact ih (putZ s z)
theorem laid_snoc (zs : List Sp3) (z : Sp3) (m : Str → List Str) (fl : Str → Bool) : laid (zs ++ [z]) m fl = putZ (laid zs m fl) z := by
  unfold laid
  rw [List.foldl_append]
  rfl
theorem laid_names (zs : List Sp3) (m : Str → List Str) (fl : Str → Bool) : (laid zs m fl).ns = names3 := by
  unfold laid
  rw [laid_ns]
  exact (plain_all m fl names3).ns
theorem cls_in : ∀ i : Nat, i < 3 → clsAt i ∈ names3 ∧ atI (names3.map V.str) (i : Int) = some (.str (clsAt i)) := by
  intro i h
  have : i = 0 ∨ i = 1 ∨ i = 2 := by omega
  rcases this with rfl | rfl | rfl <;> exact ⟨by decide, rfl⟩
section
variable {P : Program} {w : World} {K : PySem.W.Frag} {mg : Str → Option Value} {base : Heap}
abbrev sSpread : Stmt := top 77
abbrev nSpread : List Str := ["entries", "book", "table", "name", "operand", "method", "entry"]
theorem scSpread : FnScope nSpread ["entries", "book"] (defScope sSpread) := ⟨rfl, rfl, rfl, by decide +kernel, rfl, by decide +kernel, by decide +kernel⟩
def NewSc (K : PySem.W.Frag) (CS CT CB CK : Addr) (s : Tt) (c : Nat) (Q : VK) (H : Hp) : Prop := ∀ x p t ta H', Same H H' → ScAt K CS CT CB CK H H' x p t ta names3 s c → Q (.ref x) H'
def spSpread (K : PySem.W.Frag) (CS CT CB CK CNE CNB : Addr) : Sp := fun vs H Q E => (∃ (v y : V) (tn : String), vs = [v, y] ∧ TyX K H v (.type tn) ∧ kitB tn "list" = some false ∧ OutB CNE "method" .non H E) ∨
  ∃ (p : Addr) (y : V) (xs : List V) (os : List (Option Sp3)), vs = [.ref p, y] ∧ SqL K H p xs ∧ xs.length ≤ 200 ∧ SpsAt K H os xs ∧
    ((os.all Option.isSome = false ∧ OutB CNE "method" .non H E) ∨ ∃ zs : List Sp3, os = zs.map some ∧ ((unordered zs = true ∧ OutB CNE "method" .non H E) ∨ (unordered zs = false ∧
      ((∃ ty, (∀ H', Same H H' → TyX K H' y ty) ∧ PySem.W.kitOne K ty (.ref CK) = some false ∧ OutB CNB "value" y H E) ∨ ∃ (b w f : Addr) (g : Str → Addr) (m : Str → List Str) (fl : Str → Bool), y = .ref b ∧ Bk K CK H b w f g m fl ∧ NewSc K CS CT CB CK (laid zs m fl) zs.length Q H))))
theorem ok_spread (T : Txt K mg) {CS C_Table CB C_Book C_NoEntry C_NoBook p_SPREAD_CLASSES : Addr} (g_SPREAD_CLASSES : mg "SPREAD_CLASSES" = some (.ref p_SPREAD_CLASSES)) (tS : ∀ H, SqT K H p_SPREAD_CLASSES (names3.map V.str)) (K_Table : TF K mg C_Table) (CCheck_spread : Ex.CalX P w K mg base 5 "_check_spread" (spChk K C_NoEntry))
    (I_Table : Ob.MkCal P w K mg base (L2.CX P w) C_Table 4 "Table" (spTInit K C_Table CB C_Book C_NoBook)) (M_Table_add : Sm.MCalS P w K mg base CX0 C_Table 13 "add" (Sm.spStar 2 (spAdd K C_Table CB C_Book))) (U_Table : Ob.GetCal P w K mg base CX0 C_Table 4 "__setitem__" (spTSet K C_Table CB C_Book)) (I_Scene : Ob.MkCal P w K mg base CX0 CS 7 "Scene" (spSInit K CS C_Table CB C_Book))
    (D : DefAt K mg "spread" sSpread ["entries", "book"]) : Ex.CalX P w K mg base 16 "spread" (spSpread K CS C_Table CB C_Book C_NoEntry C_NoBook) := by
  refine Ex.byX D scSpread (fun vs H Q E h => ?_) (fun f cd A hg outer s H vs Q E hr h => ?_)
  · rcases h with ⟨_, _, _, rfl, _⟩ | ⟨_, _, _, _, rfl, _⟩ <;> rfl
  · rcases h with ⟨v, y, tn, rfl, ty, kt, q⟩ | ⟨p, y, xs, os, rfl, hp, hl, pr, q⟩
    · refine ⟨_, (pss_cons (ps_expr (Ex.pe_x CCheck_spread hg hr (by decide) (takes_of rfl rfl rfl rfl) (pa_cons (pv 0) pa_nil)))
  (pss_cons (ps_set (i := 2) scSpread.nd rfl (Or.inl rfl) (Ob.make I_Table hg hr (by decide) (Ob.pxE (takes_of rfl rfl rfl rfl)) (pa_cons (pv 1) pa_nil)))
  (pss_cons (ps_for (wi := iTup K _) PassesOwn.leaving rfl (pi_tup (pe_glob (v := .ref p_SPREAD_CLASSES) (by rfl) g_SPREAD_CLASSES rfl)) (pg_name (i := 3) scSpread.nd rfl (Or.inl rfl))
  (pss_one (ps_expr (Sm.methS (pv 2) K_Table.cl M_Table_add hg hr (by decide) pass0 (pa_cons (pv 3) pa_nil)))))
  (pss_cons (ps_for (wi := iList K _) PassesOwn.leaving rfl (pi_list (pv 0)) (pg_tup (by rfl) (pgs_cons (pg_name (i := 4) scSpread.nd rfl (Or.inl rfl)) (pgs_cons (pg_name (i := 5) scSpread.nd rfl (Or.inl rfl)) (pgs_cons (pg_name (i := 6) scSpread.nd rfl (Or.inl rfl)) pgs_nil))))
  (pss_one (ps_asg (pv 6) (pg_sub (pv 2) (pe_tup (pa_cons (pe_ix (r := rIxT K) ix_tup (pe_glob (v := .ref p_SPREAD_CLASSES) (by rfl) g_SPREAD_CLASSES rfl) (pv 4) (fun _ _ => rfl)) (pa_cons (pv 5) pa_nil))) (Ob.setO U_Table hg hr (by decide) pass0)))))
  (pss_one (ps_ret (Ob.makeSt I_Scene hg hr (by decide) pass0 (pa_cons (pv 2) (StX.pa_star (pe_glob (v := .ref p_SPREAD_CLASSES) (by rfl) g_SPREAD_CLASSES rfl) pa_nil))))))))), ?_⟩
      repeat walk_at "rd"
      exact .inl ⟨v, tn, rfl, ty, kt, q⟩
    · refine ⟨_, (pss_cons (ps_expr (Ex.pe_x CCheck_spread hg hr (by decide) (takes_of rfl rfl rfl rfl) (pa_cons (pv 0) pa_nil)))
  (pss_cons (ps_set (i := 2) scSpread.nd rfl (Or.inl rfl) (Ob.make I_Table hg hr (by decide) (Ob.pxE (takes_of rfl rfl rfl rfl)) (pa_cons (pv 1) pa_nil)))
  (pss_cons (ps_for (wi := iTup K _) PassesOwn.leaving rfl (pi_tup (pe_glob (v := .ref p_SPREAD_CLASSES) (by rfl) g_SPREAD_CLASSES rfl)) (pg_name (i := 3) scSpread.nd rfl (Or.inl rfl))
  (pss_one (ps_expr (Sm.methS (pv 2) K_Table.cl M_Table_add hg hr (by decide) pass0 (pa_cons (pv 3) pa_nil)))))
  (pss_cons (ps_for (wi := iList K _) PassesOwn.leaving rfl (pi_list (pv 0)) (pg_tup (by rfl) (pgs_cons (pg_name (i := 4) scSpread.nd rfl (Or.inl rfl)) (pgs_cons (pg_name (i := 5) scSpread.nd rfl (Or.inl rfl)) (pgs_cons (pg_name (i := 6) scSpread.nd rfl (Or.inl rfl)) pgs_nil))))
  (pss_one (ps_asg (pv 6) (pg_sub (pv 2) (pe_tup (pa_cons (pe_ix (r := rIxT K) ix_tup (pe_glob (v := .ref p_SPREAD_CLASSES) (by rfl) g_SPREAD_CLASSES rfl) (pv 4) (fun _ _ => rfl)) (pa_cons (pv 5) pa_nil))) (Ob.setO U_Table hg hr (by decide) pass0)))))
  (pss_one (ps_ret (Ob.makeSt I_Scene hg hr (by decide) pass0 (pa_cons (pv 2) (StX.pa_star (pe_glob (v := .ref p_SPREAD_CLASSES) (by rfl) g_SPREAD_CLASSES rfl) pa_nil))))))))), ?_⟩
      repeat walk_at "rd"
      refine .inr ⟨p, xs, os, rfl, hp, hl, pr, ?_⟩
      rcases q with ⟨c, q⟩ | ⟨zs, rfl, q⟩
      · exact .inl ⟨c, q⟩
      refine .inr ⟨zs, rfl, ?_⟩
      rcases q with ⟨c, q⟩ | ⟨c, q⟩
      · exact .inl ⟨c, q⟩
      refine .inr ⟨c, fun H1 s1 => ?_⟩
      repeat walk_at "rd"
      refine Rd.makeR ?_
      repeat walk_at "rd"
      rcases q with ⟨ty, hty, kt, q⟩ | ⟨b, w0, f0, g, m, fl, rfl, bk, q⟩
      · have s3 : ∀ {x dx : Addr} {o1 o2 : HO}, H1 x = none → H1 dx = none → Same H (upd (upd H1 dx o1) x o2) := fun hx hdx z u e => by
          have e1 := s1 _ _ e
          rw [upd_ne (ne_of_none e1 hx), upd_ne (ne_of_none e1 hdx)]
          exact e1
        exact fun x dx hx hdx nd => .inl ⟨x, y, ty, rfl, hty _ (s3 hx hdx), kt, q.at (s3 hx hdx)⟩
      · refine mkTb (CNB := C_NoBook) (bk.mono s1) fun t ta H2 s2 tb => ?_
        repeat walk_at "rd"
        refine ⟨p_SPREAD_CLASSES, rfl, ⟨_, tS _⟩, ?_⟩
        refine for_tup (K := K) (a := p_SPREAD_CLASSES) (xs := names3.map V.str) (fun i σ H' => ∃ (v3 : Option V) (ta' : TA), σ = [some (.ref p), some (.ref b), some (.ref t), v3, none, none, none] ∧ Same H1 H' ∧ TbAt K C_Table CB C_Book H1 H' t ta' (addAll (names3.take i) (tt0 m fl)) 0) ⟨none, ta, rfl, s2, tb⟩ (fun _ _ _ _ _ => tS _) ?_ ?_
        · rintro i v σ H3 hv ⟨v3, ta', rfl, s3, tb3⟩
          obtain ⟨hi, e⟩ := List.getElem?_eq_some_iff.mp hv
          rw [List.length_map] at hi
          rw [List.getElem_map] at e
          subst e
          obtain ⟨dx, ht⟩ := tb3.ins
          have et : names3.take (i + 1) = names3.take i ++ [names3[i]] := by rw [List.take_add_one, List.getElem?_eq_getElem hi]; rfl
          have nx : names3[i] ∉ names3.take i := fun mm => by
            obtain ⟨k, hk, e⟩ := List.mem_iff_getElem.mp mm
            rw [List.getElem_take] at e
            rw [List.length_take] at hk
            have := (List.getElem_inj names3_nd).mp e
            omega
          repeat walk_at "rd"
          refine ⟨t, dx, _, rfl, ht, rfl, ?_⟩
          repeat walk_at "rd"
          refine add0 tb3 s3 (plain_all m fl (names3.take i)) (names3_ok _ (List.getElem_mem hi)) nx (by rw [List.length_take]; exact Nat.lt_of_le_of_lt (Nat.min_le_right _ _) (by decide)) fun ta4 H4 s4 tb4 => ?_
          exact ⟨_, ta4, rfl, s4, by rw [et, addAll_snoc]; exact tb4⟩
        · rintro σ H3 ⟨v3, ta', rfl, s3, tb3⟩
          have e3 : addAll (names3.take (names3.map V.str).length) (tt0 m fl) = laid [] m fl := by rw [List.length_map, List.take_length]; rfl
          rw [e3] at tb3
          have prs := pair_some pr
          have lz : zs.length = xs.length := Rd.pair_len prs
          repeat walk_at "rd"
          refine forLi ?_
          repeat walk_at "rd"
          refine ⟨p, rfl, ⟨_, (s1.trans s3).seq hp⟩, ?_⟩
          refine for_list (K := K) (a := p) (xs := xs) (fun i σ H' => ∃ (v3 v4 v5 v6 : Option V) (ta' : TA), σ = [some (.ref p), some (.ref b), some (.ref t), v3, v4, v5, v6] ∧ Same H1 H' ∧ TbAt K C_Table CB C_Book H1 H' t ta' (laid (zs.take i) m fl) i) ⟨v3, none, none, none, ta', rfl, s3, tb3⟩ (fun i σ H' _ ⟨_, _, _, _, _, _, s, _⟩ => (s1.trans s).seq hp) ?_ ?_
          · rintro i v σ H4 hv ⟨v3, v4, v5, v6, ta', rfl, s4, tb4⟩
            obtain ⟨⟨ci, mm, ee⟩, hz, pp, rfl, hpp, hci, hmm, hee⟩ : ∃ z : Sp3, zs[i]? = some z ∧ ∃ pp, v = .ref pp ∧ SqT K H pp [.int (z.1 : Nat), .str z.2.1, .str z.2.2] ∧ z.1 < 3 ∧ z.2.1 ∈ methods ∧ z.2.2 ∈ entW := by
              obtain ⟨z, h1, h2⟩ := pair_nth prs hv
              exact ⟨z, h1, h2⟩
            have hi : i < xs.length := (List.getElem?_eq_some_iff.mp hv).1
            obtain ⟨dx, ht⟩ := tb4.ins
            repeat walk_at "rd"
            refine ⟨pp, _, rfl, sqT_same (s1.trans s4) hpp, rfl, ?_⟩
            repeat walk_at "rd"
            refine Rd.ixT (tS _) (cls_in ci hci).2 ?_
            repeat walk_at "rd"
            refine ⟨Rd.sz (by simp), fun pk hpk => ?_⟩
            have s5 := Rd.sNew (o := .tup [V.str (clsAt ci), .str mm]) hpk
            refine ⟨t, dx, _, rfl, s5 _ _ ht, H1, t, ta', _, i, pk, clsAt ci, mm, .str ee, some (.w ee), rfl, tb4.mono s5, s4.trans s5, by omega, .inl (.inl upd_same), by rw [laid_names]; exact (cls_in ci hci).1, hmm, .inr ⟨_, rfl, rfl, hee⟩, fun H5 s6 tb5 => ?_⟩
            refine ⟨_, _, _, _, ta', rfl, s6, ?_⟩
            have et : zs.take (i + 1) = zs.take i ++ [(ci, mm, ee)] := by rw [List.take_add_one, hz]; rfl
            rw [et, laid_snoc]
            exact tb5
          · rintro σ H4 ⟨v3, v4, v5, v6, ta', rfl, s4, tb4⟩
            rw [← lz, List.take_length] at tb4
            have nn := laid_names zs m fl
            repeat walk_at "rd"
            refine Rd.makeR ?_
            repeat walk_at "rd"
            refine ⟨p_SPREAD_CLASSES, _, rfl, .inl (tS _), ?_⟩
            repeat walk_at "rd"
            refine mkSc (n0 := "left") (n1 := "right") (n2 := "item") tb4 (by rw [nn]; exact names3_nd) (by rw [nn]; decide) (by rw [nn]; decide) (by rw [nn]; decide) (by rw [nn]; decide) fun x pp t2 ta2 H5 s5 sc => ?_
            exact q x pp t2 ta2 H5 ((s1.trans s4).trans s5) ⟨sc.ins, sc.nm, sc.tb.lower (s1.trans s4)⟩
end
end Ab
namespace Ab
open PySem.Spec PyProof.Rows
structure PoolOk (x y : Int) : Prop where
  x0 : 0 ≤ x
  y0 : 0 ≤ y
  y1 : y < 2147483647
def spTake : Sp := fun vs H Q _ => ∃ (p : Addr) (x y m : Int), vs = [.ref p, .int m] ∧ H p = some (.lst [.int x, .int y]) ∧ PoolOk x y ∧ 0 < m ∧ m < 100000 ∧
  ∀ r x' y' : Int, PoolOk x' y' → 0 ≤ r → r < m → Q (.int r) (upd H p (.lst [.int x', .int y']))
section
variable {P : Program} {w : World} {K : PySem.W.Frag} {mg : Str → Option Value} {base : Heap}
abbrev sL_take : Stmt := top 80
abbrev nL_take : List Str := ["_law_pool_here", "_law_many", "_law_found"]
theorem scL_take : FnScope nL_take ["_law_pool_here", "_law_many"] (defScope sL_take) := ⟨rfl, rfl, rfl, by decide +kernel, rfl, by decide +kernel, by decide +kernel⟩
theorem ok_take (T : Txt K mg) (D : DefAt K mg "_law_take" sL_take ["_law_pool_here", "_law_many"]) : CalG P w K mg base 1 "_law_take" spTake := by
  refine D.by scL_take (fun vs H Q E h => ?_) (fun f cd A hg outer s H vs Q E hr h => ?_)
  · obtain ⟨p, x, y, m, rfl, _⟩ := h
    rfl
  · obtain ⟨p, x, y, m, rfl, hp, ok, m0, m1, k⟩ := h
    refine ⟨_, (pss_cons (ps_if (pt_cmpR op_gt (pe_ix (r := rIxL K) ix_list (pv 0) pe_int (fun _ _ => rfl)) pe_int (nomark _))
  (pss_cons (ps_set (i := 2) scL_take.nd rfl (Or.inl rfl) (pe_op op_modN (pe_callTy call_int1 (by rfl) T.int (by decide +kernel) (pa_cons (pe_ix (r := rIxL K) ix_list (pv 0) pe_int (fun _ _ => rfl)) pa_nil)) (pv 1)))
  (pss_cons (ps_asg (pe_op op_fdivN (pe_ix (r := rIxL K) ix_list (pv 0) pe_int (fun _ _ => rfl)) (pv 1)) (pg_sub (pv 0) pe_int set_list))
  (pss_one (ps_ret (pv 2)))))
  pss_nil)
  (pss_cons (ps_asg (pe_op op_modN (pe_callTy call_int1 (by rfl) T.int (by decide +kernel) (pa_cons (pe_op op_add (pe_op op_mul (pe_ix (r := rIxL K) ix_list (pv 0) pe_int (fun _ _ => rfl)) pe_int) pe_int) pa_nil)) pe_int) (pg_sub (pv 0) pe_int set_list))
  (pss_one (ps_ret (pe_op op_modN (pe_op op_fdivN (pe_op op_modN (pe_callTy call_int1 (by rfl) T.int (by decide +kernel) (pa_cons (pe_op op_mul (pe_ix (r := rIxL K) ix_list (pv 0) pe_int (fun _ _ => rfl)) (pe_ix (r := rIxL K) ix_list (pv 0) pe_int (fun _ _ => rfl))) pa_nil)) pe_int) pe_int) (pv 1)))))), ?_⟩
    repeat walk_at "rd"
    refine Rd.dec (fun c => ?_) (fun c => ?_)
    · repeat walk_at "rd"
      have e := Int.fdiv_eq_ediv_of_nonneg x (Int.le_of_lt m0)
      have e' := Int.fmod_eq_emod_of_nonneg x (Int.le_of_lt m0)
      have a := Int.emod_nonneg x (show m ≠ 0 by omega)
      have b := Int.emod_lt_of_pos x m0
      have d := Int.ediv_nonneg (a := x) (b := m) (by omega) (by omega)
      exact k _ _ _ ⟨by omega, ok.y0, ok.y1⟩ (by omega) (by omega)
    · have y0 := ok.y0
      have y1 := ok.y1
      obtain ⟨z0, z1⟩ := Rd.fm (i := y * 48271 + 11) (m := 2147483647) (by decide)
      repeat walk_at "rd"
      obtain ⟨r0, r1⟩ := Rd.fm (i := ((((y * 48271 + 11).fmod 2147483647) * ((y * 48271 + 11).fmod 2147483647)).fmod 2147483629).fdiv 64) m0
      exact k _ _ _ ⟨ok.x0, z0, z1⟩ r0 r1
def spPool (K : PySem.W.Frag) : Sp := fun vs H Q _ => ∃ (a : Addr) (ns : List Int) (k : Int), vs = [.ref a, .int k] ∧ SqL K H a (ns.map V.int) ∧ 0 ≤ k ∧ k < 1000 ∧
  ∀ (p : Addr) (x y : Int), H p = none → PoolOk x y → Q (.ref p) (upd H p (.lst [.int x, .int y]))
abbrev sL_pool : Stmt := top 79
abbrev nL_pool : List Str := ["_law_script", "_law_k", "_law_cell", "_law_size"]
theorem scL_pool : FnScope nL_pool ["_law_script", "_law_k"] (defScope sL_pool) := ⟨rfl, rfl, rfl, by decide +kernel, rfl, by decide +kernel, by decide +kernel⟩
theorem ok_pool (T : Txt K mg) (D : DefAt K mg "_law_pool" sL_pool ["_law_script", "_law_k"]) : CalG P w K mg base 1 "_law_pool" (spPool K) := by
  refine D.by scL_pool (fun vs H Q E h => ?_) (fun f cd A hg outer s H vs Q E hr h => ?_)
  · obtain ⟨a, ns, k, rfl, _⟩ := h
    rfl
  · obtain ⟨a, ns, k, rfl, hS, k0, k1, q⟩ := h
    refine ⟨_, (pss_cons (ps_set (i := 2) scL_pool.nd rfl (Or.inl rfl) pe_int)
  (pss_cons (ps_if (pt_cmpR op_lt (pv 1) (pe_callB (r := Rd.rLenK K) Rd.callLen (by rfl) T.len PySem.boot_len (pa_cons (pv 0) pa_nil)) (nomark _))
  (pss_one (ps_set (i := 2) scL_pool.nd rfl (Or.inl rfl) (pe_ix (r := rIxL K) ix_list (pv 0) (pv 1) (fun _ _ => rfl))))
  pss_nil)
  (pss_cons (ps_set (i := 3) scL_pool.nd rfl (Or.inl rfl) (pe_callB (call_max2 rfl) (by rfl) T.max (by decide +kernel) (pa_cons (pv 2) (pa_cons (pe_op op_sub (pe_un un_neg pe_int) (pv 2)) pa_nil))))
  (pss_one (ps_ret (pe_lst (pa_cons (pe_op op_mul (pv 3) (pe_callTy call_int1 (by rfl) T.int (by decide +kernel) (pa_cons (pe_cmpR op_ge (pv 3) (pe_op op_pow pe_int pe_int) (nomark _)) pa_nil))) (pa_cons (pe_op op_modN (pe_op op_mul (pe_callTy call_int1 (by rfl) T.int (by decide +kernel) (pa_cons (pe_op op_add (pe_op op_add (pe_op op_modN (pe_callTy call_int1 (by rfl) T.int (by decide +kernel) (pa_cons (pv 3) pa_nil)) pe_int) (pe_op op_mul pe_int (pv 1))) pe_int) pa_nil)) pe_int) pe_int) pa_nil)))))))), ?_⟩
    repeat walk_at "rd"
    have fin : ∀ (sz : Int) (k1 : Int), 0 ≤ sz → 0 ≤ k1 → k1 < 1000 → PoolOk (sz * (if decide ((10 : Int) ^ (Int.toNat 18) ≤ sz) = true then 1 else 0)) (((sz.fmod 2147483629 + 7919 * k1 + 104729) * 48271).fmod 2147483647) := by
      intro sz k1 h0 h1 h2
      obtain ⟨y0, y1⟩ := Rd.fm (i := (sz.fmod 2147483629 + 7919 * k1 + 104729) * 48271) (m := 2147483647) (by decide)
      refine ⟨?_, y0, y1⟩
      split
      · omega
      · omega
    refine Rd.dec (fun c => ?_) (fun c => ?_)
    · repeat walk_at "rd"
      obtain ⟨cell, ix⟩ := Rd.at_int k0 c
      refine Rd.ixL hS ix ?_
      have sz0 : 0 ≤ (if (-1 : Int) - cell > cell then -1 - cell else cell) := by split <;> omega
      have fmz := Rd.fm (i := (if (-1 : Int) - cell > cell then -1 - cell else cell)) (m := 2147483629) (by decide)
      repeat walk_at "rd"
      refine ⟨Rd.sz (by simp), fun p hp => ?_⟩
      exact q p _ _ hp (fin _ _ sz0 k0 k1)
    · have sz0 : 0 ≤ (if (-1 : Int) - 0 > 0 then -1 - 0 else (0 : Int)) := by split <;> omega
      have fmz := Rd.fm (i := (if (-1 : Int) - 0 > 0 then -1 - 0 else (0 : Int))) (m := 2147483629) (by decide)
      repeat walk_at "rd"
      refine ⟨Rd.sz (by simp), fun p hp => ?_⟩
      exact q p _ _ hp (fin _ _ sz0 k0 k1)
/-- one of a list's items, by the pool -/
def spOne (K : PySem.W.Frag) : Sp := fun vs H Q _ => ∃ (p l : Addr) (x y : Int) (xs : List V), vs = [.ref p, .ref l] ∧ H p = some (.lst [.int x, .int y]) ∧ SqL K H l xs ∧ (∀ o, SqL K (upd H p o) l xs) ∧ PoolOk x y ∧ 0 < xs.length ∧ xs.length < 1000 ∧
  ∀ (v : V) (x' y' : Int), v ∈ xs → PoolOk x' y' → Q v (upd H p (.lst [.int x', .int y']))
abbrev sL_one : Stmt := top 81
abbrev nL_one : List Str := ["_law_pool_here", "_law_some"]
theorem scL_one : FnScope nL_one ["_law_pool_here", "_law_some"] (defScope sL_one) := ⟨rfl, rfl, rfl, by decide +kernel, rfl, by decide +kernel, by decide +kernel⟩
theorem ok_one (T : Txt K mg) (D : DefAt K mg "_law_one" sL_one ["_law_pool_here", "_law_some"]) (CL_take : CalG P w K mg base 1 "_law_take" spTake) : CalG P w K mg base 2 "_law_one" (spOne K) := by
  refine D.by scL_one (fun vs H Q E h => ?_) (fun f cd A hg outer s H vs Q E hr h => ?_)
  · obtain ⟨a, ns, k, _, _, rfl, _⟩ := h
    rfl
  · obtain ⟨p, l, x, y, xs, rfl, hp, hl, hl2, ok, l0, l1, q⟩ := h
    refine ⟨_, (pss_one (ps_ret (pe_ix (r := rIxL K) ix_list (pv 1) (pe_cG CL_take hg hr (by decide) (pa_cons (pv 0) (pa_cons (pe_callB (r := Rd.rLenK K) Rd.callLen (by rfl) T.len PySem.boot_len (pa_cons (pv 1) pa_nil)) pa_nil))) (fun _ _ => rfl)))), ?_⟩
    repeat walk_at "rd"
    refine ⟨p, x, y, _, rfl, hp, ok, by omega, by omega, fun r x' y' ok' r0 r1 => ?_⟩
    have hr : r.toNat < xs.length := by omega
    exact Rd.ixL (hl2 _) (Rd.atN r0 (List.getElem?_eq_getElem hr)) (q _ _ _ (List.getElem_mem hr) ok')
end
end Ab
namespace Ab
open PySem.Spec PyProof.Rows
local macro_rules | `(tactic| walk_at "rd") => `(tactic| (with_reducible first | refine Rd.sfld ?_ | refine Rd.dget ?_ | refine Rd.methR ?_ | refine Rd.propR ?_ | refine Rd.statR ?_ | refine Rd.getR ?_))
def mput (m : Str → List Str) (o : Str) (ws : List Str) : Str → List Str := fun x => if x = o then ws else m x
section
variable {K : PySem.W.Frag} {C : Addr} {H H1 : Hp} {b w f p : Addr} {g : Str → Addr} {m m' : Str → List Str} {fl fl' : Str → Bool} {o : Str} {ws : List Str} {c : Bool}
theorem Bk.setW (k : Bk K C H b w f g m fl) (s : Same H H1) (hp : SqT K H1 p (ws.map V.str)) : Bk K C (upd H1 w (.dK (tab ops fun y => .ref (gput g o p y)))) b w f (gput g o p) (mput m o ws) fl := by
  have k1 := k.mono s
  have nt := nt_dK k1.wd
  obtain ⟨dx, hb⟩ := k1.ins
  refine ⟨⟨dx, ?_⟩, upd_same, ?_, fun y hy => ?_, k.ne⟩
  · rw [upd_ne (fun e => by rw [e, k1.wd] at hb; cases hb)]; exact hb
  · rw [upd_ne (fun e => k.ne e.symm)]; exact k1.fd
  · unfold gput mput
    by_cases e : y = o
    · rw [if_pos e, if_pos e]; exact sqT_upd nt hp
    · rw [if_neg e, if_neg e]; exact sqT_upd nt (k1.tp y hy)
theorem Bk.setF (k : Bk K C H b w f g m fl) : Bk K C (upd H f (.dK (tab flagsW fun y => .bl (fput fl o c y)))) b w f g m (fput fl o c) := by
  have nt := nt_dK k.fd
  obtain ⟨dx, hb⟩ := k.ins
  refine ⟨⟨dx, ?_⟩, ?_, upd_same, fun y hy => sqT_upd nt (k.tp y hy), k.ne⟩
  · rw [upd_ne (fun e => by rw [e, k.fd] at hb; cases hb)]; exact hb
  · rw [upd_ne k.ne]; exact k.wd
theorem Bk.congr (k : Bk K C H b w f g m fl) (h : ∀ o ∈ ops, m o = m' o) (h' : ∀ x ∈ flagsW, fl x = fl' x) : Bk K C H b w f g m' fl' :=
  ⟨k.ins, k.wd, by rw [k.fd, tab_congr (fun x hx => by rw [h' x hx])], fun o ho => by rw [← h o ho]; exact k.tp o ho, k.ne⟩
end
theorem sixN (n : Nat) : HT.sIx n 0 none = 0 := by rfl
theorem cutS1 (l : List Str) : cutV (l.map V.str) none (some 1) = (l.take 1).map V.str := by
  cases l with
  | nil => rfl
  | cons a l => simp [cutV, HT.sIx]
theorem disp {trs : List (TE × TE)} {σ : L2.St} {H : Hp} {Q : VK} (k : ∀ p, H p = none → tPairs trs σ (upd H p (.dK [])) fun ps H2 => H2 p = some (.dK []) ∧ ∃ kvs : List (Key × V), ps = kvs.map (fun kv => (kV kv.1, kv.2)) ∧ kvs.length ≤ 15 ∧ Q (.ref p) (upd H2 p (.dK (mergeK [] kvs)))) : tDisp trs σ H Q := k
theorem pcons {tk tv : TE} {r : List (TE × TE)} {σ : L2.St} {H : Hp} {Q : List (V × V) → Hp → Prop} (k : tk σ H fun x H1 => tv σ H1 fun y H2 => tPairs r σ H2 fun ps H3 => Q ((x, y) :: ps) H3) : tPairs ((tk, tv) :: r) σ H Q := k
theorem pnil {σ : L2.St} {H : Hp} {Q : List (V × V) → Hp → Prop} (k : Q [] H) : tPairs [] σ H Q := k
theorem gtup {K : PySem.W.Frag} {a : Addr} {xs : List V} {n : Nat} {t : TGs} {σ : L2.St} {H : Hp} {Q : L2.St → Hp → Prop} (h : SqT K H a xs) (l : xs.length = n) (k : t xs σ H Q) : gTup K n t (.ref a) σ H Q := ⟨a, xs, rfl, h, l, k⟩
theorem gc {t : TG} {u : TGs} {v : V} {r : List V} {σ : L2.St} {H : Hp} {Q : L2.St → Hp → Prop} (k : t v σ H fun σ' H' => u r σ' H' Q) : gCons t u (v :: r) σ H Q := ⟨v, r, rfl, k⟩
theorem gn {σ : L2.St} {H : Hp} {Q : L2.St → Hp → Prop} (k : Q σ H) : gNil [] σ H Q := ⟨rfl, k⟩
theorem Same.fr {H H' : Hp} {p : Addr} (s : Same H H') (h : H' p = none) : H p = none := by
  cases z : H p with
  | none => rfl
  | some u => rw [s _ _ z] at h; cases h
/-- a dict of ways in the making -/
structure Mg (K : PySem.W.Frag) (H Hc : Hp) (d : Addr) (l : List Str) (g : Str → Addr) : Prop where
  s : Same H Hc
  f : H d = none
  d : Hc d = some (.dK (tab l fun o => .ref (g o)))
  t : ∀ o ∈ l, SqT K Hc (g o) ((menu o).map V.str)
theorem setM {K : PySem.W.Frag} {H Hc H1 : Hp} {d p : Addr} {l : List Str} {g : Str → Addr} {x : Str} {Q : Hp → Prop} (m : Mg K H Hc d l g) (s : Same Hc H1) (hp : SqT K H1 p ((menu x).map V.str)) (nx : x ∉ l) (z : l.length ≤ 100)
    (k : ∀ H2 g2, Mg K H H2 d (l ++ [x]) g2 → (∀ q xs, SqT K H1 q xs → SqT K H2 q xs) → Q H2) : rSetD (.ref d) (.str x) (.ref p) H1 Q := by
  have hd := s _ _ m.d
  refine ⟨d, _, rfl, .inl ⟨_, .inr x, hd, rfl, by rw [tab_len]; exact Rd.szl (by omega), rfl⟩, ?_⟩
  have nt := nt_dK hd
  refine k _ (gput g x p) ⟨Rd.sMut (m.s.trans s) m.f, m.f, ?_, fun o ho => ?_⟩ (fun q xs h => sqT_upd nt h)
  · rw [upd_same, putK_new _ _ _ nx]
    have e : tab l (fun o => V.ref (g o)) = tab l fun o => V.ref (gput g x p o) := tab_congr fun o ho => by
      unfold gput
      rw [if_neg (fun e => nx (by rw [← e]; exact ho))]
    rw [e, show (Sum.inr x, V.ref p) = ((Sum.inr x : Key), V.ref (gput g x p x)) by unfold gput; rw [if_pos rfl], tab_snoc l (fun o => V.ref (gput g x p o))]
  · refine sqT_upd nt ?_
    unfold gput
    by_cases e : o = x
    · rw [if_pos e, e]; exact hp
    · rw [if_neg e]
      rcases List.mem_append.mp ho with h | h
      · exact sqT_same s (m.t o h)
      · exact absurd (by simpa using h) e
theorem Keep.new {p q : Addr} {H H1 : Hp} {o : HO} (a : Keep p H H1) (h : H1 q = none) : Keep p H (upd H1 q o) := fun b u n e => by
  have := a b u n e
  rw [upd_ne (ne_of_none this h)]
  exact this
theorem Keep.mut {p q : Addr} {H H1 : Hp} {o : HO} (a : Keep p H H1) (h : H q = none) : Keep p H (upd H1 q o) := fun b u n e => by
  rw [upd_ne (ne_of_none e h)]
  exact a b u n e
section
variable {P : Program} {w : World} {K : PySem.W.Frag} {mg : Str → Option Value} {base : Heap}
abbrev sL_menus : Stmt := top 82
abbrev nL_menus : List Str := ["_law_two", "_law_found"]
theorem scL_menus : FnScope nL_menus [] (defScope sL_menus) := ⟨rfl, rfl, rfl, by decide +kernel, rfl, by decide +kernel, by decide +kernel⟩
def spMenus (K : PySem.W.Frag) : Sp := fun vs H Q _ => vs = [] ∧ ∀ d g H', Mg K H H' d ops g → Q (.ref d) H'
theorem ok_menus (D : DefAt K mg "_law_menus" sL_menus []) : CalG P w K mg base 1 "_law_menus" (spMenus K) := by
  refine D.by scL_menus (fun vs H Q E h => ?_) (fun f cd A hg outer s H vs Q E hr h => ?_)
  · rw [h.1]; rfl
  · obtain ⟨rfl, q⟩ := h
    refine ⟨_, (pss_cons (ps_set (i := 0) scL_menus.nd rfl (Or.inl rfl) (pe_tup (pa_cons pe_str (pa_cons pe_str pa_nil))))
  (pss_cons (ps_set (i := 1) scL_menus.nd rfl (Or.inl rfl) (pe_disp (pps_cons pe_str (pe_tup (pa_cons pe_str (pa_cons pe_str pa_nil))) (pps_cons pe_str (pe_tup (pa_cons pe_str pa_nil)) (pps_cons pe_str (pe_tup (pa_cons pe_str (pa_cons pe_str pa_nil))) pps_nil))) (by rfl) (by rfl) (by simp) (by decide)))
  (pss_cons (ps_asg (pe_tup (pa_cons (pe_tup (pa_cons pe_str (pa_cons pe_str pa_nil))) (pa_cons (pe_tup (pa_cons pe_str pa_nil)) (pa_cons (pe_tup (pa_cons pe_str pa_nil)) pa_nil)))) (pg_tup (by rfl) (pgs_cons (pg_sub (pv 1) pe_str (set_dict (one_ hr.units))) (pgs_cons (pg_sub (pv 1) pe_str (set_dict (one_ hr.units))) (pgs_cons (pg_sub (pv 1) pe_str (set_dict (one_ hr.units))) pgs_nil)))))
  (pss_cons (ps_asg (pe_tup (pa_cons (pe_tup (pa_cons pe_str (pa_cons pe_str (pa_cons pe_str pa_nil)))) (pa_cons (pv 0) pa_nil))) (pg_tup (by rfl) (pgs_cons (pg_sub (pv 1) pe_str (set_dict (one_ hr.units))) (pgs_cons (pg_sub (pv 1) pe_str (set_dict (one_ hr.units))) pgs_nil))))
  (pss_cons (ps_asg (pe_tup (pa_cons pe_str (pa_cons pe_str (pa_cons pe_str (pa_cons pe_str pa_nil))))) (pg_sub (pv 1) pe_str (set_dict (one_ hr.units))))
  (pss_cons (ps_asg (pe_tup (pa_cons (pv 0) (pa_cons (pv 0) (pa_cons (pe_tup (pa_cons pe_str (pa_cons pe_str pa_nil))) pa_nil)))) (pg_tup (by rfl) (pgs_cons (pg_sub (pv 1) pe_str (set_dict (one_ hr.units))) (pgs_cons (pg_sub (pv 1) pe_str (set_dict (one_ hr.units))) (pgs_cons (pg_sub (pv 1) pe_str (set_dict (one_ hr.units))) pgs_nil)))))
  (pss_one (ps_ret (pv 1))))))))), ?_⟩
    repeat walk_at "rd"
    refine ⟨Rd.sz (by simp), fun two h0 => ?_⟩
    have s0 := Rd.sNew (o := .tup [.str "own", .str "turned"]) h0
    have t0 : SqT K (upd H two (.tup [.str "own", .str "turned"])) two ((menu "like").map V.str) := .inl (.inl upd_same)
    generalize upd H two (.tup [.str "own", .str "turned"]) = H0 at s0 t0 ⊢
    repeat walk_at "rd"
    refine disp fun d hd => ?_
    have fd := Same.fr s0 hd
    refine pcons ?_
    repeat walk_at "rd"
    refine ⟨Rd.sz (by simp), fun p1 h1 => ?_⟩
    refine pcons ?_
    repeat walk_at "rd"
    refine ⟨Rd.sz (by simp), fun p2 h2 => ?_⟩
    refine pcons ?_
    repeat walk_at "rd"
    refine ⟨Rd.sz (by simp), fun p3 h3 => pnil ⟨?_, [(.inr "truth", .ref p1), (.inr "size", .ref p2), (.inr "each", .ref p3)], rfl, by simp, ?_⟩⟩
    · exact Rd.sNew h3 _ _ (Rd.sNew h2 _ _ (Rd.sNew h1 _ _ upd_same))
    have d1 : p1 ≠ d := fun e => by rw [e, upd_same] at h1; cases h1
    have S1 := Rd.sNew (o := .tup [.str "truth", .str "length"]) h1
    have S2 := Rd.sNew (o := .tup [.str "length"]) h2
    have S3 := Rd.sNew (o := .tup [.str "walk", .str "item"]) h3
    have dd := S3 _ _ (S2 _ _ (S1 _ _ upd_same))
    have nt := nt_dK dd
    have M : ∃ g, Mg K H (upd (upd (upd (upd (upd H0 d (.dK [])) p1 (.tup [.str "truth", .str "length"])) p2 (.tup [.str "length"])) p3 (.tup [.str "walk", .str "item"])) d (.dK (mergeK [] [(.inr "truth", .ref p1), (.inr "size", .ref p2), (.inr "each", .ref p3)]))) d ["truth", "size", "each"] g := by
      refine ⟨fun o => if o = "truth" then p1 else if o = "size" then p2 else p3, ⟨?_, fd, by rw [upd_same]; rfl, fun o ho => sqT_upd nt ?_⟩⟩
      · exact Rd.sMut (((Rd.sMut s0 fd).trans S1).trans (S2.trans S3)) fd
      · simp only [List.mem_cons, List.not_mem_nil, or_false] at ho
        rcases ho with rfl | rfl | rfl
        · exact .inl (.inl (S3 _ _ (S2 _ _ upd_same)))
        · exact .inl (.inl (S3 _ _ upd_same))
        · exact .inl (.inl upd_same)
    have t1 := sqT_upd (z := .dK (mergeK [] [(.inr "truth", .ref p1), (.inr "size", .ref p2), (.inr "each", .ref p3)])) nt (sqT_same S3 (sqT_same S2 (sqT_same S1 (sqT_same (Rd.sNew hd) t0))))
    obtain ⟨g, M⟩ := M
    clear dd nt
    generalize upd (upd (upd (upd (upd H0 d (.dK [])) p1 (.tup [.str "truth", .str "length"])) p2 (.tup [.str "length"])) p3 (.tup [.str "walk", .str "item"])) d (.dK (mergeK [] [(.inr "truth", .ref p1), (.inr "size", .ref p2), (.inr "each", .ref p3)])) = H1 at M t1 ⊢
    clear S1 S2 S3 h1 h2 h3 hd d1
    repeat walk_at "rd"
    refine ⟨Rd.sz (by simp), fun p1 h1 => ?_⟩
    repeat walk_at "rd"
    refine ⟨Rd.sz (by simp), fun p2 h2 => ?_⟩
    repeat walk_at "rd"
    refine ⟨Rd.sz (by simp), fun p3 h3 => ?_⟩
    repeat walk_at "rd"
    refine ⟨Rd.sz (by simp), fun p4 h4 => ?_⟩
    have S1 := Rd.sNew (o := .tup [.str "back", .str "count"]) h1
    have S2 := Rd.sNew (o := .tup [.str "hash"]) h2
    have S3 := Rd.sNew (o := .tup [.str "call"]) h3
    have S4 := Rd.sNew (o := .tup [.ref p1, .ref p2, .ref p3]) h4
    have SS := S1.trans (S2.trans (S3.trans S4))
    have e1 := S4 _ _ (S3 _ _ (S2 _ _ (upd_same (H := H1) (a := p1) (o := .tup [.str "back", .str "count"]))))
    have e2 := S4 _ _ (S3 _ _ (upd_same (H := upd H1 p1 (.tup [.str "back", .str "count"])) (a := p2) (o := .tup [.str "hash"])))
    have e3 := S4 _ _ (upd_same (H := upd (upd H1 p1 (.tup [.str "back", .str "count"])) p2 (.tup [.str "hash"])) (a := p3) (o := .tup [.str "call"]))
    refine gtup (.inl (.inl upd_same)) rfl (gc ?_)
    repeat walk_at "rd"
    refine setM M SS (.inl (.inl e1)) (by decide +kernel) (by decide) fun H2 g2 M2 k2 => gc ?_
    repeat walk_at "rd"
    refine setM M2 (Same.refl _) (k2 _ _ (.inl (.inl e2))) (by decide +kernel) (by decide) fun H3 g3 M3 k3 => gc ?_
    repeat walk_at "rd"
    refine setM M3 (Same.refl _) (k3 _ _ (k2 _ _ (.inl (.inl e3)))) (by decide +kernel) (by decide) fun H4 g4 M4 k4 => gn ?_
    have t4 := k4 _ _ (k3 _ _ (k2 _ _ (sqT_same SS t1)))
    clear M M2 M3 k2 k3 k4 S1 S2 S3 S4 SS e1 e2 e3 h1 h2 h3 h4 t1
    repeat walk_at "rd"
    refine ⟨Rd.sz (by simp), fun p5 h5 => ?_⟩
    repeat walk_at "rd"
    refine ⟨Rd.sz (by simp), fun p6 h6 => ?_⟩
    have S5 := Rd.sNew (o := .tup [.str "has", .str "walk", .str "item"]) h5
    have S6 := Rd.sNew (o := .tup [.ref p5, .ref two]) h6
    have e5 := S6 _ _ (upd_same (H := H4) (a := p5) (o := .tup [.str "has", .str "walk", .str "item"]))
    refine gtup (.inl (.inl upd_same)) rfl (gc ?_)
    repeat walk_at "rd"
    refine setM M4 (S5.trans S6) (.inl (.inl e5)) (by decide +kernel) (by decide) fun H5 g5 M5 k5 => gc ?_
    have t5 := k5 _ _ (sqT_same (S5.trans S6) t4)
    repeat walk_at "rd"
    refine setM M5 (Same.refl _) t5 (by decide +kernel) (by decide) fun H6 g6 M6 k6 => gn ?_
    have t6 := k6 _ _ t5
    clear M4 M5 k5 k6 S5 S6 e5 h5 h6 t4 t5
    repeat walk_at "rd"
    refine ⟨Rd.sz (by simp), fun p7 h7 => ?_⟩
    have S7 := Rd.sNew (o := .tup [.str "own", .str "like", .str "turned", .str "turned_like"]) h7
    repeat walk_at "rd"
    refine setM M6 S7 (.inl (.inl upd_same)) (by decide +kernel) (by decide) fun H7 g7 M7 k7 => ?_
    have t7 := k7 _ _ (sqT_same S7 t6)
    clear M6 k7 S7 h7 t6
    repeat walk_at "rd"
    refine ⟨Rd.sz (by simp), fun p8 h8 => ?_⟩
    repeat walk_at "rd"
    refine ⟨Rd.sz (by simp), fun p9 h9 => ?_⟩
    have S8 := Rd.sNew (o := .tup [.str "grow", .str "plus"]) h8
    have S9 := Rd.sNew (o := .tup [.ref two, .ref two, .ref p8]) h9
    have e8 := S9 _ _ (upd_same (H := H7) (a := p8) (o := .tup [.str "grow", .str "plus"]))
    refine gtup (.inl (.inl upd_same)) rfl (gc ?_)
    have t8 := sqT_same (S8.trans S9) t7
    repeat walk_at "rd"
    refine setM M7 (S8.trans S9) t8 (by decide +kernel) (by decide) fun H8 g8 M8 k8 => gc ?_
    repeat walk_at "rd"
    refine setM M8 (Same.refl _) (k8 _ _ t8) (by decide +kernel) (by decide) fun H9 g9 M9 k9 => gc ?_
    repeat walk_at "rd"
    refine setM M9 (Same.refl _) (k9 _ _ (k8 _ _ (.inl (.inl e8)))) (by decide +kernel) (by decide) fun Ha ga Ma ka => gn ?_
    repeat walk_at "rd"
    exact q d ga Ha Ma
end
end Ab
namespace Fz
open PySem.Spec PyProof.Rows
/-- a container that e has just made, locked from here on -/
def tFrz (t : TE) : TE := fun τ G Q => t τ G fun x G1 => ∃ d u, x = .ref d ∧ G1 d = some u ∧ Mut (some u) ∧ ∀ od, Q x (upd G1 d (.frz od u))
theorem pe_frz {X : Cx} {e : Expr} {t : TE} (h : PE X e t) : PE X e (tFrz t) := by
  refine ⟨fun pins s τ G Q I q => thn (h.run pins s τ G _ I q) fun u s1 ⟨x, G1, I1, r, d, o, ex, hd, mu, k⟩ => ?_⟩
  obtain ⟨od, I2⟩ := I1.lock hd mu
  exact ⟨x, _, I2, r, k od⟩
theorem frz {t : TE} {τ : L2.St} {G : Hp} {Q : VK} (k : t τ G fun x G1 => ∃ d u, x = .ref d ∧ G1 d = some u ∧ Mut (some u) ∧ ∀ od, Q x (upd G1 d (.frz od u))) : tFrz t τ G Q := k
end Fz
namespace Ab
open PySem.Spec PyProof.Rows
/-- a for over the keys of a dict, which is locked meanwhile -/
theorem forK {j : Nat} {td : TE} {tb : TS} {D : Ends} {σ : L2.St} {H : Hp} {d : Addr} {l : List Str} {F : Str → V} (Pv : Obj → Nat → L2.St → Hp → Prop) (htd : ∀ (od : Obj) (R : V → Hp → Prop), R (.ref d) (upd H d (.frz od (.dK (tab l F)))) → td σ (upd H d (.frz od (.dK (tab l F)))) R) (hd : H d = some (.dK (tab l F)))
    (h0 : ∀ od, Pv od 0 σ (upd H d (.frz od (.dK (tab l F))))) (hG : ∀ od i σ1 H1, Pv od i σ1 H1 → H1 d = some (.frz od (.dK (tab l F))))
    (hs : ∀ od i (hi : i < l.length) σ1 H1 rt bk, Pv od i σ1 H1 → tb { nx := Pv od (i + 1), rt := rt, bk := bk, ct := Pv od (i + 1) } (σ1.set j (some (.str l[i]))) H1)
    (he : ∀ od σ1 H1, Pv od l.length σ1 H1 → D.nx σ1 (upd H1 d (.dK (tab l F)))) : tLock (tFor (iKeys td) (gName j) tb) D σ H := by
  refine ⟨d, _, hd, True.intro, fun od => htd od _ ⟨d, od, rfl, .inl ⟨_, upd_same, ?_⟩⟩⟩
  refine for_it (walk_keys (d := d) (o := od) (kvs := tab l F)) (Pv od) (h0 od) (fun i σ1 H1 _ p => hG od i σ1 H1 p) ?_ ?_
  · rintro i x σ1 H1 H1' hi p ⟨rfl, k, v, hk, rfl⟩
    rw [tab_len] at hi
    have ek : k = .inr l[i] := by
      have : (tab l F)[i]? = some (.inr l[i], F l[i]) := by simp [tab, hi]
      rw [this] at hk
      cases hk
      rfl
    subst ek
    exact hs od i hi σ1 _ _ _ p
  · intro σ1 H1 p
    rw [tab_len] at p
    exact ⟨hG od _ σ1 H1 p, he od σ1 H1 p⟩
/-! ### the law's own books -/
structure Own (K : PySem.W.Frag) (H : Hp) (o w f : Addr) (g : Str → Addr) (m : Str → List Str) (fl : Str → Bool) : Prop where
  od : H o = some (.dK [(.inr "ways", .ref w), (.inr "flags", .ref f)])
  wd : H w = some (.dK (tab ops fun y => .ref (g y)))
  fd : H f = some (.lst (flagsW.map fun x => .bl (fl x)))
  tp : ∀ y ∈ ops, SqT K H (g y) ((m y).map V.str)
  ne : o ≠ w
theorem Own.mono {K : PySem.W.Frag} {H H' : Hp} {o w f : Addr} {g : Str → Addr} {m : Str → List Str} {fl : Str → Bool} (k : Own K H o w f g m fl) (s : Same H H') : Own K H' o w f g m fl :=
  ⟨s _ _ k.od, s _ _ k.wd, s _ _ k.fd, fun y hy => sqT_same s (k.tp y hy), k.ne⟩
theorem Own.ways {K : PySem.W.Frag} {H : Hp} {o w f : Addr} {g : Str → Addr} {m : Str → List Str} {fl : Str → Bool} (k : Own K H o w f g m fl) : DGet H o (.str "ways") (some (.ref w)) := .inl ⟨_, .inr "ways", .inl k.od, rfl, rfl⟩
theorem Own.flags {K : PySem.W.Frag} {H : Hp} {o w f : Addr} {g : Str → Addr} {m : Str → List Str} {fl : Str → Bool} (k : Own K H o w f g m fl) : DGet H o (.str "flags") (some (.ref f)) := .inl ⟨_, .inr "flags", .inl k.od, rfl, rfl⟩
def NewOwn (K : PySem.W.Frag) (m : Str → List Str) (fl : Str → Bool) (Q : VK) (H : Hp) : Prop := ∀ o w f g H', Same H H' → H o = none → H w = none → H f = none → Own K H' o w f g m fl → Q (.ref o) H'
/-- the law's own book within a dict of more keys -/
structure OwB (K : PySem.W.Frag) (H : Hp) (o w f : Addr) (g : Str → Addr) (m : Str → List Str) (fl : Str → Bool) : Prop where
  od : ∃ kvs, H o = some (.dK kvs) ∧ valV kvs (.inr "ways") = some (.ref w) ∧ valV kvs (.inr "flags") = some (.ref f)
  wd : H w = some (.dK (tab ops fun y => .ref (g y)))
  fd : H f = some (.lst (flagsW.map fun x => .bl (fl x)))
  tp : ∀ y ∈ ops, SqT K H (g y) ((m y).map V.str)
  ne : o ≠ w
theorem OwB.mono {K : PySem.W.Frag} {H H' : Hp} {o w f : Addr} {g : Str → Addr} {m : Str → List Str} {fl : Str → Bool} (k : OwB K H o w f g m fl) (s : Same H H') : OwB K H' o w f g m fl :=
  ⟨let ⟨kvs, h, a⟩ := k.od; ⟨kvs, s _ _ h, a⟩, s _ _ k.wd, s _ _ k.fd, fun y hy => sqT_same s (k.tp y hy), k.ne⟩
theorem OwB.ways {K : PySem.W.Frag} {H : Hp} {o w f : Addr} {g : Str → Addr} {m : Str → List Str} {fl : Str → Bool} (k : OwB K H o w f g m fl) : DGet H o (.str "ways") (some (.ref w)) := let ⟨_, h, a, _⟩ := k.od; .inl ⟨_, .inr "ways", .inl h, rfl, a.symm⟩
theorem OwB.flags {K : PySem.W.Frag} {H : Hp} {o w f : Addr} {g : Str → Addr} {m : Str → List Str} {fl : Str → Bool} (k : OwB K H o w f g m fl) : DGet H o (.str "flags") (some (.ref f)) := let ⟨_, h, _, a⟩ := k.od; .inl ⟨_, .inr "flags", .inl h, rfl, a.symm⟩
/-- all but what stands at A stays -/
def Chg (A : List Addr) (H H' : Hp) : Prop := ∀ a u, H a = some u → a ∉ A → H' a = some u
section
variable {A B : List Addr} {H H1 H2 : Hp} {a p : Addr} {o : HO}
theorem Chg.refl : Chg A H H := fun _ _ e _ => e
theorem Chg.same (c : Chg A H H1) (s : Same H1 H2) : Chg A H H2 := fun b u e n => s _ _ (c b u e n)
theorem Chg.upd (c : Chg A H H1) (m : a ∈ A) : Chg A H (L2.upd H1 a o) := fun b u e n => by
  rw [upd_ne (fun z => n (by rw [z]; exact m))]
  exact c b u e n
theorem Chg.keep (c : Chg A H H1) (k : Keep p H1 H2) (m : p ∈ A) : Chg A H H2 := fun b u e n => k b u (fun z => n (by rw [z]; exact m)) (c b u e n)
theorem Chg.sub (c : Chg A H H1) (h : ∀ x ∈ A, x ∈ B) : Chg B H H1 := fun b u e n => c b u e fun z => n (h b z)
theorem chg1 : Chg [a] H (L2.upd H a o) := Chg.refl.upd List.mem_cons_self
theorem Keep.chg (k : Keep p H H1) : Chg [p] H H1 := fun b u e n => k b u (by simpa using n) e
end
section
variable {K : PySem.W.Frag} {C : Addr} {A : List Addr} {H H' : Hp} {b w f o q : Addr} {g : Str → Addr} {m : Str → List Str} {fl : Str → Bool} {xs : List V}
theorem sqT_chg (c : Chg A H H') (nt : ∀ a ∈ A, NoTup H a) (h : SqT K H q xs) : SqT K H' q xs := by
  rcases h with (h | ⟨o, h⟩) | h
  · exact .inl (.inl (c _ _ h fun m => (nt _ m _ h).1 _ rfl))
  · exact .inl (.inr ⟨o, c _ _ h fun m => (nt _ m _ h).2 _ _ rfl⟩)
  · exact .inr h
theorem Bk.chg (k : Bk K C H b w f g m fl) (c : Chg A H H') (nt : ∀ a ∈ A, NoTup H a) (hb : b ∉ A) (hw : w ∉ A) (hf : f ∉ A) : Bk K C H' b w f g m fl :=
  ⟨let ⟨dx, h⟩ := k.ins; ⟨dx, c _ _ h hb⟩, c _ _ k.wd hw, c _ _ k.fd hf, fun y hy => sqT_chg c nt (k.tp y hy), k.ne⟩
theorem Own.chg (k : Own K H o w f g m fl) (c : Chg A H H') (nt : ∀ a ∈ A, NoTup H a) (ho : o ∉ A) (hw : w ∉ A) (hf : f ∉ A) : Own K H' o w f g m fl :=
  ⟨c _ _ k.od ho, c _ _ k.wd hw, c _ _ k.fd hf, fun y hy => sqT_chg c nt (k.tp y hy), k.ne⟩
theorem Own.setW {t y : Addr} {x : Str} {ws : List Str} (k : Own K H o w f g m fl) (s : SqT K H t (ws.map V.str)) : Own K (upd H w (.dK (tab ops fun y => .ref (gput g x t y)))) o w f (gput g x t) (mput m x ws) fl := by
  have nt := nt_dK k.wd
  refine ⟨by rw [upd_ne k.ne]; exact k.od, upd_same, ?_, fun y hy => ?_, k.ne⟩
  · rw [upd_ne (fun e => by have := k.fd; rw [e, k.wd] at this; cases this)]; exact k.fd
  · unfold gput mput
    by_cases e : y = x
    · rw [if_pos e, if_pos e]; exact sqT_upd nt s
    · rw [if_neg e, if_neg e]; exact sqT_upd nt (k.tp y hy)
theorem Own.setF {x : Str} {c : Bool} (k : Own K H o w f g m fl) : Own K (upd H f (.lst (flagsW.map fun y => .bl (fput fl x c y)))) o w f g m (fput fl x c) := by
  have nt := nt_lst k.fd
  refine ⟨?_, ?_, upd_same, fun y hy => sqT_upd nt (k.tp y hy), k.ne⟩
  · rw [upd_ne (fun e => by have := k.od; rw [e, k.fd] at this; cases this)]; exact k.od
  · rw [upd_ne (fun e => by have := k.wd; rw [e, k.fd] at this; cases this)]; exact k.wd
end
theorem flag_set (fl : Str → Bool) (c : Bool) : ∀ i (hi : i < flagsW.length), (flagsW.map fun x => V.bl (fl x)).set i (.bl c) = flagsW.map fun x => .bl (fput fl flagsW[i] c x) := by
  intro i hi
  have e : i = 0 ∨ i = 1 ∨ i = 2 := by have : flagsW.length = 3 := rfl; omega
  rcases e with rfl | rfl | rfl <;> rfl
theorem mem_menu_len : ∀ o ∈ ops, (menu o).Nodup ∧ (menu o).length ≤ 20 := by decide +kernel
theorem ways_ok {o : Str} {ws : List Str} (nd : ws.Nodup) (h : ∀ z ∈ ws, z ∈ menu o) : waysOk o (ws.map V.str) = true := by
  have e : ∀ l : List Str, strsOf (l.map V.str) = l := fun l => by
    induction l with
    | nil => rfl
    | cons a l ih => show a :: strsOf (l.map V.str) = _; rw [ih]
  rw [waysOk, e, decide_eq_true nd, Bool.and_true, List.all_eq_true]
  intro x hx
  obtain ⟨z, hz, rfl⟩ := List.mem_map.mp hx
  exact decide_eq_true (h z hz)
theorem len_sub {ws l : List Str} (nd : ws.Nodup) (h : ∀ z ∈ ws, z ∈ l) : ws.length ≤ l.length := by
  induction ws generalizing l with
  | nil => simp
  | cons a ws ih =>
    rw [List.nodup_cons] at nd
    have ha := h a List.mem_cons_self
    have := ih (l := l.erase a) nd.2 fun z hz => by
      refine (List.mem_erase_of_ne (fun e => nd.1 (by rw [← e]; exact hz))).mpr (h z (List.mem_cons_of_mem _ hz))
    rw [List.length_erase_of_mem ha] at this
    have : 0 < l.length := List.length_pos_of_mem ha
    rw [List.length_cons]
    omega

theorem Rd.revT {K : PySem.W.Frag} {te : TE} {σ : L2.St} {H : Hp} {Q : VK} (k : te σ H fun x H1 => ∃ a xs, x = .ref a ∧ SqT K H1 a xs ∧ ∀ p, H1 p = none → Q (.ref p) (upd H1 p (.tup xs.reverse))) : Tr.tRevT K te σ H Q := k
end Ab
namespace Ab
open PySem.Spec PyProof.Rows
local macro_rules | `(tactic| walk_at "rd") => `(tactic| (with_reducible first | refine Rd.tt_ ?_ | refine Rd.ff_ ?_ | refine Rd.sfld ?_ | refine Rd.dget ?_ | refine Rd.methR ?_ | refine Rd.propR ?_ | refine Rd.getR ?_ | refine Rd.revT ?_))
/-- ways of a menu, none of them twice -/
def PM (m : Str → List Str) : Prop := ∀ o ∈ ops, (m o).Nodup ∧ ∀ z ∈ m o, z ∈ menu o
theorem Keep.fr {p a : Addr} {H H1 : Hp} {u : HO} (k : Keep p H H1) (hp : H1 p = some u) (h : H1 a = none) : H a = none := by
  cases z : H a with
  | none => rfl
  | some v =>
    have n : a ≠ p := fun e => by rw [e, hp] at h; cases h
    rw [k _ _ n z] at h
    cases h
theorem nt_frz {H : Hp} {a : Addr} {od : Obj} {kvs : List (Key × V)} (h : H a = some (.frz od (.dK kvs))) : NoTup H a := fun u e => by
  rw [h] at e; cases e; exact ⟨fun _ => by simp, fun _ _ => by simp⟩
theorem cutGA {K : PySem.W.Frag} {a : Addr} {xs : List V} {lo hi : Option Int} {H : Hp} {Q : VK} (h : SqT K H a xs) (k : ∀ t H', Same H H' → SqT K H' t (cutV xs lo hi) → Q (.ref t) H') : rSlA K (.ref a) lo hi H Q := by
  refine ⟨a, xs, rfl, h, fun c => k a H (Same.refl _) ?_, fun _ p hp => k p _ (Rd.sNew hp) (.inl (.inl upd_same))⟩
  have e : cutV xs lo hi = xs := by
    unfold cutV
    rw [c.1, c.2]
    simp
  rw [e]
  exact h
theorem cut_from1 (l : List Str) : cutV (l.map V.str) (some 1) none = (l.drop 1).map V.str := by
  cases l with
  | nil => rfl
  | cons a l =>
    unfold cutV
    have e1 : HT.sIx ((a :: l).map V.str).length 0 (some 1) = 1 := by simp [HT.sIx]
    have e2 : HT.sIx ((a :: l).map V.str).length ((a :: l).map V.str).length none = l.length + 1 := by simp [HT.sIx]
    rw [e1, e2]
    simp
    rw [List.take_of_length_le (by simp)]
theorem ops_len : ops.length = 12 := rfl
theorem take_new {i : Nat} (hi : i < ops.length) : ops[i] ∉ ops.take i := fun m => by
  obtain ⟨k, hk, e⟩ := List.mem_iff_getElem.mp m
  rw [List.getElem_take] at e
  rw [List.length_take] at hk
  have := (List.getElem_inj ops_nd).mp e
  omega
theorem take_snoc {i : Nat} (hi : i < ops.length) : ops.take i ++ [ops[i]] = ops.take (i + 1) := by
  rw [List.take_add_one, List.getElem?_eq_getElem hi]
  rfl
/-- book[operation] = ways, right ones -/
theorem bset {K : PySem.W.Frag} {C CN CW b w f q : Addr} {g : Str → Addr} {m : Str → List Str} {fl : Str → Bool} {H : Hp} {Q : VK} {E : XK} {o : Str} {ws : List Str} (bk : Bk K C H b w f g m fl) (ho : o ∈ ops) (hq : SqT K H q (ws.map V.str)) (nd : ws.Nodup) (sub : ∀ z ∈ ws, z ∈ menu o)
    (k : ∀ H', Same H H' → Q .non (upd H' w (.dK (tab ops fun y => .ref (gput g o q y))))) : spBkSet K C CN CW [.ref b, .str o, .ref q] H Q E := by
  have wl := len_sub nd sub
  have ml := (mem_menu_len o ho).2
  refine ⟨b, w, f, g, m, fl, .str o, .ref q, "str", rfl, bk, kd_str _, fun c => ?_, fun o' eo _ => .inr ⟨q, ws.map V.str, rfl, hq, ?_, fun y hy H' _ => ?_, fun c => ?_, fun _ H4 s4 => ?_⟩⟩
  · rw [show isIn (.str o) ops = true from decide_eq_true ho] at c; cases c
  · rw [List.length_map]; omega
  · obtain ⟨z, _, rfl⟩ := List.mem_map.mp hy
    exact ⟨_, kd_str z⟩
  · rw [← V.str.inj eo, ways_ok nd sub] at c; cases c
  · obtain rfl := V.str.inj eo
    exact k H4 s4
theorem bflag {K : PySem.W.Frag} {C CN CF b w f : Addr} {g : Str → Addr} {m : Str → List Str} {fl : Str → Bool} {H : Hp} {Q : VK} {E : XK} {x : Str} {c : Bool} (k : Bk K C H b w f g m fl) (hx : x ∈ flagsW) (r : Q .non (upd H f (.dK (tab flagsW fun y => .bl (fput fl x c y))))) : spSetFlag K C CN CF [.ref b, .str x, .bl c] H Q E :=
  ⟨b, w, f, g, m, fl, .str x, .bl c, "str", "bool", rfl, k, kd_str _, kd_bl _, fun z => (by rw [show isIn (.str x) flagsW = true from decide_eq_true hx] at z; cases z), fun o' eo _ => ⟨fun z => (by cases z), fun c' ec => by cases ec; cases eo; exact r⟩⟩
/-- a book in the making, the pool at p, the menus at md -/
structure LB (K : PySem.W.Frag) (C : Addr) (H H2 : Hp) (p md : Addr) (od : Obj) (gm : Str → Addr) (b w f : Addr) (g : Str → Addr) (m : Str → List Str) (x y : Int) : Prop where
  kp : Keep p H H2
  hp : H2 p = some (.lst [.int x, .int y])
  ok : PoolOk x y
  md : H2 md = some (.frz od (.dK (tab ops fun o => .ref (gm o))))
  mt : ∀ o ∈ ops, SqT K H2 (gm o) ((menu o).map V.str)
  bk : Bk K C H2 b w f g m (fun _ => true)
  pm : PM m
  nw : H w = none
theorem LB.same {K : PySem.W.Frag} {C : Addr} {H H2 H3 : Hp} {p md : Addr} {od : Obj} {gm : Str → Addr} {b w f : Addr} {g : Str → Addr} {m : Str → List Str} {x y : Int} (k : LB K C H H2 p md od gm b w f g m x y) (s : Same H2 H3) : LB K C H H3 p md od gm b w f g m x y :=
  ⟨k.kp.trans (Keep.same s), s _ _ k.hp, k.ok, s _ _ k.md, fun o ho => sqT_same s (k.mt o ho), k.bk.mono s, k.pm, k.nw⟩
theorem LB.pool {K : PySem.W.Frag} {C : Addr} {H H2 : Hp} {p md : Addr} {od : Obj} {gm : Str → Addr} {b w f : Addr} {g : Str → Addr} {m : Str → List Str} {x y x' y' : Int} (k : LB K C H H2 p md od gm b w f g m x y) (ok : PoolOk x' y') : LB K C H (upd H2 p (.lst [.int x', .int y'])) p md od gm b w f g m x' y' := by
  have nt := nt_lst k.hp
  obtain ⟨dx, hb⟩ := k.bk.ins
  have h1 := k.hp
  have ne : ∀ {u : Addr} {o : HO}, H2 u = some o → (∀ l, o ≠ .lst l) → u ≠ p := fun e n z => by rw [z, h1] at e; exact n _ (Option.some.inj e).symm
  refine ⟨k.kp.put, upd_same, ok, ?_, fun o ho => sqT_upd nt (k.mt o ho), ⟨⟨dx, ?_⟩, ?_, ?_, fun o ho => sqT_upd nt (k.bk.tp o ho), k.bk.ne⟩, k.pm, k.nw⟩
  · rw [upd_ne (ne k.md (fun _ => by simp))]; exact k.md
  · rw [upd_ne (ne hb (fun _ => by simp))]; exact hb
  · rw [upd_ne (ne k.bk.wd (fun _ => by simp))]; exact k.bk.wd
  · rw [upd_ne (ne k.bk.fd (fun _ => by simp))]; exact k.bk.fd
theorem LB.setB {K : PySem.W.Frag} {C : Addr} {H H2 H4 : Hp} {p md q : Addr} {od : Obj} {gm : Str → Addr} {b w f : Addr} {g : Str → Addr} {m : Str → List Str} {x y : Int} {o : Str} {ws : List Str} (k : LB K C H H2 p md od gm b w f g m x y) (s : Same H2 H4) (hq : SqT K H4 q (ws.map V.str)) (hw : ws.Nodup ∧ ∀ z ∈ ws, z ∈ menu o) :
    LB K C H (upd H4 w (.dK (tab ops fun z => .ref (gput g o q z)))) p md od gm b w f (gput g o q) (mput m o ws) x y := by
  have k4 := k.same s
  have nt := nt_dK k4.bk.wd
  have wd := k4.bk.wd
  refine ⟨k4.kp.mut k.nw, ?_, k.ok, ?_, fun z hz => sqT_upd nt (k4.mt z hz), k.bk.setW s hq, fun z hz => ?_, k.nw⟩
  · rw [upd_ne (fun e => by have := k4.hp; rw [e, wd] at this; cases this)]; exact k4.hp
  · rw [upd_ne (fun e => by have := k4.md; rw [e, wd] at this; cases this)]; exact k4.md
  · unfold mput
    by_cases e : z = o
    · rw [if_pos e]; subst e; exact hw
    · rw [if_neg e]; exact k.pm z hz
section
variable {P : Program} {w : World} {K : PySem.W.Frag} {mg : Str → Option Value} {base : Heap}
abbrev sL_book : Stmt := top 83
abbrev nL_book : List Str := ["_law_pool_here", "_law_book_here", "_law_menus_here", "_law_operation", "_law_way", "_law_word"]
theorem scL_book : FnScope nL_book ["_law_pool_here"] (defScope sL_book) := ⟨rfl, rfl, rfl, by decide +kernel, rfl, by decide +kernel, by decide +kernel⟩
def spLBook5 (K : PySem.W.Frag) (C : Addr) : Sp := fun vs H Q _ => ∃ (p : Addr) (x y : Int), vs = [.ref p] ∧ H p = some (.lst [.int x, .int y]) ∧ PoolOk x y ∧
  ∀ b w f g m fl H' x' y', Keep p H H' → H' p = some (.lst [.int x', .int y']) → PoolOk x' y' → H b = none → H w = none → H f = none → Bk K C H' b w f g m fl → PM m → Q (.ref b) H'
theorem ok_lbook5 (T : Txt K mg) {C_Book CN CW CF pO pM pF : Addr} {gM : Str → Addr} (K_Book : BF K mg C_Book) (t : Tb K w mg pO pM pF gM) (I_Book : Ob.MkCal P w K mg base CX0 C_Book 1 "Book" (spBkInit C_Book gM)) (U_Book : Ob.GetCal P w K mg base (L2.CX P w) C_Book 4 "__setitem__" (spBkSet K C_Book CN CW))
    (M_Book_set_flag : Ob.MCal P w K mg base (L2.CX P w) C_Book 4 "set_flag" (spSetFlag K C_Book CN CF)) (CL_menus : CalG P w K mg base 1 "_law_menus" (spMenus K)) (CL_take : CalG P w K mg base 1 "_law_take" spTake) (D : DefAt K mg "_law_book" sL_book ["_law_pool_here"]) : CalG P w K mg base 5 "_law_book" (spLBook5 K C_Book) := by
  refine D.by scL_book (fun vs H Q E h => ?_) (fun fn cd A hg outer s H vs Q E hr h => ?_)
  · obtain ⟨_, _, _, rfl, _⟩ := h
    rfl
  · obtain ⟨p, x, y, rfl, hp, ok, q⟩ := h
    refine ⟨_, (pss_cons (ps_set (i := 1) scL_book.nd rfl (Or.inl rfl) (Ob.make0 I_Book hg hr (by decide) pass0))
  (pss_cons (ps_set (i := 2) scL_book.nd rfl (Or.inl rfl) (pe_cG0 CL_menus hg hr (by decide)))
  (pss_cons (ps_lock (ps_for (wi := iKeys _) PassesOwn.never rfl (pi_keys (pv 2)) (pg_name (i := 3) scL_book.nd rfl (Or.inl rfl))
  (pss_cons (ps_set (i := 4) scL_book.nd rfl (Or.inl rfl) (pe_cG CL_take hg hr (by decide) (pa_cons (pv 0) (pa_cons pe_int pa_nil))))
  (pss_one (ps_if (pt_cmpR op_eq (pv 4) pe_int (nomark _))
  (pss_one (ps_asg (Tr.pe_revT (pe_dget (one_ hr.units) (pv 2) (pv 3) (fun _ _ => rfl))) (pg_sub (pv 1) (pv 3) (Ob.setO U_Book hg hr (by decide) Ob.px0))))
  (pss_one (ps_if (pt_cmpR op_eq (pv 4) pe_int (nomark _))
  (pss_one (ps_asg (pe_slice (r := rSlA K) sl_tupA (pe_dget (one_ hr.units) (pv 2) (pv 3) (fun _ _ => rfl)) po_none (po_some pe_int)) (pg_sub (pv 1) (pv 3) (Ob.setO U_Book hg hr (by decide) Ob.px0))))
  (pss_one (ps_if (pt_cmpR op_eq (pv 4) pe_int (nomark _))
  (pss_one (ps_asg (pe_slice (r := rSlA K) sl_tupA (pe_dget (one_ hr.units) (pv 2) (pv 3) (fun _ _ => rfl)) (po_some pe_int) po_none) (pg_sub (pv 1) (pv 3) (Ob.setO U_Book hg hr (by decide) Ob.px0))))
  pss_nil)))))))))
  (pss_cons (ps_for (wi := iList K _) PassesOwn.never rfl (pi_list (pe_lst (pa_cons pe_str (pa_cons pe_str (pa_cons pe_str pa_nil))))) (pg_name (i := 5) scL_book.nd rfl (Or.inl rfl))
  (pss_one (ps_expr (Ob.meth (pv 1) K_Book.cl M_Book_set_flag hg hr (by decide) Ob.px0 (pa_cons (pv 5) (pa_cons (pe_cmpR op_gt (pe_cG CL_take hg hr (by decide) (pa_cons (pv 0) (pa_cons pe_int pa_nil))) pe_int (nomark _)) pa_nil))))))
  (pss_one (ps_ret (pv 1))))))), ?_⟩
    repeat walk_at "rd"
    refine mkBk (fun o ho => (t.tm o ho).2) fun b wb fb H1 s1 nb nw nf bk => ?_
    repeat walk_at "rd"
    refine ⟨rfl, fun md gm H2 mg2 => ?_⟩
    have s2 := s1.trans mg2.s
    have hmd : H md = none := Same.free s1 mg2.f
    have ntm := nt_dK mg2.d
    repeat walk_at "rd"
    refine forK (d := md) (l := ops) (F := fun o => .ref (gm o)) (fun od i σ1 H3 => ∃ z3 z4 g m x y, σ1 = [some (.ref p), some (.ref b), some (.ref md), z3, z4, none] ∧ LB K C_Book H H3 p md od gm b wb fb g m x y) (fun od R k => Rd.var rfl k) mg2.d
      (fun od => ?_) (fun od i σ1 H3 h => ?_) (fun od i hi σ1 H3 rt bk' h => ?_) (fun od σ1 H3 h => ?_)
    · have bk2 := bk.mono mg2.s
      refine ⟨none, none, gM, menu, x, y, rfl, ⟨(Keep.same s2).mut hmd, ?_, ok, upd_same, fun o ho => sqT_upd ntm (mg2.t o ho), bk2.chg chg1 (fun a ha => by rw [List.mem_singleton.mp ha]; exact ntm) ?_ ?_ ?_, fun o ho => ⟨(mem_menu_len o ho).1, fun _ h => h⟩, nw⟩⟩
      · rw [upd_ne (ne_of_none hp hmd)]; exact s2 _ _ hp
      · exact fun e => by obtain ⟨dx, hb⟩ := bk.ins; have := mg2.f; rw [← List.mem_singleton.mp e, hb] at this; cases this
      · exact fun e => by have h1 := bk.wd; have := mg2.f; rw [← List.mem_singleton.mp e, h1] at this; cases this
      · exact fun e => by have h1 := bk.fd; have := mg2.f; rw [← List.mem_singleton.mp e, h1] at this; cases this
    · obtain ⟨_, _, _, _, _, _, _, k⟩ := h
      exact k.md
    · obtain ⟨z3, z4, g, m, x1, y1, rfl, k⟩ := h
      have ho : ops[i] ∈ ops := List.getElem_mem hi
      generalize ops[i] = o at ho ⊢
      obtain ⟨nd, _⟩ := mem_menu_len _ ho
      repeat walk_at "rd"
      refine ⟨p, x1, y1, 8, rfl, k.hp, k.ok, by decide, by decide, fun r x2 y2 ok2 r0 r1 => ?_⟩
      have k2 := k.pool ok2
      generalize upd H3 p (.lst [.int x2, .int y2]) = H4 at k2 ⊢
      have mt4 := k2.mt o ho
      have done : ∀ H5 g5 m5, LB K C_Book H H5 p md od gm b wb fb g5 m5 x2 y2 → ∃ z3 z4 g m x y, [some (V.ref p), some (.ref b), some (.ref md), some (.str o), some (.int r), none] = [some (.ref p), some (.ref b), some (.ref md), z3, z4, none] ∧ LB K C_Book H H5 p md od gm b wb fb g m x y := fun H5 g5 m5 k5 => ⟨_, _, g5, m5, x2, y2, rfl, k5⟩
      obtain ⟨dx, hb⟩ := k2.bk.ins
      repeat walk_at "rd"
      refine Rd.dec (fun c => ?_) (fun c => ?_)
      · repeat walk_at "rd"
        refine ⟨md, _, rfl, .inl ⟨_, .inr o, .inr ⟨od, k2.md⟩, rfl, by rw [val_tab _ _ ho]⟩, ?_⟩
        refine ⟨gm o, _, rfl, mt4, fun t5 ht5 => ?_⟩
        have s5 := Rd.sNew (o := .tup ((menu o).map V.str).reverse) ht5
        have k5 := k2.same s5
        have tq : SqT K (upd H4 t5 (.tup ((menu o).map V.str).reverse)) t5 ((menu o).reverse.map V.str) := .inl (.inl (by rw [upd_same, List.map_reverse]))
        have nd5 : (menu o).reverse.Nodup := (List.reverse_perm _).nodup_iff.mpr nd
        have sb5 : ∀ z ∈ (menu o).reverse, z ∈ menu o := fun z h => List.mem_reverse.mp h
        repeat walk_at "rd"
        refine ⟨b, dx, _, rfl, s5 _ _ hb, bset k5.bk ho tq nd5 sb5 fun H6 s6 => ?_⟩
        exact done _ _ _ (k5.setB s6 (sqT_same s6 tq) ⟨nd5, sb5⟩)
      · repeat walk_at "rd"
        refine Rd.dec (fun c => ?_) (fun c => ?_)
        · repeat walk_at "rd"
          refine ⟨md, _, rfl, .inl ⟨_, .inr o, .inr ⟨od, k2.md⟩, rfl, by rw [val_tab _ _ ho]⟩, ?_⟩
          repeat walk_at "rd"
          refine cutGA mt4 fun t5 H5 s5 ht5 => ?_
          rw [cutS1] at ht5
          have k5 := k2.same s5
          have nd5 : ((menu o).take 1).Nodup := nd.sublist (List.take_sublist _ _)
          have sb5 : ∀ z ∈ (menu o).take 1, z ∈ menu o := fun z h => List.mem_of_mem_take h
          repeat walk_at "rd"
          refine ⟨b, dx, _, rfl, s5 _ _ hb, bset k5.bk ho ht5 nd5 sb5 fun H6 s6 => ?_⟩
          exact done _ _ _ (k5.setB s6 (sqT_same s6 ht5) ⟨nd5, sb5⟩)
        · repeat walk_at "rd"
          refine Rd.dec (fun c => ?_) (fun c => ?_)
          · repeat walk_at "rd"
            refine ⟨md, _, rfl, .inl ⟨_, .inr o, .inr ⟨od, k2.md⟩, rfl, by rw [val_tab _ _ ho]⟩, ?_⟩
            repeat walk_at "rd"
            refine cutGA mt4 fun t5 H5 s5 ht5 => ?_
            rw [cut_from1] at ht5
            have k5 := k2.same s5
            have nd5 : ((menu o).drop 1).Nodup := nd.sublist (List.drop_sublist _ _)
            have sb5 : ∀ z ∈ (menu o).drop 1, z ∈ menu o := fun z h => List.mem_of_mem_drop h
            repeat walk_at "rd"
            refine ⟨b, dx, _, rfl, s5 _ _ hb, bset k5.bk ho ht5 nd5 sb5 fun H6 s6 => ?_⟩
            exact done _ _ _ (k5.setB s6 (sqT_same s6 ht5) ⟨nd5, sb5⟩)
          · repeat walk_at "rd"
            exact done _ _ _ k2
    · obtain ⟨z3, z4, g, m, x1, y1, rfl, k⟩ := h
      have nt := nt_frz k.md
      have kmd := k.md
      have kp := k.kp.mut (o := .dK (tab ops fun o => .ref (gm o))) hmd
      have hp2 : upd H3 md (.dK (tab ops fun o => .ref (gm o))) p = some (.lst [.int x1, .int y1]) := by
        rw [upd_ne (ne_of_none hp hmd)]; exact k.hp
      have bk3 := k.bk.chg (H' := upd H3 md (.dK (tab ops fun o => .ref (gm o)))) (chg1 (a := md)) (fun a ha => by rw [List.mem_singleton.mp ha]; exact nt)
        (fun e => by obtain ⟨dx, hb⟩ := k.bk.ins; rw [List.mem_singleton.mp e, kmd] at hb; cases hb) (fun e => by have h1 := k.bk.wd; rw [List.mem_singleton.mp e, kmd] at h1; cases h1) (fun e => by have h1 := k.bk.fd; rw [List.mem_singleton.mp e, kmd] at h1; cases h1)
      have pm := k.pm
      have ok1 := k.ok
      clear k nt kmd
      generalize upd H3 md (.dK (tab ops fun o => .ref (gm o))) = H4 at kp hp2 bk3 ⊢
      repeat walk_at "rd"
      refine forLi ?_
      repeat walk_at "rd"
      refine ⟨Rd.sz (by simp), fun l hl => ?_⟩
      have s5 := Rd.sNew (o := .lst [.str "bars_hash", .str "ends_same", .str "ends_true"]) hl
      have l5 : upd H4 l (.lst [.str "bars_hash", .str "ends_same", .str "ends_true"]) l = some (.lst (flagsW.map V.str)) := upd_same
      have lp : l ≠ p := fun e => by rw [e, hp2] at hl; cases hl
      have kp5 := kp.trans (Keep.same s5)
      have hp5 := s5 _ _ hp2
      have bk5 := bk3.mono s5
      generalize upd H4 l (.lst [.str "bars_hash", .str "ends_same", .str "ends_true"]) = H5 at s5 l5 kp5 hp5 bk5 ⊢
      refine ⟨l, rfl, ⟨_, SqL.of l5⟩, ?_⟩
      refine for_list (K := K) (a := l) (xs := flagsW.map V.str) (fun i σ H' => ∃ (z5 : Option V) (fl' : Str → Bool) (x y : Int), σ = [some (.ref p), some (.ref b), some (.ref md), z3, z4, z5] ∧ Keep p H H' ∧ H' p = some (.lst [.int x, .int y]) ∧ PoolOk x y ∧ H' l = some (.lst (flagsW.map V.str)) ∧ Bk K C_Book H' b wb fb g m fl')
        ⟨none, _, x1, y1, rfl, kp5, hp5, ok1, l5, bk5⟩ (fun i σ H' _ ⟨_, _, _, _, _, _, _, _, h, _⟩ => SqL.of h) ?_ ?_
      · rintro i v σ H6 hv ⟨z5, fl6, x2, y2, rfl, kp6, hp6, ok6, l6, bk6⟩
        obtain ⟨hi, e⟩ := List.getElem?_eq_some_iff.mp hv
        rw [List.length_map] at hi
        rw [List.getElem_map] at e
        subst e
        have hf := List.getElem_mem hi
        generalize flagsW[i] = fw at hf ⊢
        obtain ⟨dx, hb⟩ := bk6.ins
        repeat walk_at "rd"
        refine ⟨b, dx, _, rfl, hb, rfl, ?_⟩
        repeat walk_at "rd"
        refine ⟨p, x2, y2, 3, rfl, hp6, ok6, by decide, by decide, fun r x3 y3 ok3 r0 r1 => ?_⟩
        have nt6 := nt_lst hp6
        have bk7 := bk6.chg (H' := upd H6 p (.lst [.int x3, .int y3])) (chg1 (a := p)) (fun a ha => by rw [List.mem_singleton.mp ha]; exact nt6)
          (fun e => by rw [List.mem_singleton.mp e, hp6] at hb; cases hb) (fun e => by have h1 := bk6.wd; rw [List.mem_singleton.mp e, hp6] at h1; cases h1) (fun e => by have h1 := bk6.fd; rw [List.mem_singleton.mp e, hp6] at h1; cases h1)
        have kp7 : Keep p H (upd H6 p (.lst [.int x3, .int y3])) := kp6.put
        have hp7 : upd H6 p (.lst [.int x3, .int y3]) p = some (.lst [.int x3, .int y3]) := upd_same
        have l7 : upd H6 p (.lst [.int x3, .int y3]) l = some (.lst (flagsW.map V.str)) := by rw [upd_ne lp]; exact l6
        generalize upd H6 p (.lst [.int x3, .int y3]) = H7 at bk7 kp7 hp7 l7 ⊢
        repeat walk_at "rd"
        refine bflag bk7 hf ?_
        have f7 := bk7.fd
        refine ⟨_, _, x3, y3, rfl, kp7.mut nf, ?_, ok3, ?_, bk7.setF⟩
        · rw [upd_ne (fun e => by rw [e, f7] at hp7; cases hp7)]; exact hp7
        · rw [upd_ne (fun e => by rw [e, f7] at l7; cases l7)]; exact l7
      · rintro σ H6 ⟨z5, fl6, x2, y2, rfl, kp6, hp6, ok6, l6, bk6⟩
        repeat walk_at "rd"
        exact q b wb fb g m fl6 H6 x2 y2 kp6 hp6 ok6 nb nw nf bk6 pm
end
end Ab
namespace Ab
open M6 PySem.Spec PyProof.Rows
local macro_rules | `(tactic| walk_at "rd") => `(tactic| (with_reducible first | refine Rd.tt_ ?_ | refine Rd.ff_ ?_ | refine Rd.sfld ?_ | refine Rd.dget ?_ | refine Rd.methR ?_ | refine Rd.propR ?_ | refine Rd.statR ?_ | refine Rd.getR ?_))
/-! ### the law's own entries -/
def keyZ (z : Sp3) : Nat × Str := (z.1, z.2.1)
def fullK : List (Nat × Str) := [0, 1, 2].flatMap fun i => methods.map fun m => (i, m)
theorem full_at : ∀ i < 3, ∀ j < 14, fullK[i * 14 + j]? = (methods[j]?).map fun m => (i, m) := by decide +kernel
theorem full_len : fullK.length = 42 := by decide +kernel
theorem full_ord : fullK.Pairwise fun a b => leP (b.1, b.2, "") (a.1, a.2, "") = false := by decide +kernel
theorem leP_key (a b : Sp3) : leP a b = leP (a.1, a.2.1, "") (b.1, b.2.1, "") := rfl
/-- made in the order of the places -/
def Made (n : Nat) (zs : List Sp3) : Prop := (zs.map keyZ).Sublist (fullK.take n) ∧ ∀ z ∈ zs, z.1 < 3 ∧ z.2.1 ∈ methods ∧ z.2.2 ∈ entW
theorem made_skip {n : Nat} {zs : List Sp3} (h : Made n zs) : Made (n + 1) zs := by
  refine ⟨h.1.trans ?_, h.2⟩
  have e : fullK.take n = (fullK.take (n + 1)).take n := by rw [List.take_take, Nat.min_eq_left (Nat.le_succ n)]
  rw [e]
  exact List.take_sublist _ _
theorem made_put {n : Nat} {zs : List Sp3} {z : Sp3} (h : Made n zs) (k : fullK[n]? = some (keyZ z)) (g : z.1 < 3 ∧ z.2.1 ∈ methods ∧ z.2.2 ∈ entW) : Made (n + 1) (zs ++ [z]) := by
  refine ⟨?_, fun y hy => ?_⟩
  · rw [List.map_append, List.take_add_one, k]
    exact h.1.append (List.Sublist.refl _)
  · rcases List.mem_append.mp hy with e | e
    · exact h.2 y e
    · rw [List.mem_singleton.mp e]; exact g
theorem made_len {n : Nat} {zs : List Sp3} (h : Made n zs) : zs.length ≤ 42 := by
  have a := h.1.length_le
  rw [List.length_map, List.length_take, full_len] at a
  omega
theorem zip_false : ∀ {zs : List Sp3}, (zs.Pairwise fun a b => leP b a = false) → unordered zs = false
  | [], _ => rfl
  | [_], _ => rfl
  | a :: b :: r, h => by
    have h2 : (b :: r).Pairwise fun a b => leP b a = false := (List.pairwise_cons.mp h).2
    have e := zip_false h2
    have f := (List.pairwise_cons.mp h).1 b List.mem_cons_self
    unfold unordered at e ⊢
    show (leP b a || _) = false
    rw [f]
    exact e
theorem made_ord {n : Nat} {zs : List Sp3} (h : Made n zs) : unordered zs = false := by
  refine zip_false ?_
  have p := (full_ord.sublist (List.take_sublist n fullK)).sublist h.1
  rw [List.pairwise_map] at p
  exact p
theorem sps_keep {K : PySem.W.Frag} {p : Addr} {H H' : Hp} (k : Keep p H H') (nt : NoTup H p) : ∀ {zs : List Sp3} {xs : List V}, SpsAt K H (zs.map some) xs → SpsAt K H' (zs.map some) xs
  | [], _, .nil => .nil
  | z :: zs, _, .cons h t => by
    obtain ⟨i, m, e⟩ := z
    obtain ⟨q, e1, h1, h2⟩ := (show ∃ p, _ = V.ref p ∧ SqT K H p [.int (i : Nat), .str m, .str e] ∧ i < 3 ∧ m ∈ methods ∧ e ∈ entW from h)
    exact .cons ⟨q, e1, sqT_keep k nt h1, h2⟩ (sps_keep k nt t)
theorem sps_snoc {K : PySem.W.Frag} {H : Hp} {os : List (Option Sp3)} {xs : List V} {o : Option Sp3} {x : V} (h : SpsAt K H os xs) (k : SpAt K H o x) : SpsAt K H (os ++ [o]) (xs ++ [x]) := pair_sn h k
/-- the entries in the making -/
structure ESt (K : PySem.W.Frag) (H H3 : Hp) (p l : Addr) (xs : List V) (zs : List Sp3) (x y : Int) (n : Nat) : Prop where
  kp : Keep p H H3
  hp : H3 p = some (.lst [.int x, .int y])
  ok : PoolOk x y
  ll : H3 l = some (.lst xs)
  sp : SpsAt K H3 (zs.map some) xs
  md : Made n zs
  nl : H l = none
  lp : l ≠ p
theorem ESt.same {K : PySem.W.Frag} {H H3 H4 : Hp} {p l : Addr} {xs : List V} {zs : List Sp3} {x y : Int} {n : Nat} (k : ESt K H H3 p l xs zs x y n) (s : Same H3 H4) : ESt K H H4 p l xs zs x y n :=
  ⟨k.kp.trans (Keep.same s), s _ _ k.hp, k.ok, s _ _ k.ll, k.sp.mono s, k.md, k.nl, k.lp⟩
theorem ESt.pool {K : PySem.W.Frag} {H H3 : Hp} {p l : Addr} {xs : List V} {zs : List Sp3} {x y x' y' : Int} {n : Nat} (k : ESt K H H3 p l xs zs x y n) (ok : PoolOk x' y') : ESt K H (upd H3 p (.lst [.int x', .int y'])) p l xs zs x' y' n :=
  ⟨k.kp.put, upd_same, ok, by rw [upd_ne k.lp]; exact k.ll, sps_keep (Keep.put fun _ _ _ e => e) (nt_lst k.hp) k.sp, k.md, k.nl, k.lp⟩
theorem ESt.next {K : PySem.W.Frag} {H H3 : Hp} {p l : Addr} {xs : List V} {zs : List Sp3} {x y : Int} {n : Nat} (k : ESt K H H3 p l xs zs x y n) : ESt K H H3 p l xs zs x y (n + 1) :=
  ⟨k.kp, k.hp, k.ok, k.ll, k.sp, made_skip k.md, k.nl, k.lp⟩
theorem ESt.add {K : PySem.W.Frag} {H H3 : Hp} {p l t : Addr} {xs : List V} {zs : List Sp3} {x y : Int} {n i : Nat} {m e : Str} (k : ESt K H H3 p l xs zs x y n) (ht : H3 t = some (.tup [.int (i : Nat), .str m, .str e])) (kk : fullK[n]? = some (i, m)) (g : i < 3 ∧ m ∈ methods ∧ e ∈ entW) :
    ESt K H (upd H3 l (.lst (xs ++ [.ref t]))) p l (xs ++ [.ref t]) (zs ++ [(i, m, e)]) x y (n + 1) := by
  have tl : t ≠ l := fun z => by rw [z, k.ll] at ht; cases ht
  refine ⟨k.kp.mut k.nl, by rw [upd_ne (Ne.symm k.lp)]; exact k.hp, k.ok, upd_same, ?_, made_put k.md kk g, k.nl, k.lp⟩
  rw [List.map_append]
  exact sps_snoc (sps_keep (Keep.put fun _ _ _ e => e) (nt_lst k.ll) k.sp) ⟨t, rfl, .inl (.inl (by rw [upd_ne tl]; exact ht)), g⟩
section
variable {P : Program} {w : World} {K : PySem.W.Frag} {mg : Str → Option Value} {base : Heap}
abbrev sL_methods : Stmt := top 84
abbrev nL_methods : List Str := ["_law_found"]
theorem scL_methods : FnScope nL_methods [] (defScope sL_methods) := ⟨rfl, rfl, rfl, by decide +kernel, rfl, by decide +kernel, by decide +kernel⟩
def spMethods : Sp := fun vs H Q _ => vs = [] ∧ ∀ l H', Same H H' → H l = none → H' l = some (.lst (methods.map V.str)) → Q (.ref l) H'
theorem ok_methods (D : DefAt K mg "_law_methods" sL_methods []) : CalG P w K mg base 1 "_law_methods" spMethods := by
  refine D.by scL_methods (fun vs H Q E h => ?_) (fun f cd A hg outer s H vs Q E hr h => ?_)
  · rw [h.1]; rfl
  · obtain ⟨rfl, q⟩ := h
    refine ⟨_, (pss_cons (ps_set (i := 0) scL_methods.nd rfl (Or.inl rfl) (pe_lst (pa_cons pe_str (pa_cons pe_str (pa_cons pe_str (pa_cons pe_str (pa_cons pe_str (pa_cons pe_str (pa_cons pe_str (pa_cons pe_str (pa_cons pe_str pa_nil)))))))))))
  (pss_one (ps_ret (pe_op op_cat (pv 0) (pe_lst (pa_cons pe_str (pa_cons pe_str (pa_cons pe_str (pa_cons pe_str (pa_cons pe_str pa_nil)))))))))), ?_⟩
    repeat walk_at "rd"
    refine ⟨Rd.sz (by simp), fun a ha => ?_⟩
    have s1 := Rd.sNew (o := .lst [.str "truth", .str "length", .str "item", .str "walk", .str "back", .str "has", .str "like", .str "unlike", .str "before"]) ha
    repeat walk_at "rd"
    refine ⟨Rd.sz (by simp), fun b hb => ?_⟩
    have ab : a ≠ b := fun e => by rw [← e, upd_same] at hb; cases hb
    refine ⟨a, b, _, _, rfl, rfl, by rw [upd_ne ab, upd_same], by rw [upd_same], Nat.le_of_lt (Rd.szl (by decide)), fun l hl => ?_⟩
    have s2 := s1.trans (Rd.sNew (o := .lst [.str "behind", .str "hash", .str "grow", .str "plus", .str "call"]) hb)
    exact q l _ (s2.trans (Rd.sNew hl)) (Same.free s2 hl) (by rw [upd_same]; rfl)
abbrev sL_entries : Stmt := top 85
abbrev nL_entries : List Str := ["_law_pool_here", "_law_found", "_law_thin", "_law_operand", "_law_method"]
theorem scL_entries : FnScope nL_entries ["_law_pool_here"] (defScope sL_entries) := ⟨rfl, rfl, rfl, by decide +kernel, rfl, by decide +kernel, by decide +kernel⟩
def spEntries (K : PySem.W.Frag) : Sp := fun vs H Q _ => ∃ (p : Addr) (x y : Int), vs = [.ref p] ∧ H p = some (.lst [.int x, .int y]) ∧ PoolOk x y ∧
  ∀ l xs zs H' x' y', Keep p H H' → H' p = some (.lst [.int x', .int y']) → PoolOk x' y' → H l = none → H' l = some (.lst xs) → SpsAt K H' (zs.map some) xs → Made 42 zs → Q (.ref l) H'
theorem ok_entries (T : Txt K mg) (D : DefAt K mg "_law_entries" sL_entries ["_law_pool_here"]) (CL_methods : CalG P w K mg base 1 "_law_methods" spMethods) (CL_take : CalG P w K mg base 1 "_law_take" spTake) (CL_one : CalG P w K mg base 2 "_law_one" (spOne K)) : CalG P w K mg base 3 "_law_entries" (spEntries K) := by
  refine D.by scL_entries (fun vs H Q E h => ?_) (fun f cd A hg outer s H vs Q E hr h => ?_)
  · obtain ⟨_, _, _, rfl, _⟩ := h
    rfl
  · obtain ⟨p, x, y, rfl, hp, ok, q⟩ := h
    refine ⟨_, (pss_cons (ps_set (i := 1) scL_entries.nd rfl (Or.inl rfl) (pe_lst pa_nil))
  (pss_cons (ps_set (i := 2) scL_entries.nd rfl (Or.inl rfl) (pe_cG CL_one hg hr (by decide) (pa_cons (pv 0) (pa_cons (pe_lst (pa_cons pe_int (pa_cons pe_int (pa_cons pe_int pa_nil)))) pa_nil))))
  (pss_cons (ps_for PassesOwn.never rfl (pi_range1 (by rfl) T.range (pa_cons pe_int pa_nil)) (pg_name (i := 3) scL_entries.nd rfl (Or.inl rfl))
  (pss_one (ps_for (wi := iList K _) PassesOwn.never rfl (pi_list (pe_cG0 CL_methods hg hr (by decide))) (pg_name (i := 4) scL_entries.nd rfl (Or.inl rfl))
  (pss_one (ps_if (pt_cmpR op_eq (pe_cG CL_take hg hr (by decide) (pa_cons (pv 0) (pa_cons (pv 2) pa_nil))) pe_int (nomark _))
  (pss_one (ps_expr (pe_bm PySem.F.plainAttrs_list PySem.F.slot_list_append PySem.F.type_list_append mt_append (pv 1) (pa_cons (pe_tup (pa_cons (pv 3) (pa_cons (pv 4) (pa_cons (pe_cG CL_one hg hr (by decide) (pa_cons (pv 0) (pa_cons (pe_lst (pa_cons pe_str (pa_cons pe_str pa_nil))) pa_nil))) pa_nil)))) pa_nil))))
  pss_nil)))))
  (pss_one (ps_ret (pv 1)))))), ?_⟩
    repeat walk_at "rd"
    refine ⟨Rd.sz (by simp), fun l hl => ?_⟩
    have s1 := Rd.sNew (o := .lst []) hl
    have l1 : upd H l (.lst []) l = some (.lst []) := upd_same
    have hp1 := s1 _ _ hp
    generalize upd H l (.lst []) = H1 at s1 l1 hp1 ⊢
    repeat walk_at "rd"
    refine ⟨Rd.sz (by simp), fun c hc => ?_⟩
    have s2 := Rd.sNew (o := .lst [.int 2, .int 6, .int 20]) hc
    have cp : c ≠ p := fun e => by rw [e, hp1] at hc; cases hc
    have cl : l ≠ c := ne_of_none l1 hc
    refine ⟨p, c, x, y, _, rfl, s2 _ _ hp1, SqL.of upd_same, fun o => SqL.of (by rw [upd_ne cp]; exact upd_same), ok, by decide, by decide, fun v x2 y2 hv ok2 => ?_⟩
    obtain ⟨th, rfl, t0, t1⟩ : ∃ i : Int, v = .int i ∧ 0 < i ∧ i < 100000 := by
      simp only [List.mem_cons, List.not_mem_nil, or_false] at hv
      rcases hv with rfl | rfl | rfl <;> exact ⟨_, rfl, by decide, by decide⟩
    have kp2 : Keep p H (upd (upd H1 c (.lst [.int 2, .int 6, .int 20])) p (.lst [.int x2, .int y2])) := (Keep.same (s1.trans s2)).put
    have hp2 : upd (upd H1 c (.lst [.int 2, .int 6, .int 20])) p (.lst [.int x2, .int y2]) p = some (.lst [.int x2, .int y2]) := upd_same
    have lp : l ≠ p := fun e => by rw [e, hp] at hl; cases hl
    have l2 : upd (upd H1 c (.lst [.int 2, .int 6, .int 20])) p (.lst [.int x2, .int y2]) l = some (.lst []) := by rw [upd_ne lp, upd_ne cl]; exact l1
    generalize upd (upd H1 c (.lst [.int 2, .int 6, .int 20])) p (.lst [.int x2, .int y2]) = H2 at kp2 hp2 l2 ⊢
    repeat walk_at "rd"
    refine Rd.rng (by decide) (by decide) ?_
    refine Rd.forGo (fun i σ H3 => ∃ (z3 z4 : Option V) (xs : List V) (zs : List Sp3) (x y : Int), σ = [some (.ref p), some (.ref l), some (.int th), z3, z4] ∧ ESt K H H3 p l xs zs x y (i * 14)) ⟨none, none, [], [], x2, y2, rfl, ⟨kp2, hp2, ok2, l2, .nil, ⟨List.nil_sublist _, fun _ h => (nomatch h)⟩, hl, lp⟩⟩ ?_ ?_
    · rintro i σ H3 hi ⟨z3, z4, xs, zs, x3, y3, rfl, k⟩
      have hi : i < 3 := hi
      repeat walk_at "rd"
      refine forLi ?_
      repeat walk_at "rd"
      refine ⟨rfl, fun ml H4 s4 nm hm => ?_⟩
      refine ⟨ml, rfl, ⟨_, SqL.of hm⟩, ?_⟩
      have mp : ml ≠ p := fun e => by rw [e, k.hp] at nm; cases nm
      have mll : ml ≠ l := fun e => by rw [e, k.ll] at nm; cases nm
      refine for_list (K := K) (a := ml) (xs := methods.map V.str) (fun j σ H' => ∃ (z4 : Option V) (xs : List V) (zs : List Sp3) (x y : Int), σ = [some (.ref p), some (.ref l), some (.int th), some (.int (i : Nat)), z4] ∧ ESt K H H' p l xs zs x y (i * 14 + j) ∧ H' ml = some (.lst (methods.map V.str))) ⟨z4, xs, zs, x3, y3, rfl, k.same s4, hm⟩ (fun _ _ _ _ ⟨_, _, _, _, _, _, _, h⟩ => SqL.of h) ?_ ?_
      · rintro j v σ H5 hv ⟨z4, xs, zs, x5, y5, rfl, k5, hm5⟩
        obtain ⟨hj, e⟩ := List.getElem?_eq_some_iff.mp hv
        rw [List.length_map] at hj
        rw [List.getElem_map] at e
        subst e
        have hj14 : j < 14 := hj
        have hme := List.getElem_mem hj
        have kk : fullK[i * 14 + j]? = some (i, methods[j]) := by rw [full_at i hi j hj14, List.getElem?_eq_getElem hj]; rfl
        generalize methods[j] = me at hme kk ⊢
        repeat walk_at "rd"
        refine ⟨p, x5, y5, th, rfl, k5.hp, k5.ok, t0, t1, fun r x6 y6 ok6 r0 r1 => ?_⟩
        have k6 := k5.pool ok6
        have hm6 : upd H5 p (.lst [.int x6, .int y6]) ml = some (.lst (methods.map V.str)) := by rw [upd_ne mp]; exact hm5
        generalize upd H5 p (.lst [.int x6, .int y6]) = H6 at k6 hm6 ⊢
        repeat walk_at "rd"
        refine Rd.dec (fun _ => ?_) (fun _ => ?_)
        · repeat walk_at "rd"
          refine ⟨Rd.ty_list k6.ll, ?_⟩
          repeat walk_at "rd"
          refine ⟨Rd.sz (by simp), fun c2 hc2 => ?_⟩
          have s7 := Rd.sNew (o := .lst [.str "native", .str "blocked"]) hc2
          have c2p : c2 ≠ p := fun e => by rw [e, k6.hp] at hc2; cases hc2
          have k7 := k6.same s7
          have hm7 := s7 _ _ hm6
          refine ⟨p, c2, x6, y6, _, rfl, k7.hp, SqL.of upd_same, fun o => SqL.of (by rw [upd_ne c2p]; exact upd_same), k7.ok, by decide, by decide, fun v x8 y8 hv ok8 => ?_⟩
          obtain ⟨ew, rfl, he⟩ : ∃ e : Str, v = .str e ∧ e ∈ entW := by
            simp only [List.mem_cons, List.not_mem_nil, or_false] at hv
            rcases hv with rfl | rfl <;> exact ⟨_, rfl, by decide⟩
          have k8 := k7.pool ok8
          have hm8 : upd (upd H6 c2 (.lst [.str "native", .str "blocked"])) p (.lst [.int x8, .int y8]) ml = some (.lst (methods.map V.str)) := by rw [upd_ne mp]; exact hm7
          generalize upd (upd H6 c2 (.lst [.str "native", .str "blocked"])) p (.lst [.int x8, .int y8]) = H8 at k8 hm8 ⊢
          refine ⟨Rd.sz (by simp), fun t ht => ?_⟩
          have s9 := Rd.sNew (o := .tup [.int (i : Nat), .str me, .str ew]) ht
          have k9 := k8.same s9
          have hm9 := s9 _ _ hm8
          have ht9 : upd H8 t (.tup [.int (i : Nat), .str me, .str ew]) t = some (.tup [.int (i : Nat), .str me, .str ew]) := upd_same
          generalize upd H8 t (.tup [.int (i : Nat), .str me, .str ew]) = H9 at k9 hm9 ht9 ⊢
          have lx : xs.length ≤ 42 := by
            have h1 := pair_len' k9.sp
            rw [List.length_map] at h1
            have := made_len k9.md
            omega
          repeat walk_at "rd"
          refine Rd.app k9.ll (Rd.szl (by omega)) ?_
          exact ⟨_, _, _, x8, y8, rfl, k9.add ht9 kk ⟨hi, hme, he⟩, by rw [upd_ne mll]; exact hm9⟩
        · repeat walk_at "rd"
          exact ⟨_, xs, zs, x6, y6, rfl, k6.next, hm6⟩
      · rintro σ H5 ⟨z4, xs, zs, x5, y5, rfl, k5, hm5⟩
        rw [List.length_map] at k5
        have e14 : i * 14 + methods.length = (i + 1) * 14 := by show i * 14 + 14 = _; omega
        rw [e14] at k5
        exact ⟨_, _, xs, zs, x5, y5, rfl, k5⟩
    · rintro σ H3 ⟨z3, z4, xs, zs, x3, y3, rfl, k⟩
      repeat walk_at "rd"
      exact q l xs zs H3 x3 y3 k.kp k.hp k.ok hl k.ll k.sp k.md
end
end Ab
namespace Ab
open M6 PySem.Spec PyProof.Rows
local macro_rules | `(tactic| walk_at "rd") => `(tactic| (with_reducible first | refine Rd.tt_ ?_ | refine Rd.ff_ ?_ | refine Rd.sfld ?_ | refine Rd.dget ?_ | refine Rd.methR ?_ | refine Rd.propR ?_ | refine Rd.statR ?_ | refine Rd.getR ?_))
/-- the table, where a new object is seen as one that was there -/
theorem TbAt.raise {K : PySem.W.Frag} {CT CB CK : Addr} {H H2 : Hp} {t n : Addr} {a : TA} {s : Tt} {c : Nat} {o : HO} (h : TbAt K CT CB CK H H2 t a s c) (hn : H2 n = none) : TbAt K CT CB CK (upd H n o) (upd H2 n o) t a s c := by
  have m := h.mono (Rd.sNew (o := o) hn)
  obtain ⟨dx, ht⟩ := h.ins
  have up : ∀ {x : Addr} {u : HO}, H2 x = some u → H x = none → upd H n o x = none := fun e z => by rw [upd_ne (ne_of_none e hn)]; exact z
  exact { m with new := ⟨up ht h.new.1, up h.nm h.new.2.1, up h.od h.new.2.2.1, up h.en h.new.2.2.2.1, fun k hk => let ⟨_, e, _⟩ := h.ee k hk; up e (h.new.2.2.2.2 k hk)⟩ }
section
variable {P : Program} {w : World} {K : PySem.W.Frag} {mg : Str → Option Value} {base : Heap}
abbrev sL_laid : Stmt := top 86
abbrev nL_laid : List Str := ["_law_entries_here", "_law_book_here", "_law_table", "_law_name", "_law_operand", "_law_method", "_law_entry"]
theorem scL_laid : FnScope nL_laid ["_law_entries_here", "_law_book_here"] (defScope sL_laid) := ⟨rfl, rfl, rfl, by decide +kernel, rfl, by decide +kernel, by decide +kernel⟩
def spLaid (K : PySem.W.Frag) (CS CT CB CK : Addr) : Sp := fun vs H Q _ => ∃ (p b w f : Addr) (g : Str → Addr) (m : Str → List Str) (fl : Str → Bool) (xs : List V) (zs : List Sp3), vs = [.ref p, .ref b] ∧ SqL K H p xs ∧ xs.length ≤ 200 ∧ SpsAt K H (zs.map some) xs ∧ Bk K CK H b w f g m fl ∧ NewSc K CS CT CB CK (laid zs m fl) zs.length Q H
theorem ok_laid (T : Txt K mg) {CS C_Table CB C_Book C_NoBook : Addr} (K_Table : TF K mg C_Table)
    (I_Table : Ob.MkCal P w K mg base (L2.CX P w) C_Table 4 "Table" (spTInit K C_Table CB C_Book C_NoBook)) (M_Table_add : Sm.MCalS P w K mg base CX0 C_Table 13 "add" (Sm.spStar 2 (spAdd K C_Table CB C_Book))) (U_Table : Ob.GetCal P w K mg base CX0 C_Table 4 "__setitem__" (spTSet K C_Table CB C_Book)) (I_Scene : Ob.MkCal P w K mg base CX0 CS 7 "Scene" (spSInit K CS C_Table CB C_Book))
    (D : DefAt K mg "_law_laid" sL_laid ["_law_entries_here", "_law_book_here"]) : CalG P w K mg base 15 "_law_laid" (spLaid K CS C_Table CB C_Book) := by
  refine D.by scL_laid (fun vs H Q E h => ?_) (fun fn cd A hg outer s H vs Q E hr h => ?_)
  · obtain ⟨_, _, _, _, _, _, _, _, _, rfl, _⟩ := h
    rfl
  · obtain ⟨p, b, w0, f0, g, m, fl, xs, zs, rfl, hp, hl, pr, bk, q⟩ := h
    refine ⟨_, (pss_cons (ps_set (i := 2) scL_laid.nd rfl (Or.inl rfl) (Ob.make I_Table hg hr (by decide) Ob.px0 (pa_cons (pv 1) pa_nil)))
  (pss_cons (ps_for (wi := iList K _) PassesOwn.never rfl (pi_list (pe_lst (pa_cons pe_str (pa_cons pe_str (pa_cons pe_str pa_nil))))) (pg_name (i := 3) scL_laid.nd rfl (Or.inl rfl))
  (pss_one (ps_expr (Sm.methS (pv 2) K_Table.cl M_Table_add hg hr (by decide) pass0 (pa_cons (pv 3) pa_nil)))))
  (pss_cons (ps_for (wi := iList K _) PassesOwn.never rfl (pi_list (pv 0)) (pg_tup (by rfl) (pgs_cons (pg_name (i := 4) scL_laid.nd rfl (Or.inl rfl)) (pgs_cons (pg_name (i := 5) scL_laid.nd rfl (Or.inl rfl)) (pgs_cons (pg_name (i := 6) scL_laid.nd rfl (Or.inl rfl)) pgs_nil))))
  (pss_one (ps_asg (pv 6) (pg_sub (pv 2) (pe_tup (pa_cons (pe_ix (r := rIxL K) ix_list (pe_lst (pa_cons pe_str (pa_cons pe_str (pa_cons pe_str pa_nil)))) (pv 4) (fun _ _ => rfl)) (pa_cons (pv 5) pa_nil))) (Ob.setO U_Table hg hr (by decide) pass0)))))
  (pss_one (ps_ret (Ob.make I_Scene hg hr (by decide) pass0 (pa_cons (pv 2) (pa_cons pe_str (pa_cons pe_str (pa_cons pe_str pa_nil)))))))))), ?_⟩
    repeat walk_at "rd"
    refine Rd.makeR ?_
    repeat walk_at "rd"
    refine mkTb (CNB := C_NoBook) bk fun t ta H2 s2 tb => ?_
    repeat walk_at "rd"
    refine forLi ?_
    repeat walk_at "rd"
    refine ⟨Rd.sz (by simp), fun nl hnl => ?_⟩
    have nlH : H nl = none := Same.free s2 hnl
    have sB : Same H (upd H nl (.lst [.str "left", .str "right", .str "item"])) := Rd.sNew nlH
    have hnB : upd H nl (.lst [.str "left", .str "right", .str "item"]) nl = some (.lst (names3.map V.str)) := upd_same
    have sa : Same (upd H nl (.lst [.str "left", .str "right", .str "item"])) (upd H2 nl (.lst [.str "left", .str "right", .str "item"])) := Rd.sUpd s2
    have tb1 := tb.raise (o := .lst [.str "left", .str "right", .str "item"]) hnl
    generalize upd H2 nl (.lst [.str "left", .str "right", .str "item"]) = Ha at tb1 sa ⊢
    generalize upd H nl (.lst [.str "left", .str "right", .str "item"]) = B at tb1 sa sB hnB
    refine ⟨nl, rfl, ⟨_, SqL.of (sa _ _ hnB)⟩, ?_⟩
    refine for_list (K := K) (a := nl) (xs := names3.map V.str) (fun i σ H' => ∃ (v3 : Option V) (ta' : TA), σ = [some (.ref p), some (.ref b), some (.ref t), v3, none, none, none] ∧ Same B H' ∧ TbAt K C_Table CB C_Book B H' t ta' (addAll (names3.take i) (tt0 m fl)) 0) ⟨none, ta, rfl, sa, tb1⟩ (fun _ _ _ _ ⟨_, _, _, s, _⟩ => SqL.of (s _ _ hnB)) ?_ ?_
    · rintro i v σ H3 hv ⟨v3, ta', rfl, s3, tb3⟩
      obtain ⟨hi, e⟩ := List.getElem?_eq_some_iff.mp hv
      rw [List.length_map] at hi
      rw [List.getElem_map] at e
      subst e
      obtain ⟨dx, ht⟩ := tb3.ins
      have et : names3.take (i + 1) = names3.take i ++ [names3[i]] := by rw [List.take_add_one, List.getElem?_eq_getElem hi]; rfl
      have nx : names3[i] ∉ names3.take i := fun mm => by
        obtain ⟨k, hk, e⟩ := List.mem_iff_getElem.mp mm
        rw [List.getElem_take] at e
        rw [List.length_take] at hk
        have := (List.getElem_inj names3_nd).mp e
        omega
      repeat walk_at "rd"
      refine ⟨t, dx, _, rfl, ht, rfl, ?_⟩
      repeat walk_at "rd"
      refine add0 tb3 s3 (plain_all m fl (names3.take i)) (names3_ok _ (List.getElem_mem hi)) nx (by rw [List.length_take]; exact Nat.lt_of_le_of_lt (Nat.min_le_right _ _) (by decide)) fun ta4 H4 s4 tb4 => ?_
      exact ⟨_, ta4, rfl, s4, by rw [et, addAll_snoc]; exact tb4⟩
    · rintro σ H3 ⟨v3, ta', rfl, s3, tb3⟩
      have e3 : addAll (names3.take (names3.map V.str).length) (tt0 m fl) = laid [] m fl := by rw [List.length_map, List.take_length]; rfl
      rw [e3] at tb3
      have prs := pair_some pr
      have lz : zs.length = xs.length := Rd.pair_len prs
      repeat walk_at "rd"
      refine forLi ?_
      repeat walk_at "rd"
      refine ⟨p, rfl, ⟨_, (sB.trans s3).seq hp⟩, ?_⟩
      refine for_list (K := K) (a := p) (xs := xs) (fun i σ H' => ∃ (v3 v4 v5 v6 : Option V) (ta' : TA), σ = [some (.ref p), some (.ref b), some (.ref t), v3, v4, v5, v6] ∧ Same B H' ∧ TbAt K C_Table CB C_Book B H' t ta' (laid (zs.take i) m fl) i) ⟨v3, none, none, none, ta', rfl, s3, tb3⟩ (fun i σ H' _ ⟨_, _, _, _, _, _, s, _⟩ => (sB.trans s).seq hp) ?_ ?_
      · rintro i v σ H4 hv ⟨v3, v4, v5, v6, ta', rfl, s4, tb4⟩
        obtain ⟨⟨ci, mm, ee⟩, hz, pp, rfl, hpp, hci, hmm, hee⟩ : ∃ z : Sp3, zs[i]? = some z ∧ ∃ pp, v = .ref pp ∧ SqT K H pp [.int (z.1 : Nat), .str z.2.1, .str z.2.2] ∧ z.1 < 3 ∧ z.2.1 ∈ methods ∧ z.2.2 ∈ entW := by
          obtain ⟨z, h1, h2⟩ := pair_nth prs hv
          exact ⟨z, h1, h2⟩
        have hi : i < xs.length := (List.getElem?_eq_some_iff.mp hv).1
        obtain ⟨dx, ht⟩ := tb4.ins
        repeat walk_at "rd"
        refine ⟨pp, _, rfl, sqT_same (sB.trans s4) hpp, rfl, ?_⟩
        repeat walk_at "rd"
        refine ⟨Rd.sz (by simp), fun n2 hn2 => ?_⟩
        have s5 := Rd.sNew (o := .lst [.str "left", .str "right", .str "item"]) hn2
        have hn5 : SqL K (upd H4 n2 (.lst [.str "left", .str "right", .str "item"])) n2 (names3.map V.str) := SqL.of upd_same
        generalize upd H4 n2 (.lst [.str "left", .str "right", .str "item"]) = H5 at s5 hn5 ⊢
        repeat walk_at "rd"
        refine Rd.ixL hn5 (cls_in ci hci).2 ?_
        repeat walk_at "rd"
        refine ⟨Rd.sz (by simp), fun pk hpk => ?_⟩
        have s6 := s5.trans (Rd.sNew (o := .tup [V.str (clsAt ci), .str mm]) hpk)
        refine ⟨t, dx, _, rfl, s6 _ _ ht, B, t, ta', _, i, pk, clsAt ci, mm, .str ee, some (.w ee), rfl, tb4.mono s6, s4.trans s6, by omega, .inl (.inl upd_same), by rw [laid_names]; exact (cls_in ci hci).1, hmm, .inr ⟨_, rfl, rfl, hee⟩, fun H7 s7 tb7 => ?_⟩
        refine ⟨_, _, _, _, ta', rfl, s7, ?_⟩
        have et : zs.take (i + 1) = zs.take i ++ [(ci, mm, ee)] := by rw [List.take_add_one, hz]; rfl
        rw [et, laid_snoc]
        exact tb7
      · rintro σ H4 ⟨v3, v4, v5, v6, ta', rfl, s4, tb4⟩
        rw [← lz, List.take_length] at tb4
        have nn := laid_names zs m fl
        repeat walk_at "rd"
        refine Rd.makeR ?_
        repeat walk_at "rd"
        refine mkSc (n0 := "left") (n1 := "right") (n2 := "item") tb4 (by rw [nn]; exact names3_nd) (by rw [nn]; decide) (by rw [nn]; decide) (by rw [nn]; decide) (by rw [nn]; decide) fun x pp t2 ta2 H5 s5 sc => ?_
        exact q x pp t2 ta2 H5 ((sB.trans s4).trans s5) ⟨sc.ins, sc.nm, sc.tb.lower (sB.trans s4)⟩
end
end Ab
namespace Rd
open PySem.Spec PyProof.Rows
theorem xf {a C : Addr} {cls : Value} {d : Option Addr} {f : Str} {te : TE} {σ : L2.St} {H : Hp} {Q : VK} (k : te σ H fun x H1 => x = .ref a ∧ cls = .ref C ∧ ∃ (dd : Addr) (fs : List (Str × V)) (v : V), d = some dd ∧ H1 dd = some (.xd fs) ∧ fs.lookup f = some v ∧ Q v H1) : tXf a cls d C f te σ H Q := k
end Rd
namespace Ab
open M6 PySem.Spec PyProof.Rows
local macro_rules | `(tactic| walk_at "rd") => `(tactic| (with_reducible first | refine Rd.tt_ ?_ | refine Rd.ff_ ?_ | refine Rd.sfld ?_ | refine Rd.dget ?_ | refine Rd.methR ?_ | refine Rd.propR ?_ | refine Rd.statR ?_ | refine Rd.getR ?_ | refine Rd.xf ?_))
theorem callS {sp : Sp} {E : L2.St → XK} {t : L2.TA} {σ : L2.St} {H : Hp} {Q : VK} (k : t σ H fun vs H1 => sp vs H1 Q (E σ)) : tCallS sp E t σ H Q := k
section
variable {P : Program} {w : World} {K : PySem.W.Frag} {mg : Str → Option Value} {base : Heap}
abbrev sL_refused : Stmt := top 87
abbrev nL_refused : List Str := ["_law_entries_here", "_law_book_here", "e"]
theorem scL_refused : FnScope nL_refused ["_law_entries_here", "_law_book_here"] (defScope sL_refused) := ⟨rfl, rfl, rfl, by decide +kernel, rfl, by decide +kernel, by decide +kernel⟩
def BadE (K : PySem.W.Frag) (H : Hp) (v : V) : Prop := (∃ tn, TyX K H v (.type tn) ∧ kitB tn "list" = some false) ∨ ∃ p xs os, v = .ref p ∧ SqL K H p xs ∧ xs.length ≤ 200 ∧ SpsAt K H os xs ∧ (os.all Option.isSome = false ∨ ∃ zs : List Sp3, os = zs.map some ∧ unordered zs = true)
def BadB (K : PySem.W.Frag) (CK : Addr) (H : Hp) (v y : V) : Prop := ∃ p xs, ∃ zs : List Sp3, v = .ref p ∧ SqL K H p xs ∧ xs.length ≤ 200 ∧ SpsAt K H (zs.map some) xs ∧ unordered zs = false ∧ ∃ ty, (∀ H', Same H H' → TyX K H' y ty) ∧ PySem.W.kitOne K ty (.ref CK) = some false
/-- the kinds of the two errors -/
structure Err2 (K : PySem.W.Frag) (CA CE CB : Addr) : Prop where
  aE : PySem.W.kitOne K (.ref CE) (.ref CA) = some true
  aB : PySem.W.kitOne K (.ref CB) (.ref CA) = some true
  eB : PySem.W.kitOne K (.ref CE) (.ref CB) = some false
  bE : PySem.W.kitOne K (.ref CB) (.ref CE) = some false
  bEx : PySem.W.exmOne K (.ref CB) (.ref CE) = some false
def spRef (K : PySem.W.Frag) (CK : Addr) : Sp := fun vs H Q _ => ∃ v y : V, vs = [v, y] ∧
  ((BadE K H v ∧ ∀ l H', Same H H' → H' l = some (.lst [.str "entry", .non, .bl true, .bl false]) → Q (.ref l) H') ∨
    (BadB K CK H v y ∧ ∀ l H', Same H H' → H' l = some (.lst [.str "book", y, .bl true, .bl false]) → Q (.ref l) H'))
theorem ok_refused (T : Txt K mg) {CS CT CB CK C_AnswerError C_NoEntry C_NoBook : Addr} (R : Err2 K C_AnswerError C_NoEntry C_NoBook) (T_NoEntry : Ex.ErrC K mg "NoEntry" "method" C_NoEntry) (T_NoBook : Ex.ErrC K mg "NoBook" "value" C_NoBook) (G_AnswerError : mg "AnswerError" = some (.ref C_AnswerError)) (G_NoEntry : mg "NoEntry" = some (.ref C_NoEntry)) (G_NoBook : mg "NoBook" = some (.ref C_NoBook))
    (CSpread : Ex.CalX P w K mg base 16 "spread" (spSpread K CS CT CB CK C_NoEntry C_NoBook)) (D : DefAt K mg "_law_refused" sL_refused ["_law_entries_here", "_law_book_here"]) : CalG P w K mg base 17 "_law_refused" (spRef K CK) := by
  refine D.by scL_refused (fun vs H Q E h => ?_) (fun f cd A hg outer s H vs Q E hr h => ?_)
  · obtain ⟨_, _, rfl, _⟩ := h
    rfl
  · obtain ⟨v, y, rfl, h⟩ := h
    refine ⟨_, (pss_one (Et.ps_tryN (i := 2) (out := fun _ _ _ _ => False) rfl rfl scL_refused.nd rfl rfl takes0
  (fun W pn xe tk _ => (pss_cons (ps_expr (Ex.pe_xS CSpread hg hr (by decide) tk (pa_cons (pv 0) (pa_cons (pv 1) pa_nil))))
  (pss_one (ps_ret pe_str))))
  (Et.Clauses.cons ⟨rfl, by decide, Or.inl T_NoEntry.g⟩ (fun a oe cls d pn hz hf => (pss_one (ps_ret (pe_lst (pa_cons pe_str (pa_cons (pe_xf T_NoEntry.xf T_NoEntry.no hz hf (pv 2)) (pa_cons (pe_callB (r := Ex.rIsD K C_NoEntry a cls d) (Ex.call_isD T_NoEntry.ic hz hf) (by rfl) T.isinstance (by decide +kernel) (pa_cons (pv 2) (pa_cons (pe_glob (v := .ref C_AnswerError) (by rfl) G_AnswerError rfl) pa_nil))) (pa_cons (pe_callB (r := Ex.rIsD K C_NoEntry a cls d) (Ex.call_isD T_NoEntry.ic hz hf) (by rfl) T.isinstance (by decide +kernel) (pa_cons (pv 2) (pa_cons (pe_glob (v := .ref C_NoBook) (by rfl) G_NoBook rfl) pa_nil))) pa_nil))))))))
  (Et.Clauses.cons ⟨rfl, by decide, Or.inl T_NoBook.g⟩ (fun a oe cls d pn hz hf => (pss_one (ps_ret (pe_lst (pa_cons pe_str (pa_cons (pe_xf T_NoBook.xf T_NoBook.no hz hf (pv 2)) (pa_cons (pe_callB (r := Ex.rIsD K C_NoBook a cls d) (Ex.call_isD T_NoBook.ic hz hf) (by rfl) T.isinstance (by decide +kernel) (pa_cons (pv 2) (pa_cons (pe_glob (v := .ref C_AnswerError) (by rfl) G_AnswerError rfl) pa_nil))) (pa_cons (pe_callB (r := Ex.rIsD K C_NoBook a cls d) (Ex.call_isD T_NoBook.ic hz hf) (by rfl) T.isinstance (by decide +kernel) (pa_cons (pv 2) (pa_cons (pe_glob (v := .ref C_NoEntry) (by rfl) G_NoEntry rfl) pa_nil))) pa_nil))))))))
  Et.Clauses.nil)))), ?_⟩
    repeat walk_at "rd"
    refine callS ?_
    repeat walk_at "rd"
    rcases h with ⟨h, q⟩ | ⟨⟨p, xs, zs, rfl, hp, hl, pr, un, ty, hty, kt⟩, q⟩
    · rcases h with ⟨tn, ty, kt⟩ | ⟨p, xs, os, rfl, hp, hl, pr, c | ⟨zs, rfl, c⟩⟩
      · refine .inl ⟨v, y, tn, rfl, ty, kt, ?_⟩
        refine fun H1 s1 dd hdd => ⟨true, T_NoEntry.te, fun _ a0 ha0 => ?_, fun z => nomatch z⟩
        have s2 := s1.trans (Rd.sNew (o := .xd [(("method" : Str), V.non)]) hdd)
        repeat walk_at "rd"
        refine ⟨rfl, dd, _, .non, rfl, upd_same, by simp [List.lookup], ?_⟩
        repeat walk_at "rd"
        refine ⟨_, _, true, dd, _, rfl, .own _, rfl, rfl, upd_same, R.aE, ?_⟩
        repeat walk_at "rd"
        refine ⟨_, _, false, dd, _, rfl, .own _, rfl, rfl, upd_same, R.eB, ?_⟩
        repeat walk_at "rd"
        refine ⟨Rd.sz (by simp), fun l hl => ?_⟩
        exact q l _ (s2.trans (Rd.sNew hl)) upd_same
      · refine .inr ⟨p, y, xs, os, rfl, hp, hl, pr, .inl ⟨c, ?_⟩⟩
        refine fun H1 s1 dd hdd => ⟨true, T_NoEntry.te, fun _ a0 ha0 => ?_, fun z => nomatch z⟩
        have s2 := s1.trans (Rd.sNew (o := .xd [(("method" : Str), V.non)]) hdd)
        repeat walk_at "rd"
        refine ⟨rfl, dd, _, .non, rfl, upd_same, by simp [List.lookup], ?_⟩
        repeat walk_at "rd"
        refine ⟨_, _, true, dd, _, rfl, .own _, rfl, rfl, upd_same, R.aE, ?_⟩
        repeat walk_at "rd"
        refine ⟨_, _, false, dd, _, rfl, .own _, rfl, rfl, upd_same, R.eB, ?_⟩
        repeat walk_at "rd"
        refine ⟨Rd.sz (by simp), fun l hl => ?_⟩
        exact q l _ (s2.trans (Rd.sNew hl)) upd_same
      · refine .inr ⟨p, y, xs, zs.map some, rfl, hp, hl, pr, .inr ⟨zs, rfl, .inl ⟨c, ?_⟩⟩⟩
        refine fun H1 s1 dd hdd => ⟨true, T_NoEntry.te, fun _ a0 ha0 => ?_, fun z => nomatch z⟩
        have s2 := s1.trans (Rd.sNew (o := .xd [(("method" : Str), V.non)]) hdd)
        repeat walk_at "rd"
        refine ⟨rfl, dd, _, .non, rfl, upd_same, by simp [List.lookup], ?_⟩
        repeat walk_at "rd"
        refine ⟨_, _, true, dd, _, rfl, .own _, rfl, rfl, upd_same, R.aE, ?_⟩
        repeat walk_at "rd"
        refine ⟨_, _, false, dd, _, rfl, .own _, rfl, rfl, upd_same, R.eB, ?_⟩
        repeat walk_at "rd"
        refine ⟨Rd.sz (by simp), fun l hl => ?_⟩
        exact q l _ (s2.trans (Rd.sNew hl)) upd_same
    · refine .inr ⟨p, y, xs, zs.map some, rfl, hp, hl, pr, .inr ⟨zs, rfl, .inr ⟨un, .inl ⟨ty, hty, kt, fun H1 s1 dd hdd => ⟨false, R.bEx, (fun z => nomatch z), fun _ => ⟨true, T_NoBook.te, fun _ a0 ha0 => ?_, fun z => nomatch z⟩⟩⟩⟩⟩⟩
      have s2 := s1.trans (Rd.sNew (o := .xd [(("value" : Str), y)]) hdd)
      repeat walk_at "rd"
      refine ⟨rfl, dd, _, y, rfl, upd_same, by simp [List.lookup], ?_⟩
      repeat walk_at "rd"
      refine ⟨_, _, true, dd, _, rfl, .own _, rfl, rfl, upd_same, R.aB, ?_⟩
      repeat walk_at "rd"
      refine ⟨_, _, false, dd, _, rfl, .own _, rfl, rfl, upd_same, R.bE, ?_⟩
      repeat walk_at "rd"
      refine ⟨Rd.sz (by simp), fun l hl => ?_⟩
      exact q l _ (s2.trans (Rd.sNew hl)) upd_same
end
end Ab
namespace Ab
open M6 PySem.Spec PyProof.Rows
local macro_rules | `(tactic| walk_at "rd") => `(tactic| (with_reducible first | refine Rd.tt_ ?_ | refine Rd.ff_ ?_ | refine Rd.sfld ?_ | refine Rd.dget ?_ | refine Rd.methR ?_ | refine Rd.propR ?_ | refine Rd.statR ?_ | refine Rd.getR ?_))
/-! ### wrong lists -/
theorem cutV_take {xs : List V} {n : Nat} (h : n ≤ xs.length) : cutV xs none (some (n : Int)) = xs.take n := by
  unfold cutV
  rw [HT.sIx_none, HT.sIx_nat, Nat.min_eq_left h]
  simp
theorem cutV_drop {xs : List V} {n : Nat} (h : n ≤ xs.length) : cutV xs (some (n : Int)) none = xs.drop n := by
  unfold cutV
  rw [HT.sIx_none, HT.sIx_nat, Nat.min_eq_left h, List.take_of_length_le (by rw [List.length_drop]; omega)]
theorem leP_iff (a b : Sp3) : leP a b = if (a.1 : Int) = b.1 then (if (methods.idxOf a.2.1 : Int) = methods.idxOf b.2.1 then true else decide ((methods.idxOf a.2.1 : Int) ≤ methods.idxOf b.2.1)) else decide ((a.1 : Int) ≤ b.1) := by
  show Ob.lexAt _ _ _ 0 2 = _
  rw [Ob.lexAt_succ, Ob.lexAt_succ, Ob.lexAt_zero]
  simp [placeOf]
theorem leP_self (a : Sp3) : leP a a = true := by rw [leP_iff, if_pos rfl, if_pos rfl]
theorem leP_total {a b : Sp3} (h : leP b a = false) : leP a b = true := by
  rw [leP_iff] at h ⊢
  by_cases c : (a.1 : Int) = b.1
  · rw [if_pos c.symm] at h
    rw [if_pos c]
    by_cases d : (methods.idxOf a.2.1 : Int) = methods.idxOf b.2.1
    · rw [if_pos d]
    · rw [if_neg (fun e => d e.symm)] at h
      rw [if_neg d]
      have := of_decide_eq_false h
      exact decide_eq_true (by omega)
  · rw [if_neg (fun e => c e.symm)] at h
    rw [if_neg c]
    have := of_decide_eq_false h
    exact decide_eq_true (by omega)
theorem un_cons {a b : Sp3} {l : List Sp3} : unordered (a :: b :: l) = (leP b a || unordered (b :: l)) := rfl
theorem un_snoc : ∀ (l : List Sp3) (y a : Sp3), leP a y = true → unordered (l ++ [y, a]) = true
  | [], y, a, h => by
    show (leP a y || _) = true
    rw [h]
    rfl
  | [x], y, a, h => by
    show (leP y x || unordered [y, a]) = true
    rw [show unordered [y, a] = true from un_snoc [] y a h, Bool.or_true]
  | x :: z :: l, y, a, h => by
    show (leP z x || unordered ((z :: l) ++ [y, a])) = true
    rw [show unordered ((z :: l) ++ [y, a]) = true from un_snoc (z :: l) y a h, Bool.or_true]
/-- the first one twice -/
theorem un_twice (z : Sp3) (zs : List Sp3) : unordered ((z :: zs).take 1 ++ (z :: zs)) = true := by
  show (leP z z || _) = true
  rw [leP_self]
  rfl
/-- the first one behind the others -/
theorem un_turn {zs : List Sp3} (h : zs.Pairwise fun a b => leP b a = false) (l : 1 < zs.length) : unordered (zs.drop 1 ++ zs.take 1) = true := by
  match zs, h, l with
  | a :: b :: r, h, _ =>
    show unordered ((b :: r) ++ [a]) = true
    have h1 := (List.pairwise_cons.mp h).1
    have e := List.dropLast_concat_getLast (l := b :: r) (by simp)
    have hm := List.getLast_mem (l := b :: r) (by simp)
    rw [← e, List.append_assoc]
    exact un_snoc _ _ _ (leP_total (h1 _ hm))
theorem made_pw {n : Nat} {zs : List Sp3} (h : Made n zs) : zs.Pairwise fun a b => leP b a = false := by
  have p := (full_ord.sublist (List.take_sublist n fullK)).sublist h.1
  rw [List.pairwise_map] at p
  exact p
def dZ (z : Sp3) : PyData := .tuple [.int (z.1 : Nat), .str z.2.1, .str z.2.2]
theorem dp_zs {K : PySem.W.Frag} {H : Hp} : ∀ {zs : List Sp3} {xs : List V}, SpsAt K H (zs.map some) xs → DpAll K H xs (zs.map dZ)
  | [], _, .nil => .nil
  | z :: zs, _, .cons h t => by
    obtain ⟨i, m, e⟩ := z
    obtain ⟨q, e1, h1, _⟩ := (show ∃ p, _ = V.ref p ∧ SqT K H p [.int (i : Nat), .str m, .str e] ∧ i < 3 ∧ m ∈ methods ∧ e ∈ entW from h)
    subst e1
    exact .cons (.tup h1 (.cons (.int _) (.cons (.str _) (.cons (.str _) .nil)))) (dp_zs t)
theorem lay_dZ {z : Sp3} (h : z.1 < 3 ∧ z.2.1 ∈ methods ∧ z.2.2 ∈ entW) : PyData.canLay0 (dZ z) = true ∧ PyData.depth (dZ z) ≤ 3 := by
  obtain ⟨i, m, e⟩ := z
  obtain ⟨h1, h2, h3⟩ := h
  have h1 : i < 3 := h1
  have h2 : m ∈ methods := h2
  have h3 : e ∈ entW := h3
  have hi : i = 0 ∨ i = 1 ∨ i = 2 := by omega
  have key : ∀ i ∈ [0, 1, 2], ∀ m ∈ methods, ∀ e ∈ entW, PyData.canLay0 (dZ (i, m, e)) = true ∧ PyData.depth (dZ (i, m, e)) ≤ 3 := by decide +kernel
  exact key i (by rcases hi with rfl | rfl | rfl <;> decide) m h2 e h3
theorem lay_zs : ∀ {zs : List Sp3}, (∀ z ∈ zs, z.1 < 3 ∧ z.2.1 ∈ methods ∧ z.2.2 ∈ entW) → PyData.canLayAll0 (zs.map dZ) = true
  | [], _ => rfl
  | a :: r, h => by
    have h1 := (lay_dZ (h a (by simp))).1
    have h2 := lay_zs (zs := r) fun z hz => h z (by simp [hz])
    rw [List.map_cons]
    simp [PyData.canLayAll0, h1, h2]
theorem dep_zs : ∀ {zs : List Sp3}, (∀ z ∈ zs, z.1 < 3 ∧ z.2.1 ∈ methods ∧ z.2.2 ∈ entW) → PyData.depthAll (zs.map dZ) ≤ 3
  | [], _ => by simp [PyData.depthAll]
  | a :: r, h => by
    have h1 := (lay_dZ (h a (by simp))).2
    have h2 := dep_zs (zs := r) fun z hz => h z (by simp [hz])
    rw [List.map_cons]
    simp only [PyData.depthAll]
    omega
theorem shaped_zs {zs : List Sp3} (h : ∀ z ∈ zs, z.1 < 3 ∧ z.2.1 ∈ methods ∧ z.2.2 ∈ entW) (l : zs.length ≤ 42) : SeqAt.shaped (.list (zs.map dZ)) = true := by
  have e1 := lay_zs h
  have e2 := dep_zs h
  simp [SeqAt.shaped, PyData.canLay0, e1, PyData.depth]
  omega
theorem eqv_nil (zs : List Sp3) : PyData.eqv (.list (zs.map dZ)) (.list []) = decide (zs = []) := by
  cases zs with
  | nil => rfl
  | cons z zs => simp [PyData.eqv, PyData.eqvAll]
end Ab
namespace Ab
open M6 PySem.Spec PyProof.Rows
local macro_rules | `(tactic| walk_at "rd") => `(tactic| (with_reducible first | refine Rd.tt_ ?_ | refine Rd.ff_ ?_ | refine Rd.sfld ?_ | refine Rd.dget ?_ | refine Rd.methR ?_ | refine Rd.propR ?_ | refine Rd.statR ?_ | refine Rd.getR ?_))
theorem sps_take {K : PySem.W.Frag} {H : Hp} : ∀ {os : List (Option Sp3)} {xs : List V} (n : Nat), SpsAt K H os xs → SpsAt K H (os.take n) (xs.take n)
  | _, _, 0, _ => .nil
  | _, _, _ + 1, .nil => .nil
  | _, _, n + 1, .cons h t => .cons h (sps_take n t)
theorem sps_drop {K : PySem.W.Frag} {H : Hp} : ∀ {os : List (Option Sp3)} {xs : List V} (n : Nat), SpsAt K H os xs → SpsAt K H (os.drop n) (xs.drop n)
  | _, _, 0, h => h
  | _, _, _ + 1, .nil => .nil
  | _, _, n + 1, .cons _ t => sps_drop n t
theorem op_neg1 : isOp (.int (-1)) = false := by decide
def dueE : PyData := .list [.str "entry", .none, .bool true, .bool false]
abbrev vE : List V := [.str "entry", .non, .bl true, .bl false]
theorem neE {K : PySem.W.Frag} {x y : Addr} {H : Hp} {Q : VK} (hx : H x = some (.lst vE)) (hy : H y = some (.lst vE)) (k : Q (.bl false) H) : rNeD K (.ref x) (.ref y) H Q := by
  have dp : ∀ {z : Addr}, H z = some (.lst vE) → Dp K H (.ref z) dueE := fun h => .lst (SqL.of h) (.cons (.str _) (.cons .non (.cons (.bl _) (.cons (.bl _) .nil))))
  refine Rd.neD (d := dueE) (e := dueE) (dp hx) (dp hy) (by decide +kernel) (by decide +kernel) ?_
  rw [show PyData.eqv dueE dueE = true from by decide +kernel]
  exact k
/-- no list of the types that the law hands in is a book -/
structure BkNo (K : PySem.W.Frag) (CK : Addr) : Prop where
  n : PySem.W.kitOne K (.type "NoneType") (.ref CK) = some false
  i : PySem.W.kitOne K (.type "int") (.ref CK) = some false
  s : PySem.W.kitOne K (.type "str") (.ref CK) = some false
  l : PySem.W.kitOne K (.type "list") (.ref CK) = some false
  b : PySem.W.kitOne K (.type "bool") (.ref CK) = some false
section
variable {P : Program} {w : World} {K : PySem.W.Frag} {mg : Str → Option Value} {base : Heap}
abbrev sL_wrong : Stmt := top 88
abbrev nL_wrong : List Str := ["_law_pool_here", "_law_entries_here", "_law_due", "_law_value", "_law_at"]
theorem scL_wrong : FnScope nL_wrong ["_law_pool_here", "_law_entries_here"] (defScope sL_wrong) := ⟨rfl, rfl, rfl, by decide +kernel, rfl, by decide +kernel, by decide +kernel⟩
def spWrong (K : PySem.W.Frag) : Sp := fun vs H Q _ => ∃ (p l : Addr) (x y : Int) (xs : List V) (zs : List Sp3), vs = [.ref p, .ref l] ∧ l ≠ p ∧ H p = some (.lst [.int x, .int y]) ∧ PoolOk x y ∧ H l = some (.lst xs) ∧ SpsAt K H (zs.map some) xs ∧ Made 42 zs ∧ ∀ H', Keep p H H' → Q (.bl true) H'
theorem ok_wrong (T : Txt K mg) {CK : Addr} (N : BkNo K CK) (CL_take : CalG P w K mg base 1 "_law_take" spTake) (CL_refused : CalG P w K mg base 17 "_law_refused" (spRef K CK)) (D : DefAt K mg "_law_wrong" sL_wrong ["_law_pool_here", "_law_entries_here"]) : CalG P w K mg base 18 "_law_wrong" (spWrong K) := by
  refine D.by scL_wrong (fun vs H Q E h => ?_) (fun f cd A hg outer s H vs Q E hr h => ?_)
  · obtain ⟨_, _, _, _, _, _, rfl, _⟩ := h
    rfl
  · obtain ⟨p, l, x, y, xs, zs, rfl, plx, hp, ok, hl, pr, md, q⟩ := h
    have lx : zs.length = xs.length := by have := pair_len' pr; rwa [List.length_map] at this
    have l42 := made_len md
    refine ⟨_, (pss_cons (ps_set (i := 2) scL_wrong.nd rfl (Or.inl rfl) (pe_lst (pa_cons pe_str (pa_cons pe_non (pa_cons pe_bl (pa_cons pe_bl pa_nil))))))
  (pss_cons (ps_for (wi := iList K _) PassesOwn.never rfl (pi_list (pe_lst (pa_cons pe_non (pa_cons (pe_tup pa_nil) (pa_cons pe_str (pa_cons pe_dnewK (pa_cons pe_int (pa_cons (pe_callTy call_tuple_of (by rfl) T.tuple (by decide +kernel) (pa_cons (pv 1) pa_nil)) pa_nil)))))))) (pg_name (i := 3) scL_wrong.nd rfl (Or.inl rfl))
  (pss_one (ps_if (pt_cmpR (r := rNeD K) (op_neD hr.units) (pe_cG CL_refused hg hr (by decide) (pa_cons (pv 3) (pa_cons pe_non pa_nil))) (pv 2) (nomark _))
  (pss_one (ps_ret pe_bl))
  pss_nil)))
  (pss_cons (ps_set (i := 4) scL_wrong.nd rfl (Or.inl rfl) (pe_cG CL_take hg hr (by decide) (pa_cons (pv 0) (pa_cons (pe_op op_add (pe_callB (r := Rd.rLenK K) Rd.callLen (by rfl) T.len PySem.boot_len (pa_cons (pv 1) pa_nil)) pe_int) pa_nil))))
  (pss_cons (ps_for (wi := iList K _) PassesOwn.never rfl (pi_list (pe_lst (pa_cons pe_non (pa_cons (pe_tup (pa_cons pe_int (pa_cons pe_str pa_nil))) (pa_cons (pe_lst (pa_cons pe_int (pa_cons pe_str (pa_cons pe_str pa_nil)))) (pa_cons (pe_tup (pa_cons pe_int (pa_cons pe_str (pa_cons pe_str pa_nil)))) (pa_cons (pe_tup (pa_cons (pe_un un_neg pe_int) (pa_cons pe_str (pa_cons pe_str pa_nil)))) pa_nil))))))) (pg_name (i := 3) scL_wrong.nd rfl (Or.inl rfl))
  (pss_one (ps_if (pt_cmpR (r := rNeD K) (op_neD hr.units) (pe_cG CL_refused hg hr (by decide) (pa_cons (pe_op op_cat (pe_op op_cat (pe_slice (r := rSlL K) sl_list (pv 1) po_none (po_some (pv 4))) (pe_lst (pa_cons (pv 3) pa_nil))) (pe_slice (r := rSlL K) sl_list (pv 1) (po_some (pv 4)) po_none)) (pa_cons pe_int pa_nil))) (pv 2) (nomark _))
  (pss_one (ps_ret pe_bl))
  pss_nil)))
  (pss_cons (ps_for (wi := iList K _) PassesOwn.never rfl (pi_list (pe_lst (pa_cons (pe_tup (pa_cons pe_bl (pa_cons pe_str (pa_cons pe_str pa_nil)))) (pa_cons (pe_tup (pa_cons pe_int (pa_cons pe_str (pa_cons pe_str pa_nil)))) (pa_cons (pe_tup (pa_cons pe_int (pa_cons pe_str (pa_cons pe_non pa_nil)))) (pa_cons (pe_tup (pa_cons pe_int (pa_cons pe_int (pa_cons pe_str pa_nil)))) pa_nil)))))) (pg_name (i := 3) scL_wrong.nd rfl (Or.inl rfl))
  (pss_one (ps_if (pt_cmpR (r := rNeD K) (op_neD hr.units) (pe_cG CL_refused hg hr (by decide) (pa_cons (pe_lst (pa_cons (pv 3) pa_nil)) (pa_cons pe_int pa_nil))) (pv 2) (nomark _))
  (pss_one (ps_ret pe_bl))
  pss_nil)))
  (C8.pss_cut (ps_if (PW.pt (pw_and (pt_cmpR (r := rNeD K) (op_neD hr.units) (pv 1) (pe_lst pa_nil) (nomark _)) (pw_and1 (pt_cmpR (r := rNeD K) (op_neD hr.units) (pe_cG CL_refused hg hr (by decide) (pa_cons (pe_op op_cat (pe_slice (r := rSlL K) sl_list (pv 1) po_none (po_some pe_int)) (pv 1)) (pa_cons pe_int pa_nil))) (pv 2) (nomark _)))))
  (pss_one (ps_ret pe_bl))
  pss_nil)
  (C8.pss_cut (ps_if (PW.pt (pw_and (pt_cmpR op_gt (pe_callB (r := Rd.rLenK K) Rd.callLen (by rfl) T.len PySem.boot_len (pa_cons (pv 1) pa_nil)) pe_int (nomark _)) (pw_and1 (pt_cmpR (r := rNeD K) (op_neD hr.units) (pe_cG CL_refused hg hr (by decide) (pa_cons (pe_op op_cat (pe_slice (r := rSlL K) sl_list (pv 1) (po_some pe_int) po_none) (pe_slice (r := rSlL K) sl_list (pv 1) po_none (po_some pe_int))) (pa_cons pe_int pa_nil))) (pv 2) (nomark _)))))
  (pss_one (ps_ret pe_bl))
  pss_nil)
  (pss_cons (ps_for (wi := iList K _) PassesOwn.never rfl (pi_list (pe_lst (pa_cons pe_non (pa_cons pe_int (pa_cons pe_str (pa_cons (pe_lst pa_nil) (pa_cons pe_bl pa_nil))))))) (pg_name (i := 3) scL_wrong.nd rfl (Or.inl rfl))
  (pss_one (ps_if (pt_cmpR (r := rNeD K) (op_neD hr.units) (pe_cG CL_refused hg hr (by decide) (pa_cons (pv 1) (pa_cons (pv 3) pa_nil))) (pe_lst (pa_cons pe_str (pa_cons (pv 3) (pa_cons pe_bl (pa_cons pe_bl pa_nil))))) (nomark _))
  (pss_one (ps_ret pe_bl))
  pss_nil)))
  (pss_one (ps_ret pe_bl)))))))))), ?_⟩
    repeat walk_at "rd"
    refine ⟨Rd.sz (by simp), fun du hdu => ?_⟩
    have s1 := Rd.sNew (o := .lst vE) hdu
    have du1 : upd H du (.lst vE) du = some (.lst vE) := upd_same
    have pdu : du ≠ p := fun e => by rw [e, hp] at hdu; cases hdu
    generalize upd H du (.lst vE) = H1 at s1 du1 ⊢
    repeat walk_at "rd"
    refine forLi ?_
    repeat walk_at "rd"
    refine ⟨Rd.sz (by simp), fun t0 h0 => ?_⟩
    repeat walk_at "rd"
    refine fun d0 hd0 => ?_
    repeat walk_at "rd"
    have s2 := (Rd.sNew (o := .tup []) h0).trans (Rd.sNew (o := .dK []) hd0)
    have t02 : upd (upd H1 t0 (.tup [])) d0 (.dK []) t0 = some (.tup []) := Rd.sNew hd0 _ _ upd_same
    have d02 : upd (upd H1 t0 (.tup [])) d0 (.dK []) d0 = some (.dK []) := upd_same
    generalize upd (upd H1 t0 (.tup [])) d0 (.dK []) = H2 at s2 t02 d02 ⊢
    refine ⟨l, xs, rfl, .inl ⟨SqL.of (s2 _ _ (s1 _ _ hl)), fun t1 h1 => ?_⟩⟩
    have s3 := Rd.sNew (o := .tup xs) h1
    have t13 : upd H2 t1 (.tup xs) t1 = some (.tup xs) := upd_same
    generalize upd H2 t1 (.tup xs) = H3 at s3 t13 ⊢
    repeat walk_at "rd"
    refine ⟨Rd.sz (by simp), fun nl hnl => ?_⟩
    have s4 := Rd.sNew (o := .lst [.non, .ref t0, .str "x", .ref d0, .int 0, .ref t1]) hnl
    have n4 : upd H3 nl (.lst [.non, .ref t0, .str "x", .ref d0, .int 0, .ref t1]) nl = some (.lst [.non, .ref t0, .str "x", .ref d0, .int 0, .ref t1]) := upd_same
    generalize upd H3 nl (.lst [.non, .ref t0, .str "x", .ref d0, .int 0, .ref t1]) = H4 at s4 n4 ⊢
    have s14 := (s2.trans s3).trans s4
    have bad1 : ∀ v ∈ ([.non, .ref t0, .str "x", .ref d0, .int 0, .ref t1] : List V), ∀ H', Same H4 H' → BadE K H' v := by
      intro v hv H' sv
      have s34 := s3.trans s4
      simp only [List.mem_cons, List.not_mem_nil, or_false] at hv
      rcases hv with rfl | rfl | rfl | rfl | rfl | rfl
      · exact .inl ⟨"NoneType", .base .non, rfl⟩
      · exact .inl ⟨"tuple", tup_ty (.inl (.inl (sv _ _ (s34 _ _ t02)))), by decide +kernel⟩
      · exact .inl ⟨"str", .base (.str _), by decide +kernel⟩
      · exact .inl ⟨"dict", .base (.dK (sv _ _ (s34 _ _ d02))), by decide +kernel⟩
      · exact .inl ⟨"int", .base (.int _), by decide +kernel⟩
      · exact .inl ⟨"tuple", tup_ty (.inl (.inl (sv _ _ (s4 _ _ t13)))), by decide +kernel⟩
    refine ⟨nl, rfl, ⟨_, SqL.of n4⟩, ?_⟩
    refine for_list (K := K) (a := nl) (xs := [.non, .ref t0, .str "x", .ref d0, .int 0, .ref t1]) (fun i σ H' => ∃ z3 : Option V, σ = [some (.ref p), some (.ref l), some (.ref du), z3, none] ∧ Same H4 H') ⟨none, rfl, Same.refl _⟩ (fun _ _ _ _ ⟨_, _, s⟩ => SqL.of (s _ _ n4)) ?_ ?_
    · rintro i v σ H5 hv ⟨z3, rfl, s5⟩
      have bv := bad1 v (List.mem_of_getElem? hv) H5 s5
      repeat walk_at "rd"
      refine ⟨v, .non, rfl, .inl ⟨bv, fun r H6 s6 hr6 => ?_⟩⟩
      repeat walk_at "rd"
      refine neE hr6 (s6 _ _ (s5 _ _ (s14 _ _ du1))) ?_
      repeat walk_at "rd"
      exact ⟨_, rfl, s5.trans s6⟩
    · rintro σ H5 ⟨z3, rfl, s5⟩
      have s05 := (s1.trans s14).trans s5
      have du5 := s5 _ _ (s14 _ _ du1)
      clear bad1 n4 s5 s14 s4 t13 s3 h1 hnl t02 d02 s2 h0 hd0
      repeat walk_at "rd"
      refine Rd.lenK (SqL.of (s05 _ _ hl)) ?_
      repeat walk_at "rd"
      refine ⟨p, x, y, (xs.length : Int) + 1, rfl, s05 _ _ hp, ok, by omega, by omega, fun r x2 y2 ok2 r0 r1 => ?_⟩
      have hp5 := s05 _ _ hp
      have k6 : Keep p H (upd H5 p (.lst [.int x2, .int y2])) := (Keep.same s05).put
      have l6 : upd H5 p (.lst [.int x2, .int y2]) l = some (.lst xs) := by rw [upd_ne plx]; exact s05 _ _ hl
      have du6 : upd H5 p (.lst [.int x2, .int y2]) du = some (.lst vE) := by rw [upd_ne pdu]; exact du5
      have pr6 : SpsAt K (upd H5 p (.lst [.int x2, .int y2])) (zs.map some) xs := sps_keep (Keep.put fun _ _ _ e => e) (nt_lst hp5) (pr.mono s05)
      generalize upd H5 p (.lst [.int x2, .int y2]) = H6 at k6 l6 du6 pr6 ⊢
      clear hp5 du5 s05 hl hp pr
      obtain ⟨n, rfl⟩ : ∃ n : Nat, r = (n : Int) := ⟨r.toNat, by omega⟩
      have hn : n ≤ xs.length := by omega
      repeat walk_at "rd"
      refine forLi ?_
      repeat walk_at "rd"
      refine ⟨Rd.sz (by simp), fun t2 h2 => ?_⟩
      repeat walk_at "rd"
      refine ⟨Rd.sz (by simp), fun t3 h3 => ?_⟩
      repeat walk_at "rd"
      refine ⟨Rd.sz (by simp), fun t4 h4 => ?_⟩
      repeat walk_at "rd"
      refine ⟨Rd.sz (by simp), fun t5 h5 => ?_⟩
      repeat walk_at "rd"
      have w3 := Rd.sNew (o := .lst [.int 0, .str "truth", .str "native"]) h3
      have w4 := Rd.sNew (o := .tup [.int 3, .str "truth", .str "native"]) h4
      have w5 := Rd.sNew (o := .tup [.int (-1), .str "truth", .str "native"]) h5
      have e2 := w5 _ _ (w4 _ _ (w3 _ _ (upd_same (H := H6) (a := t2) (o := .tup [.int 0, .str "truth"]))))
      have e3 := w5 _ _ (w4 _ _ (upd_same (H := upd H6 t2 (.tup [.int 0, .str "truth"])) (a := t3) (o := .lst [.int 0, .str "truth", .str "native"])))
      have e4 := w5 _ _ (upd_same (H := upd (upd H6 t2 (.tup [.int 0, .str "truth"])) t3 (.lst [.int 0, .str "truth", .str "native"])) (a := t4) (o := .tup [.int 3, .str "truth", .str "native"]))
      have e5 := upd_same (H := upd (upd (upd H6 t2 (.tup [.int 0, .str "truth"])) t3 (.lst [.int 0, .str "truth", .str "native"])) t4 (.tup [.int 3, .str "truth", .str "native"])) (a := t5) (o := .tup [.int (-1), .str "truth", .str "native"])
      have w7 := (((Rd.sNew (o := .tup [.int 0, .str "truth"]) h2).trans w3).trans w4).trans w5
      generalize upd (upd (upd (upd H6 t2 (.tup [.int 0, .str "truth"])) t3 (.lst [.int 0, .str "truth", .str "native"])) t4 (.tup [.int 3, .str "truth", .str "native"])) t5 (.tup [.int (-1), .str "truth", .str "native"]) = H7 at w7 e2 e3 e4 e5 ⊢
      clear w3 w4 w5 h2 h3 h4 h5
      refine ⟨Rd.sz (by simp), fun nl hnl => ?_⟩
      have w8 := Rd.sNew (o := .lst [.non, .ref t2, .ref t3, .ref t4, .ref t5]) hnl
      have n8 : upd H7 nl (.lst [.non, .ref t2, .ref t3, .ref t4, .ref t5]) nl = some (.lst [.non, .ref t2, .ref t3, .ref t4, .ref t5]) := upd_same
      generalize upd H7 nl (.lst [.non, .ref t2, .ref t3, .ref t4, .ref t5]) = H8 at w8 n8 ⊢
      have bad2 : ∀ v ∈ ([.non, .ref t2, .ref t3, .ref t4, .ref t5] : List V), ∀ H', Same H8 H' → WrongAt K H' v := by
        intro v hv H' sv
        simp only [List.mem_cons, List.not_mem_nil, or_false] at hv
        rcases hv with rfl | rfl | rfl | rfl | rfl
        · exact ⟨.inl ⟨"NoneType", .base .non, rfl⟩⟩
        · exact ⟨.inr (.inl ⟨t2, _, rfl, .inl (.inl (sv _ _ (w8 _ _ e2))), by simp, by simp⟩)⟩
        · exact ⟨.inl ⟨"list", lst_ty (SqL.of (sv _ _ (w8 _ _ e3))), by decide +kernel⟩⟩
        · exact ⟨.inr (.inr ⟨t4, .int 3, .str "truth", .str "native", "int", "str", "str", rfl, .inl (.inl (sv _ _ (w8 _ _ e4))), kd_int _, kd_str _, kd_str _, by decide +kernel⟩)⟩
        · exact ⟨.inr (.inr ⟨t5, .int (-1), .str "truth", .str "native", "int", "str", "str", rfl, .inl (.inl (sv _ _ (w8 _ _ e5))), kd_int _, kd_str _, kd_str _, by decide +kernel⟩)⟩
      have w68 := w7.trans w8
      refine ⟨nl, rfl, ⟨_, SqL.of n8⟩, ?_⟩
      refine for_list (K := K) (a := nl) (xs := [.non, .ref t2, .ref t3, .ref t4, .ref t5]) (fun i σ H' => ∃ z3 : Option V, σ = [some (.ref p), some (.ref l), some (.ref du), z3, some (.int (n : Int))] ∧ Same H8 H') ⟨_, rfl, Same.refl _⟩ (fun _ _ _ _ ⟨_, _, s⟩ => SqL.of (s _ _ n8)) ?_ ?_
      · rintro i v σ H9 hv ⟨z3, rfl, s9⟩
        have bv := bad2 v (List.mem_of_getElem? hv)
        have s69 := w68.trans s9
        repeat walk_at "rd"
        refine Rd.slL (SqL.of (s69 _ _ l6)) fun q1 hq1 => ?_
        rw [cutV_take hn]
        have a1 := Rd.sNew (o := .lst (xs.take n)) hq1
        repeat walk_at "rd"
        refine ⟨Rd.sz (by simp), fun q2 hq2 => ?_⟩
        have a2 := Rd.sNew (o := .lst [v]) hq2
        refine ⟨q1, q2, _, _, rfl, rfl, a2 _ _ upd_same, upd_same, Nat.le_of_lt (Rd.szl (by simp; omega)), fun q3 hq3 => ?_⟩
        have a3 := Rd.sNew (o := .lst (xs.take n ++ [v])) hq3
        have a13 := (a1.trans a2).trans a3
        have b3 : upd (upd (upd H9 q1 (.lst (xs.take n))) q2 (.lst [v])) q3 (.lst (xs.take n ++ [v])) q3 = some (.lst (xs.take n ++ [v])) := upd_same
        generalize upd (upd (upd H9 q1 (.lst (xs.take n))) q2 (.lst [v])) q3 (.lst (xs.take n ++ [v])) = Ha at a13 b3 ⊢
        repeat walk_at "rd"
        refine Rd.slL (SqL.of (a13 _ _ (s69 _ _ l6))) fun q4 hq4 => ?_
        rw [cutV_drop hn]
        have a4 := Rd.sNew (o := .lst (xs.drop n)) hq4
        refine ⟨q3, q4, _, _, rfl, rfl, a4 _ _ b3, upd_same, Nat.le_of_lt (Rd.szl (by simp; omega)), fun q5 hq5 => ?_⟩
        have a5 := Rd.sNew (o := .lst (xs.take n ++ [v] ++ xs.drop n)) hq5
        have sb := (a13.trans a4).trans a5
        have b5 : upd (upd Ha q4 (.lst (xs.drop n))) q5 (.lst (xs.take n ++ [v] ++ xs.drop n)) q5 = some (.lst (xs.take n ++ [v] ++ xs.drop n)) := upd_same
        generalize upd (upd Ha q4 (.lst (xs.drop n))) q5 (.lst (xs.take n ++ [v] ++ xs.drop n)) = Hb at sb b5 ⊢
        have prb := pr6.mono (s69.trans sb)
        repeat walk_at "rd"
        refine ⟨.ref q5, .int 0, rfl, .inl ⟨.inr ⟨q5, _, (zs.map some).take n ++ [none] ++ (zs.map some).drop n, rfl, SqL.of b5, by simp; omega, pair_cat (pair_cat (sps_take n prb) (.cons (fun H' sv => bv H' ((s9.trans sb).trans sv)) .nil)) (sps_drop n prb), .inl (by simp)⟩, fun r H6' s6 hr6 => ?_⟩⟩
        repeat walk_at "rd"
        refine neE hr6 (s6 _ _ (sb _ _ (s69 _ _ du6))) ?_
        repeat walk_at "rd"
        exact ⟨_, rfl, (s9.trans sb).trans s6⟩
      · rintro σ H9 ⟨z3, rfl, s9⟩
        have s69 := w68.trans s9
        have k9 := k6.trans (Keep.same s69)
        have l9 := s69 _ _ l6
        have du9 := s69 _ _ du6
        have pr9 := pr6.mono s69
        clear bad2 n8 w8 w68 w7 e2 e3 e4 e5 hnl s69 s9 k6 l6 du6 pr6
        repeat walk_at "rd"
        refine forLi ?_
        repeat walk_at "rd"
        refine ⟨Rd.sz (by simp), fun t2 h2 => ?_⟩
        repeat walk_at "rd"
        refine ⟨Rd.sz (by simp), fun t3 h3 => ?_⟩
        repeat walk_at "rd"
        refine ⟨Rd.sz (by simp), fun t4 h4 => ?_⟩
        repeat walk_at "rd"
        refine ⟨Rd.sz (by simp), fun t5 h5 => ?_⟩
        repeat walk_at "rd"
        have w2 := Rd.sNew (o := .tup [.bl true, .str "truth", .str "native"]) h2
        have w3 := Rd.sNew (o := .tup [.int 0, .str "size", .str "native"]) h3
        have w4 := Rd.sNew (o := .tup [.int 0, .str "truth", .non]) h4
        have w5 := Rd.sNew (o := .tup [.int 0, .int 0, .str "native"]) h5
        have e2 := w5 _ _ (w4 _ _ (w3 _ _ (upd_same (H := H9) (a := t2) (o := .tup [.bl true, .str "truth", .str "native"]))))
        have e3 := w5 _ _ (w4 _ _ (upd_same (H := upd H9 t2 (.tup [.bl true, .str "truth", .str "native"])) (a := t3) (o := .tup [.int 0, .str "size", .str "native"])))
        have e4 := w5 _ _ (upd_same (H := upd (upd H9 t2 (.tup [.bl true, .str "truth", .str "native"])) t3 (.tup [.int 0, .str "size", .str "native"])) (a := t4) (o := .tup [.int 0, .str "truth", .non]))
        have e5 := upd_same (H := upd (upd (upd H9 t2 (.tup [.bl true, .str "truth", .str "native"])) t3 (.tup [.int 0, .str "size", .str "native"])) t4 (.tup [.int 0, .str "truth", .non])) (a := t5) (o := .tup [.int 0, .int 0, .str "native"])
        have w7 := ((w2.trans w3).trans w4).trans w5
        generalize upd (upd (upd (upd H9 t2 (.tup [.bl true, .str "truth", .str "native"])) t3 (.tup [.int 0, .str "size", .str "native"])) t4 (.tup [.int 0, .str "truth", .non])) t5 (.tup [.int 0, .int 0, .str "native"]) = H10 at w7 e2 e3 e4 e5 ⊢
        clear w2 w3 w4 w5 h2 h3 h4 h5
        refine ⟨Rd.sz (by simp), fun nl hnl => ?_⟩
        have w8 := Rd.sNew (o := .lst [.ref t2, .ref t3, .ref t4, .ref t5]) hnl
        have n8 : upd H10 nl (.lst [.ref t2, .ref t3, .ref t4, .ref t5]) nl = some (.lst [.ref t2, .ref t3, .ref t4, .ref t5]) := upd_same
        generalize upd H10 nl (.lst [.ref t2, .ref t3, .ref t4, .ref t5]) = H11 at w8 n8 ⊢
        have bad3 : ∀ v ∈ ([.ref t2, .ref t3, .ref t4, .ref t5] : List V), ∀ H', Same H11 H' → WrongAt K H' v := by
          intro v hv H' sv
          simp only [List.mem_cons, List.not_mem_nil, or_false] at hv
          rcases hv with rfl | rfl | rfl | rfl
          · exact ⟨.inr (.inr ⟨t2, .bl true, .str "truth", .str "native", "bool", "str", "str", rfl, .inl (.inl (sv _ _ (w8 _ _ e2))), kd_bl _, kd_str _, kd_str _, rfl⟩)⟩
          · exact ⟨.inr (.inr ⟨t3, .int 0, .str "size", .str "native", "int", "str", "str", rfl, .inl (.inl (sv _ _ (w8 _ _ e3))), kd_int _, kd_str _, kd_str _, by decide +kernel⟩)⟩
          · exact ⟨.inr (.inr ⟨t4, .int 0, .str "truth", .non, "int", "str", "NoneType", rfl, .inl (.inl (sv _ _ (w8 _ _ e4))), kd_int _, kd_str _, kd_non, by decide +kernel⟩)⟩
          · exact ⟨.inr (.inr ⟨t5, .int 0, .int 0, .str "native", "int", "int", "str", rfl, .inl (.inl (sv _ _ (w8 _ _ e5))), kd_int _, kd_int _, kd_str _, by decide +kernel⟩)⟩
        have w68 := w7.trans w8
        refine ⟨nl, rfl, ⟨_, SqL.of n8⟩, ?_⟩
        refine for_list (K := K) (a := nl) (xs := [.ref t2, .ref t3, .ref t4, .ref t5]) (fun i σ H' => ∃ z3 : Option V, σ = [some (.ref p), some (.ref l), some (.ref du), z3, some (.int (n : Int))] ∧ Same H11 H') ⟨_, rfl, Same.refl _⟩ (fun _ _ _ _ ⟨_, _, s⟩ => SqL.of (s _ _ n8)) ?_ ?_
        · rintro i v σ H12 hv ⟨z3, rfl, s9⟩
          have bv := bad3 v (List.mem_of_getElem? hv)
          repeat walk_at "rd"
          refine ⟨Rd.sz (by simp), fun q2 hq2 => ?_⟩
          have a2 := Rd.sNew (o := .lst [v]) hq2
          repeat walk_at "rd"
          refine ⟨.ref q2, .int 0, rfl, .inl ⟨.inr ⟨q2, _, [none], rfl, SqL.of upd_same, by simp, .cons (fun H' sv => bv H' ((s9.trans a2).trans sv)) .nil, .inl rfl⟩, fun r H6' s6 hr6 => ?_⟩⟩
          repeat walk_at "rd"
          refine neE hr6 (s6 _ _ (a2 _ _ (s9 _ _ (w68 _ _ du9)))) ?_
          repeat walk_at "rd"
          exact ⟨_, rfl, (s9.trans a2).trans s6⟩
        · rintro σ H12 ⟨z3, rfl, s9⟩
          have s69 := w68.trans s9
          have kc := k9.trans (Keep.same s69)
          have lc := s69 _ _ l9
          have duc := s69 _ _ du9
          have prc := pr9.mono s69
          clear bad3 n8 w8 w68 w7 e2 e3 e4 e5 hnl s69 s9 k9 l9 du9 pr9
          repeat walk_at "rd"
          refine Rd.cut (fun σ H' => ∃ z3 : Option V, σ = [some (.ref p), some (.ref l), some (.ref du), z3, some (.int (n : Int))] ∧ Same H12 H') ?_ ?_
          · repeat walk_at "rd"
            refine ⟨Rd.sz (by simp), fun q0 hq0 => ?_⟩
            have a0 := Rd.sNew (o := .lst []) hq0
            refine Rd.neD (d := .list (zs.map dZ)) (e := .list []) (.lst (SqL.of (a0 _ _ lc)) (dp_zs (prc.mono a0))) (.lst (SqL.of upd_same) .nil) (shaped_zs md.2 l42) (by decide +kernel) ?_
            rw [eqv_nil]
            refine ⟨_, rfl, ?_⟩
            refine Rd.ndec (fun c => ?_) (fun c => ?_)
            · obtain ⟨z, zr, ez⟩ : ∃ z zr, zs = z :: zr := by
                cases zs with
                | nil => exact absurd rfl c
                | cons z zr => exact ⟨z, zr, rfl⟩
              have x1 : 1 ≤ xs.length := by rw [← lx, ez]; simp
              repeat walk_at "rd"
              refine Rd.slL (SqL.of (a0 _ _ lc)) fun q1 hq1 => ?_
              rw [show cutV xs none (some 1) = xs.take 1 from cutV_take (n := 1) x1]
              have a1 := Rd.sNew (o := .lst (xs.take 1)) hq1
              repeat walk_at "rd"
              refine ⟨q1, l, _, _, rfl, rfl, upd_same, a1 _ _ (a0 _ _ lc), Nat.le_of_lt (Rd.szl (by simp; omega)), fun q3 hq3 => ?_⟩
              have a3 := Rd.sNew (o := .lst (xs.take 1 ++ xs)) hq3
              have sb := (a0.trans a1).trans a3
              have b3 : upd (upd (upd H12 q0 (.lst [])) q1 (.lst (xs.take 1))) q3 (.lst (xs.take 1 ++ xs)) q3 = some (.lst (xs.take 1 ++ xs)) := upd_same
              generalize upd (upd (upd H12 q0 (.lst [])) q1 (.lst (xs.take 1))) q3 (.lst (xs.take 1 ++ xs)) = H13 at sb b3 ⊢
              have prb := prc.mono sb
              have un : unordered (zs.take 1 ++ zs) = true := by rw [ez]; exact un_twice z zr
              repeat walk_at "rd"
              refine ⟨.ref q3, .int 0, rfl, .inl ⟨.inr ⟨q3, _, (zs.take 1 ++ zs).map some, rfl, SqL.of b3, by simp; omega, by rw [List.map_append, List.map_take]; exact pair_cat (sps_take 1 prb) prb, .inr ⟨_, rfl, un⟩⟩, fun r H6' s6 hr6 => ?_⟩⟩
              repeat walk_at "rd"
              refine neE hr6 (s6 _ _ (sb _ _ duc)) ?_
              repeat walk_at "rd"
              exact ⟨_, rfl, sb.trans s6⟩
            · repeat walk_at "rd"
              exact ⟨_, rfl, a0⟩
          · rintro σ H13 ⟨z3, rfl, sd⟩
            have kd := kc.trans (Keep.same sd)
            have ld := sd _ _ lc
            have dud := sd _ _ duc
            have prd := prc.mono sd
            clear kc lc duc prc sd
            refine Rd.cut (fun σ H' => ∃ z3 : Option V, σ = [some (.ref p), some (.ref l), some (.ref du), z3, some (.int (n : Int))] ∧ Same H13 H') ?_ ?_
            · repeat walk_at "rd"
              refine Rd.dec (fun c => ?_) (fun c => ?_)
              · have x1 : 1 < xs.length := by omega
                repeat walk_at "rd"
                refine Rd.slL (SqL.of ld) fun q1 hq1 => ?_
                rw [show cutV xs (some 1) none = xs.drop 1 from cutV_drop (n := 1) (Nat.le_of_lt x1)]
                have a1 := Rd.sNew (o := .lst (xs.drop 1)) hq1
                repeat walk_at "rd"
                refine Rd.slL (SqL.of (a1 _ _ ld)) fun q2 hq2 => ?_
                rw [show cutV xs none (some 1) = xs.take 1 from cutV_take (n := 1) (Nat.le_of_lt x1)]
                have a2 := Rd.sNew (o := .lst (xs.take 1)) hq2
                refine ⟨q1, q2, _, _, rfl, rfl, a2 _ _ upd_same, upd_same, Nat.le_of_lt (Rd.szl (by simp; omega)), fun q3 hq3 => ?_⟩
                have a3 := Rd.sNew (o := .lst (xs.drop 1 ++ xs.take 1)) hq3
                have sb := (a1.trans a2).trans a3
                have b3 : upd (upd (upd H13 q1 (.lst (xs.drop 1))) q2 (.lst (xs.take 1))) q3 (.lst (xs.drop 1 ++ xs.take 1)) q3 = some (.lst (xs.drop 1 ++ xs.take 1)) := upd_same
                generalize upd (upd (upd H13 q1 (.lst (xs.drop 1))) q2 (.lst (xs.take 1))) q3 (.lst (xs.drop 1 ++ xs.take 1)) = H14 at sb b3 ⊢
                have prb := prd.mono sb
                have un : unordered (zs.drop 1 ++ zs.take 1) = true := un_turn (made_pw md) (by omega)
                repeat walk_at "rd"
                refine ⟨.ref q3, .int 0, rfl, .inl ⟨.inr ⟨q3, _, (zs.drop 1 ++ zs.take 1).map some, rfl, SqL.of b3, by simp; omega, by rw [List.map_append, List.map_take, List.map_drop]; exact pair_cat (sps_drop 1 prb) (sps_take 1 prb), .inr ⟨_, rfl, un⟩⟩, fun r H6' s6 hr6 => ?_⟩⟩
                repeat walk_at "rd"
                refine neE hr6 (s6 _ _ (sb _ _ dud)) ?_
                repeat walk_at "rd"
                exact ⟨_, rfl, sb.trans s6⟩
              · repeat walk_at "rd"
                exact ⟨_, rfl, Same.refl _⟩
            · rintro σ H14 ⟨z3, rfl, se⟩
              have ke := kd.trans (Keep.same se)
              have le := se _ _ ld
              have pre := prd.mono se
              clear kd ld dud prd se
              repeat walk_at "rd"
              refine forLi ?_
              repeat walk_at "rd"
              refine ⟨Rd.sz (by simp), fun t2 h2 => ?_⟩
              have w1 := Rd.sNew (o := .lst []) h2
              have e2 : upd H14 t2 (.lst []) t2 = some (.lst []) := upd_same
              generalize upd H14 t2 (.lst []) = H15 at w1 e2 ⊢
              refine ⟨Rd.sz (by simp), fun nl hnl => ?_⟩
              have w2 := Rd.sNew (o := .lst [.non, .int 0, .str "full", .ref t2, .bl true]) hnl
              have n8 : upd H15 nl (.lst [.non, .int 0, .str "full", .ref t2, .bl true]) nl = some (.lst [.non, .int 0, .str "full", .ref t2, .bl true]) := upd_same
              generalize upd H15 nl (.lst [.non, .int 0, .str "full", .ref t2, .bl true]) = H16 at w2 n8 ⊢
              have w12 := w1.trans w2
              have odd : ∀ v ∈ ([.non, .int 0, .str "full", .ref t2, .bl true] : List V), ∃ (d : PyData) (ty : Value), (∀ H', Same H16 H' → TyX K H' v ty ∧ Dp K H' v d) ∧ PySem.W.kitOne K ty (.ref CK) = some false ∧ SeqAt.shaped (.list [.str "book", d, .bool true, .bool false]) = true := by
                intro v hv
                simp only [List.mem_cons, List.not_mem_nil, or_false] at hv
                rcases hv with rfl | rfl | rfl | rfl | rfl
                · exact ⟨.none, .type "NoneType", fun H' _ => ⟨.base .non, .non⟩, N.n, by decide +kernel⟩
                · exact ⟨.int 0, .type "int", fun H' _ => ⟨.base (.int _), .int _⟩, N.i, by decide +kernel⟩
                · exact ⟨.str "full", .type "str", fun H' _ => ⟨.base (.str _), .str _⟩, N.s, by decide +kernel⟩
                · exact ⟨.list [], .type "list", fun H' sv => ⟨lst_ty (SqL.of (sv _ _ (w2 _ _ e2))), .lst (SqL.of (sv _ _ (w2 _ _ e2))) .nil⟩, N.l, by decide +kernel⟩
                · exact ⟨.bool true, .type "bool", fun H' _ => ⟨.base (.bl _), .bl _⟩, N.b, by decide +kernel⟩
              refine ⟨nl, rfl, ⟨_, SqL.of n8⟩, ?_⟩
              refine for_list (K := K) (a := nl) (xs := [.non, .int 0, .str "full", .ref t2, .bl true]) (fun i σ H' => ∃ z3 : Option V, σ = [some (.ref p), some (.ref l), some (.ref du), z3, some (.int (n : Int))] ∧ Same H16 H') ⟨_, rfl, Same.refl _⟩ (fun _ _ _ _ ⟨_, _, s⟩ => SqL.of (s _ _ n8)) ?_ ?_
              · rintro i v σ H17 hv ⟨z3, rfl, s9⟩
                obtain ⟨d, ty, hv2, kt, sh⟩ := odd v (List.mem_of_getElem? hv)
                have s79 := w12.trans s9
                repeat walk_at "rd"
                refine ⟨.ref l, v, rfl, .inr ⟨⟨l, xs, zs, rfl, SqL.of (s79 _ _ le), by omega, pre.mono s79, made_ord md, ty, fun H' sv => (hv2 H' (s9.trans sv)).1, kt⟩, fun r H18 s8 hr8 => ?_⟩⟩
                repeat walk_at "rd"
                refine ⟨Rd.sz (by simp), fun q2 hq2 => ?_⟩
                have a2 := Rd.sNew (o := .lst [.str "book", v, .bl true, .bl false]) hq2
                have sv := ((s9.trans s8).trans a2)
                have dv := (hv2 _ sv).2
                refine Rd.neD (d := .list [.str "book", d, .bool true, .bool false]) (e := .list [.str "book", d, .bool true, .bool false]) (.lst (SqL.of (a2 _ _ hr8)) (.cons (.str _) (.cons dv (.cons (.bl _) (.cons (.bl _) .nil))))) (.lst (SqL.of upd_same) (.cons (.str _) (.cons dv (.cons (.bl _) (.cons (.bl _) .nil))))) sh sh ?_
                rw [SeqAt.eqv_refl _ (SeqAt.canLay_of_shaped sh)]
                repeat walk_at "rd"
                exact ⟨_, rfl, sv⟩
              · rintro σ H17 ⟨z3, rfl, s9⟩
                repeat walk_at "rd"
                exact q H17 ((ke.trans (Keep.same w12)).trans (Keep.same s9))
end
end Ab
namespace Ab
open M6 PySem.Spec PyProof.Rows
/-! ### what a laid table holds -/
theorem sub_filter {α : Type} [DecidableEq α] : ∀ {L M : List α}, L.Sublist M → M.Nodup → M.filter (fun m => decide (m ∈ L)) = L
  | _, _, .slnil, _ => rfl
  | L, _, .cons a h, nd => by
    obtain ⟨n1, n2⟩ := List.nodup_cons.mp nd
    rw [List.filter_cons_of_neg (by simp; exact fun z => n1 (h.subset z))]
    exact sub_filter h n2
  | _, _, .cons₂ (l₁ := L) (l₂ := M) a h, nd => by
    obtain ⟨n1, n2⟩ := List.nodup_cons.mp nd
    rw [List.filter_cons_of_pos (by simp)]
    refine congrArg _ ?_
    rw [← sub_filter h n2]
    refine List.filter_congr fun m hm => ?_
    rw [sub_filter h n2]
    have : m ≠ a := fun e => n1 (e ▸ hm)
    simp [this]
theorem en_miss : ∀ (zs : List Sp3) (s : Tt) (x m : Str), (∀ z ∈ zs, ¬ (clsAt z.1 = x ∧ z.2.1 = m)) → (zs.foldl putZ s).en x m = s.en x m
  | [], _, _, _, _ => rfl
  | z :: r, s, x, m, h => by
    have ih := en_miss r (putZ s z) x m fun y hy => h y (List.mem_cons_of_mem _ hy)
    rw [List.foldl_cons, ih]
    show fset s.en (clsAt z.1) (fset (s.en (clsAt z.1)) z.2.1 (some (.w z.2.2))) x m = _
    have h0 := h z List.mem_cons_self
    by_cases c : x = clsAt z.1
    · subst c
      rw [fset_at, fset_ne (fun e => h0 ⟨rfl, e.symm⟩)]
    · rw [fset_ne c]
theorem cls_inj : ∀ i < 3, ∀ j < 3, clsAt i = clsAt j → i = j := by decide +kernel
theorem en_hit : ∀ (zs : List Sp3) (s : Tt), (∀ z ∈ zs, z.1 < 3) → (zs.map keyZ).Nodup → ∀ z ∈ zs, (zs.foldl putZ s).en (clsAt z.1) z.2.1 = some (.w z.2.2)
  | [], _, _, _, _, h => nomatch h
  | y :: r, s, l3, nd, z, h => by
    obtain ⟨n1, n2⟩ := List.nodup_cons.mp nd
    rw [List.foldl_cons]
    rcases List.mem_cons.mp h with rfl | h
    · rw [en_miss r _ _ _ fun y hy c => n1 (by
        have e1 := cls_inj _ (l3 y (List.mem_cons_of_mem _ hy)) _ (l3 z List.mem_cons_self) c.1
        exact List.mem_map.mpr ⟨y, hy, Prod.ext e1 c.2⟩)]
      show fset s.en (clsAt z.1) (fset (s.en (clsAt z.1)) z.2.1 (some (.w z.2.2))) (clsAt z.1) z.2.1 = _
      rw [fset_at, fset_at]
    · exact en_hit r _ (fun w hw => l3 w (List.mem_cons_of_mem _ hw)) n2 z h
theorem en_word : ∀ (zs : List Sp3) (s : Tt), (∀ x m e, s.en x m = some e → ∃ z, e = Ent.w z) → ∀ x m e, (zs.foldl putZ s).en x m = some e → ∃ z, e = Ent.w z
  | [], _, h => h
  | y :: r, s, h => by
    refine en_word r (putZ s y) fun x m e he => ?_
    have he : fset s.en (clsAt y.1) (fset (s.en (clsAt y.1)) y.2.1 (some (.w y.2.2))) x m = some e := he
    by_cases c : x = clsAt y.1
    · subst c
      rw [fset_at] at he
      by_cases d : m = y.2.1
      · subst d
        rw [fset_at] at he
        exact ⟨_, (Option.some.inj he).symm⟩
      · rw [fset_ne d] at he
        exact h _ _ _ he
    · rw [fset_ne c] at he
      exact h _ _ _ he
theorem full_nd : fullK.Nodup := by decide +kernel
theorem full_i : ∀ i < 3, (fullK.filter fun k => decide (k.1 = i)).map (·.2) = methods := by decide +kernel
theorem meth_nd : methods.Nodup := by decide +kernel
theorem made_nd {n : Nat} {zs : List Sp3} (h : Made n zs) : (zs.map keyZ).Nodup := full_nd.sublist (h.1.trans (List.take_sublist _ _))
def ofC (zs : List Sp3) (i : Nat) : List Sp3 := zs.filter fun z => decide (z.1 = i)
theorem ents_laid {n : Nat} {zs : List Sp3} {m : Str → List Str} {fl : Str → Bool} {i : Nat} (h : Made n zs) (hi : i < 3) : entsOf ((laid zs m fl).en (clsAt i)) = (ofC zs i).map fun z => (z.2.1, Ent.w z.2.2) := by
  have base : ∀ x k, (addAll names3 (tt0 m fl)).en x k = none := fun x k => by rw [(plain_all m fl names3).en]
  have l3 : ∀ z ∈ zs, z.1 < 3 := fun z hz => (h.2 z hz).1
  have hit := en_hit zs (addAll names3 (tt0 m fl)) l3 (made_nd h)
  have iff_ : ∀ k, ((laid zs m fl).en (clsAt i) k).isSome = decide (k ∈ (ofC zs i).map (·.2.1)) := by
    intro k
    by_cases c : k ∈ (ofC zs i).map (·.2.1)
    · obtain ⟨z, hz, e⟩ := List.mem_map.mp c
      obtain ⟨h1, h2⟩ := List.mem_filter.mp hz
      have e1 : z.1 = i := of_decide_eq_true h2
      have := hit z h1
      rw [e1] at this
      have e : z.2.1 = k := e
      rw [e] at this
      rw [decide_eq_true c]
      unfold laid
      rw [this]
      rfl
    · rw [decide_eq_false c]
      unfold laid
      rw [en_miss zs _ _ _ fun z hz d => c (List.mem_map.mpr ⟨z, List.mem_filter.mpr ⟨hz, decide_eq_true (cls_inj _ (l3 z hz) _ hi d.1)⟩, d.2⟩), base]
      rfl
  have sub : ((ofC zs i).map (·.2.1)).Sublist methods := by
    have a := (h.1.trans (List.take_sublist _ _)).filter (fun k : Nat × Str => decide (k.1 = i))
    have b := a.map (·.2)
    rw [full_i i hi] at b
    have e : ((zs.map keyZ).filter fun k => decide (k.1 = i)).map (·.2) = (ofC zs i).map (·.2.1) := by
      rw [List.filter_map, List.map_map]
      rfl
    rw [e] at b
    exact b
  unfold entsOf
  have ef : (methods.filter fun k => ((laid zs m fl).en (clsAt i) k).isSome) = (ofC zs i).map (·.2.1) := by
    rw [← sub_filter sub meth_nd]
    refine List.filter_congr fun k _ => ?_
    exact iff_ k
  rw [ef, List.map_map]
  refine List.map_congr_left fun z hz => ?_
  obtain ⟨h1, h2⟩ := List.mem_filter.mp hz
  have e1 : z.1 = i := of_decide_eq_true h2
  have := hit z h1
  rw [e1] at this
  show (z.2.1, ((laid zs m fl).en (clsAt i) z.2.1).getD (.w "")) = _
  unfold laid
  rw [this]
  rfl
end Ab
namespace Ab
open M6 PySem.Spec PyProof.Rows
local macro_rules | `(tactic| walk_at "rd") => `(tactic| (with_reducible first | refine Rd.tt_ ?_ | refine Rd.ff_ ?_ | refine Rd.sfld ?_ | refine Rd.dget ?_ | refine Rd.methR ?_ | refine Rd.propR ?_ | refine Rd.statR ?_ | refine Rd.getR ?_))
theorem enumRd {K : PySem.W.Frag} {ta : L2.TA} {g : TG} {tb : TS} {D : Ends} {σ : L2.St} {H : Hp} (k : ta σ H fun vs H1 => ∃ a xs, vs = [V.ref a] ∧ SqL K H1 a xs ∧ Rd.ForGo (Ite K a) g tb D σ H1) : tFor (iEnum K ta) g tb D σ H := k
theorem bookEq_self (m : Str → List Str) (fl : Str → Bool) : bookEq m m fl fl = true := by
  unfold bookEq eqWays eqFlags
  rw [Bool.and_eq_true, List.all_eq_true, List.all_eq_true]
  exact ⟨fun _ _ => decide_eq_true rfl, fun _ _ => decide_eq_true rfl⟩
theorem neBk {K : PySem.W.Frag} {H : Hp} {Q : VK} {mg : Str → Option Value} {C b w f b' w' f' : Addr} {g g' : Str → Addr} {m : Str → List Str} {fl : Str → Bool} (B : BF K mg C) (ic : BkIC K C) (k : Bk K C H b w f g m fl) (k' : Bk K C H b' w' f' g' m fl) (o : OkM m) (q : Q (.bl false) H) : Ob.rEqO K C (spBkEq K C) true (.ref b) (.ref b') H Q := by
  obtain ⟨dx, hb⟩ := k.ins
  refine ⟨b, dx, _, .ref C, rfl, hb, bk_ty B ic k', by show (Value.ref C == Value.ref C || _) = true; simp, b, w, f, g, m, fl, .ref b', rfl, k, o, .inr ⟨b', w', f', g', m, fl, rfl, k', o, _, rfl, ?_⟩⟩
  rw [if_pos rfl, bookEq_self]
  exact q
theorem pm_ok {m : Str → List Str} (h : PM m) : OkM m := fun o ho x hx => menu_in o ho x ((h o ho).2 x hx)
theorem laid_m (zs : List Sp3) (s : Tt) : (zs.foldl putZ s).m = s.m ∧ (zs.foldl putZ s).fl = s.fl ∧ (zs.foldl putZ s).bs = s.bs := by
  induction zs generalizing s with
  | nil => exact ⟨rfl, rfl, rfl⟩
  | cons z zs ih => exact ih (putZ s z)
theorem laid_is (zs : List Sp3) (m : Str → List Str) (fl : Str → Bool) : (laid zs m fl).m = m ∧ (laid zs m fl).fl = fl ∧ ∀ n, (laid zs m fl).bs n = [] := by
  have p := plain_all m fl names3
  obtain ⟨h1, h2, h3⟩ := laid_m zs (addAll names3 (tt0 m fl))
  exact ⟨h1.trans p.m, h2.trans p.fl, fun n => by unfold laid; rw [h3]; exact p.bs n⟩
theorem laid_alike (zs : List Sp3) (m : Str → List Str) (fl : Str → Bool) : Alike (laid zs m fl) (laid zs m fl) where
  ns := rfl
  bs := fun _ _ => rfl
  en := fun _ _ => rfl
  wd := fun n _ k _ e he => en_word zs (addAll names3 (tt0 m fl)) (fun x k e he => by rw [(plain_all m fl names3).en] at he; cases he) n k e he
  sn := by rw [laid_names]; decide +kernel
  sb := fun n _ => by rw [(laid_is zs m fl).2.2 n]; decide +kernel
theorem sc_ty {K : PySem.W.Frag} {mg : Str → Option Value} {CS CT CB CK : Addr} {H0 H : Hp} {x p t : Addr} {ta : TA} {ns : List Str} {s : Tt} {c : Nat} (B : SF K mg CS) (ic : BkIC K CS) (sc : ScAt K CS CT CB CK H0 H x p t ta ns s c) : TyX K H (.ref x) (.ref CS) := by
  obtain ⟨dx, b, hx⟩ := sc.ins
  exact .base (.ins hx B.cl ic.hc ic.hs ic.ht B.ob)
theorem ScAt.mono {K : PySem.W.Frag} {CS CT CB CK : Addr} {H0 H H' : Hp} {x p t : Addr} {ta : TA} {ns : List Str} {s : Tt} {c : Nat} (sc : ScAt K CS CT CB CK H0 H x p t ta ns s c) (sm : Same H H') : ScAt K CS CT CB CK H0 H' x p t ta ns s c :=
  ⟨let ⟨dx, b, h⟩ := sc.ins; ⟨dx, b, sm _ _ h⟩, sqT_same sm sc.nm, sc.tb.mono sm⟩
/-- what is told of an entry -/
def dE (z : Sp3) : PyData := .tuple [.str z.2.1, .str z.2.2]
theorem lay_dE {z : Sp3} (h : z.1 < 3 ∧ z.2.1 ∈ methods ∧ z.2.2 ∈ entW) : PyData.canLay0 (dE z) = true ∧ PyData.depth (dE z) ≤ 3 := by
  obtain ⟨i, m, e⟩ := z
  obtain ⟨_, h2, h3⟩ := h
  have h2 : m ∈ methods := h2
  have h3 : e ∈ entW := h3
  have key : ∀ m ∈ methods, ∀ e ∈ entW, PyData.canLay0 (dE (0, m, e)) = true ∧ PyData.depth (dE (0, m, e)) ≤ 3 := by decide +kernel
  exact key m h2 e h3
theorem lay_es : ∀ {zs : List Sp3}, (∀ z ∈ zs, z.1 < 3 ∧ z.2.1 ∈ methods ∧ z.2.2 ∈ entW) → PyData.canLayAll0 (zs.map dE) = true
  | [], _ => rfl
  | a :: r, h => by
    have h1 := (lay_dE (h a (by simp))).1
    have h2 := lay_es (zs := r) fun z hz => h z (by simp [hz])
    rw [List.map_cons]
    simp [PyData.canLayAll0, h1, h2]
theorem dep_es : ∀ {zs : List Sp3}, (∀ z ∈ zs, z.1 < 3 ∧ z.2.1 ∈ methods ∧ z.2.2 ∈ entW) → PyData.depthAll (zs.map dE) ≤ 3
  | [], _ => by simp [PyData.depthAll]
  | a :: r, h => by
    have h1 := (lay_dE (h a (by simp))).2
    have h2 := dep_es (zs := r) fun z hz => h z (by simp [hz])
    rw [List.map_cons]
    simp only [PyData.depthAll]
    omega
theorem shaped_es {zs : List Sp3} (h : ∀ z ∈ zs, z.1 < 3 ∧ z.2.1 ∈ methods ∧ z.2.2 ∈ entW) : SeqAt.shaped (.list (zs.map dE)) = true := by
  have e1 := lay_es h
  have e2 := dep_es h
  simp [SeqAt.shaped, PyData.canLay0, e1, PyData.depth]
  omega
def DuAt (K : PySem.W.Frag) (z : Sp3) (y : V) (H : Hp) : Prop := ∃ q, y = .ref q ∧ SqT K H q [.str z.2.1, .str z.2.2]
theorem dp_due {K : PySem.W.Frag} {H : Hp} : ∀ {zs : List Sp3} {ys : List V}, Paired (fun z y => DuAt K z y H) zs ys → DpAll K H ys (zs.map dE)
  | _, _, .nil => .nil
  | _, _, .cons h t => by
    obtain ⟨q, rfl, h1⟩ := h
    exact .cons (.tup h1 (.cons (.str _) (.cons (.str _) .nil))) (dp_due t)
theorem dp_ents {K : PySem.W.Frag} {CB : Addr} {H : Hp} : ∀ {zs : List Sp3} {ys : List V}, Paired (fun b y => EnAt K CB b y H) (zs.map fun z => (z.2.1, Ent.w z.2.2)) ys → DpAll K H ys (zs.map dE)
  | [], _, .nil => .nil
  | z :: zs, _, .cons h t => by
    obtain ⟨p, v, rfl, h1, h2⟩ := h
    obtain ⟨rfl, _⟩ := (show v = .str z.2.2 ∧ z.2.2 ∈ entW from h2)
    exact .cons (.tup h1 (.cons (.str _) (.cons (.str _) .nil))) (dp_ents t)
section
variable {P : Program} {w : World} {K : PySem.W.Frag} {mg : Str → Option Value} {base : Heap}
abbrev sL_right : Stmt := top 89
abbrev nL_right : List Str := ["_law_entries_here", "_law_book_here", "_law_kept", "_law_twin", "_law_told", "_law_table", "_law_at", "_law_name", "_law_due", "_law_one_here"]
theorem scL_right : FnScope nL_right ["_law_entries_here", "_law_book_here"] (defScope sL_right) := ⟨rfl, rfl, rfl, by decide +kernel, rfl, by decide +kernel, by decide +kernel⟩
def spRight (K : PySem.W.Frag) (CK : Addr) : Sp := fun vs H Q _ => ∃ (l b w f : Addr) (g : Str → Addr) (m : Str → List Str) (fl : Str → Bool) (xs : List V) (zs : List Sp3), vs = [.ref l, .ref b] ∧ H l = some (.lst xs) ∧ SpsAt K H (zs.map some) xs ∧ Made 42 zs ∧ Bk K CK H b w f g m fl ∧ PM m ∧ ∀ H', Same H H' → Q (.bl true) H'
theorem ok_right (T : Txt K mg) {C_Scene C_Table CB C_Book CNE CNB : Addr} (K_Scene : SF K mg C_Scene) (K_Table : TF K mg C_Table) (K_Book : BF K mg C_Book) (icS : BkIC K C_Scene) (icT : BkIC K C_Table) (icB : BkIC K C_Book) (M_Book_twin : Ob.MCal P w K mg base CX0 C_Book 3 "twin" (spBkTwin K C_Book)) (CSpread : Ex.CalX P w K mg base 16 "spread" (spSpread K C_Scene C_Table CB C_Book CNE CNB))
    (M_Scene_classes : Ob.MCal P w K mg base CX0 C_Scene 1 "classes" (spSClasses K C_Scene C_Table CB C_Book)) (M_Scene_table : Ob.MCal P w K mg base CX0 C_Scene 7 "table" (spSTable K C_Scene C_Table CB C_Book)) (CL_laid : CalG P w K mg base 15 "_law_laid" (spLaid K C_Scene C_Table CB C_Book)) (Q_Table : Ob.EqCal P w K mg base CX0 C_Table 4 (spTEq K C_Table CB C_Book)) (Q_Book : Ob.EqCal P w K mg base CX0 C_Book 1 (spBkEq K C_Book))
    (M_Table_book : Ob.MCal P w K mg base CX0 C_Table 4 "book" (spTBook K C_Table CB C_Book)) (M_Table_bases : Ob.MCal P w K mg base CX0 C_Table 3 "bases" (spTBases K C_Table CB C_Book)) (M_Table_entries : Ob.MCal P w K mg base CX0 C_Table 3 "entries" (spTEnts K C_Table CB C_Book)) (M_Table_listed : Ob.MCal P w K mg base CX0 C_Table 1 "listed" (spTListed K C_Table CB C_Book))
    (D : DefAt K mg "_law_right" sL_right ["_law_entries_here", "_law_book_here"]) : CalG P w K mg base 18 "_law_right" (spRight K C_Book) := by
  refine D.by scL_right (fun vs H Q E h => ?_) (fun fn cd A hg outer s H vs Q E hr h => ?_)
  · obtain ⟨_, _, _, _, _, _, _, _, _, rfl, _⟩ := h
    rfl
  · obtain ⟨l, b, w0, f0, g, m, fl, xs, zs, rfl, hl, pr, md, bk, pm, q⟩ := h
    have lx : zs.length = xs.length := by have := pair_len' pr; rwa [List.length_map] at this
    have l42 := made_len md
    have om := pm_ok pm
    obtain ⟨db, hb⟩ := bk.ins
    let Q_sp_Table := spTEq K C_Table CB C_Book
    let Q_sp_Book := spBkEq K C_Book
    refine ⟨_, (pss_cons (ps_par (i := 2) (j := 3) (by rfl) scL_right.nd rfl rfl (by decide) rfl rfl (pa_cons (pe_callTy (r := Rd.rListK K) Rd.callList (by rfl) T.list (by decide +kernel) (pa_cons (pv 0) pa_nil)) (pa_cons (Ob.meth0 (pv 1) K_Book.cl M_Book_twin hg hr (by decide) pass0) pa_nil)) (by rfl))
  (pss_cons (ps_set (i := 4) scL_right.nd rfl (Or.inl rfl) (Ex.pe_x0 CSpread hg hr (by decide) (pa_cons (pv 0) (pa_cons (pv 1) pa_nil))))
  (pss_cons (ps_if (PW.pt (pw_or (pt_not (pt_val (pe_callB (r := rIsi K) call_isi (by rfl) T.isinstance (by decide +kernel) (pa_cons (pv 4) (pa_cons (pe_glob (v := .ref C_Scene) (by rfl) K_Scene.g rfl) pa_nil))))) (pw_or1 (pt_cmpR (r := rNeD K) (op_neD hr.units) (Ob.meth0 (pv 4) K_Scene.cl M_Scene_classes hg hr (by decide) pass0) (pe_tup (pa_cons pe_str (pa_cons pe_str (pa_cons pe_str pa_nil)))) (nomark _)))))
  (pss_one (ps_ret pe_bl))
  pss_nil)
  (pss_cons (ps_set (i := 5) scL_right.nd rfl (Or.inl rfl) (Ob.meth0 (pv 4) K_Scene.cl M_Scene_table hg hr (by decide) pass0))
  (pss_cons (ps_if (PW.pt (pw_or (pt_cmpR (r := Ob.rEqO K C_Table Q_sp_Table true) (Ob.op_neO Q_Table K_Table.ne K_Table.ob hg hr (by decide) pass0) (pv 5) (Ob.meth0 (pe_cG CL_laid hg hr (by decide) (pa_cons (pv 0) (pa_cons (pv 1) pa_nil))) K_Scene.cl M_Scene_table hg hr (by decide) pass0) (nomark _)) (pw_or1 (pt_cmpR (r := Ob.rEqO K C_Book Q_sp_Book true) (Ob.op_neO Q_Book K_Book.ne K_Book.ob hg hr (by decide) pass0) (Ob.meth0 (pv 5) K_Table.cl M_Table_book hg hr (by decide) pass0) (pv 3) (nomark _)))))
  (pss_one (ps_ret pe_bl))
  pss_nil)
  (pss_cons (ps_if (PW.pt (pw_or (pt_cmpR (r := rNeD K) (op_neD hr.units) (pv 0) (pv 2) (nomark _)) (pw_or1 (pt_cmpR (r := Ob.rEqO K C_Book Q_sp_Book true) (Ob.op_neO Q_Book K_Book.ne K_Book.ob hg hr (by decide) pass0) (pv 1) (pv 3) (nomark _)))))
  (pss_one (ps_ret pe_bl))
  pss_nil)
  (pss_cons (ps_for (wi := iEnum K _) PassesOwn.never rfl (pi_enum (by rfl) T.enumerate (pa_cons (pe_lst (pa_cons pe_str (pa_cons pe_str (pa_cons pe_str pa_nil)))) pa_nil)) (pg_tup (by rfl) (pgs_cons (pg_name (i := 6) scL_right.nd rfl (Or.inr rfl)) (pgs_cons (pg_name (i := 7) scL_right.nd rfl (Or.inl rfl)) pgs_nil)))
  (pss_cons (ps_setLc (i := 8) (wi := iList K _) (own := [("_law_one_here", 9)]) (g := gName 9) (by rfl) scL_right.nd rfl rfl (sw_true rfl rfl rfl (by decide +kernel)) (pi_list (pv 0)) (blkOk_by (N := nL_right) (sc := defScope sL_right) (by decide +kernel)) (fun _ _ _ _ _ => pg_name (i := 9) scL_right.nd rfl (Or.inl rfl)) (fun _ _ _ _ _ => (pts_one (pt_cmpR (r := rEqD K) (op_eqD hr.units) (pe_ix (r := rIxT K) ix_tup (pv 9) pe_int (fun _ _ => rfl)) (pv 6) (nomark _)))) (fun _ _ _ _ _ => (pe_slice (r := rSlA K) sl_tupA (pv 9) (po_some pe_int) po_none)))
  (pss_one (ps_if (PW.pt (pw_or (pt_cmpR (r := rNeD K) (op_neD hr.units) (Ob.meth (pv 5) K_Table.cl M_Table_bases hg hr (by decide) pass0 (pa_cons (pv 7) pa_nil)) (pe_tup pa_nil) (nomark _)) (pw_or1 (pt_cmpR (r := rNeD K) (op_neD hr.units) (Ob.meth (pv 5) K_Table.cl M_Table_entries hg hr (by decide) pass0 (pa_cons (pv 7) pa_nil)) (pv 8) (nomark _)))))
  (pss_one (ps_ret pe_bl))
  pss_nil))))
  (pss_one (ps_ret (pe_cmpR (r := rEqD K) (op_eqD hr.units) (Ob.meth0 (pv 5) K_Table.cl M_Table_listed hg hr (by decide) pass0) (pe_lst (pa_cons pe_str (pa_cons pe_str (pa_cons pe_str pa_nil)))) (nomark _))))))))))), ?_⟩
    repeat walk_at "rd"
    refine ⟨l, xs, rfl, .inl (SqL.of hl), fun kp hkp => ?_⟩
    have s1 := Rd.sNew (o := .lst xs) hkp
    have kp1 : upd H kp (.lst xs) kp = some (.lst xs) := upd_same
    generalize upd H kp (.lst xs) = H1 at s1 kp1 ⊢
    repeat walk_at "rd"
    refine ⟨b, db, _, rfl, s1 _ _ hb, rfl, ?_⟩
    repeat walk_at "rd"
    refine ⟨b, w0, f0, g, m, fl, rfl, bk.mono s1, fun tw w2 f2 H2 s2 _ _ _ bk2 => ?_⟩
    have s02 := s1.trans s2
    have kp2 := s2 _ _ kp1
    have pr2 := pr.mono s02
    refine ⟨_, _, rfl, ?_⟩
    repeat walk_at "rd"
    refine .inr ⟨l, .ref b, xs, zs.map some, rfl, SqL.of (s02 _ _ hl), by omega, pr2, .inr ⟨zs, rfl, .inr ⟨made_ord md, .inr ⟨b, w0, f0, g, m, fl, rfl, bk.mono s02, fun x p t ta H3 s3 sc => ?_⟩⟩⟩⟩
    have nn := laid_names zs m fl
    have nnd : (laid zs m fl).ns.Nodup := by rw [nn]; exact names3_nd
    have n8 : (laid zs m fl).ns.length ≤ 8 := by rw [nn]; decide
    obtain ⟨dx, bx, hx⟩ := sc.ins
    repeat walk_at "rd"
    refine ⟨.ref x, .ref C_Scene, .ref C_Scene, .ref C_Scene, true, rfl, .own _, sc_ty K_Scene icS sc, kit_self, ?_⟩
    repeat walk_at "rd"
    refine Rd.ff_ ?_
    repeat walk_at "rd"
    refine ⟨x, dx, _, rfl, hx, rfl, ?_⟩
    repeat walk_at "rd"
    refine ⟨H2, x, p, t, ta, names3, _, _, rfl, sc, ?_⟩
    repeat walk_at "rd"
    refine ⟨Rd.sz (by simp), fun q0 hq0 => ?_⟩
    have s4 := Rd.sNew (o := .tup [.str "left", .str "right", .str "item"]) hq0
    refine Rd.neD (d := dT names3) (e := dT names3) (.tup (sqT_same s4 sc.nm) (Dt.dp_strs _)) (.tup (xs := names3.map V.str) (.inl (.inl upd_same)) (Dt.dp_strs _)) (by decide +kernel) (by decide +kernel) ?_
    rw [show PyData.eqv (dT names3) (dT names3) = true from by decide +kernel]
    generalize upd H3 q0 (.tup [.str "left", .str "right", .str "item"]) = H4 at s4 ⊢
    refine ⟨_, rfl, ?_⟩
    refine Rd.ff_ ?_
    have sc4 := sc.mono s4
    have s04 := (s02.trans s3).trans s4
    repeat walk_at "rd"
    refine ⟨x, dx, _, rfl, s4 _ _ hx, rfl, ?_⟩
    repeat walk_at "rd"
    refine ⟨H2, x, p, t, ta, names3, _, _, rfl, sc4, nnd, n8, fun t5 ta5 H5 s5 tb5 => ?_⟩
    have s05 := s04.trans s5
    repeat walk_at "rd"
    refine ⟨l, b, w0, f0, g, m, fl, xs, zs, rfl, SqL.of (s05 _ _ hl), by omega, pr.mono s05, bk.mono s05, fun x2 p2 t2 ta2 H6 s6 sc6 => ?_⟩
    obtain ⟨dx2, bx2, hx2⟩ := sc6.ins
    refine ⟨x2, dx2, _, rfl, hx2, rfl, ?_⟩
    repeat walk_at "rd"
    refine ⟨H5, x2, p2, t2, ta2, names3, _, _, rfl, sc6, nnd, n8, fun t7 ta7 H7 s7 tb7 => ?_⟩
    have tb57 := tb5.mono (s6.trans s7)
    obtain ⟨le1, le2, le3⟩ := laid_is zs m fl
    have ng : ∀ k ∈ (laid zs m fl).ns, ta5.gE k ≠ ta7.gE k := fun k hk e => by
      obtain ⟨kv, hk1, _⟩ := tb5.ee k hk
      have h1 := s6 _ _ hk1
      rw [e, tb7.new.2.2.2.2 k hk] at h1
      cases h1
    refine neTb K_Table icT tb57 tb7 (laid_alike zs m fl) ng (by rw [le1]; exact om) (by rw [le1]; exact om) ?_
    rw [bookEq_self]
    refine ⟨_, rfl, ?_⟩
    refine Rd.ff_ ?_
    obtain ⟨dt5, ht5⟩ := tb57.ins
    repeat walk_at "rd"
    refine ⟨t5, dt5, _, rfl, ht5, rfl, ?_⟩
    repeat walk_at "rd"
    refine ⟨H4, t5, ta5, _, _, rfl, tb57, fun g8 b8 w8 f8 H8 s8 _ _ _ bk8 => ?_⟩
    rw [le1, le2] at bk8
    have s58 := (s6.trans s7).trans s8
    have s28 := ((s3.trans s4).trans s5).trans s58
    have s08 := s02.trans s28
    repeat walk_at "rd"
    refine neBk K_Book icB bk8 (bk2.mono s28) om ?_
    repeat walk_at "rd"
    refine Rd.neD (d := .list (zs.map dZ)) (e := .list (zs.map dZ)) (.lst (SqL.of (s08 _ _ hl)) (dp_zs (pr.mono s08))) (.lst (SqL.of (s28 _ _ kp2)) (dp_zs (pr.mono s08))) (shaped_zs md.2 l42) (shaped_zs md.2 l42) ?_
    rw [SeqAt.eqv_refl _ (SeqAt.canLay_of_shaped (shaped_zs md.2 l42))]
    repeat walk_at "rd"
    refine ⟨_, rfl, ?_⟩
    repeat walk_at "rd"
    refine neBk K_Book icB (bk.mono s08) (bk2.mono s28) om ?_
    repeat walk_at "rd"
    have tb8 := tb57.mono s8
    have pr8 := pr.mono s08
    have l8 := s08 _ _ hl
    clear bk8 tb7 sc6 hx2 sc4 hx sc hkp bk2 kp2 kp1
    refine enumRd ?_
    repeat walk_at "rd"
    refine ⟨Rd.sz (by simp), fun nl hnl => ?_⟩
    have s9 := Rd.sNew (o := .lst [.str "left", .str "right", .str "item"]) hnl
    have n9 : upd H8 nl (.lst [.str "left", .str "right", .str "item"]) nl = some (.lst (names3.map V.str)) := upd_same
    generalize upd H8 nl (.lst [.str "left", .str "right", .str "item"]) = H9 at s9 n9 ⊢
    refine ⟨nl, names3.map V.str, rfl, SqL.of n9, ?_⟩
    refine for_it (walk_enum (K := K) (a := nl) (xs := names3.map V.str)) (fun i σ H' => ∃ (z6 z7 z8 z9 : Option V), σ = [some (.ref l), some (.ref b), some (.ref kp), some (.ref tw), some (.ref x), some (.ref t5), z6, z7, z8, z9] ∧ Same H9 H') ⟨none, none, none, none, rfl, Same.refl _⟩ (fun i σ H' _ ⟨_, _, _, _, _, s⟩ => SqL.of (s _ _ n9)) ?_ ?_
    · rintro i x0 σ H10 H11 hi ⟨z6, z7, z8, z9, rfl, s10⟩ ⟨T', x1, y1, rfl, hT, rfl, ex, ey⟩
      cases ex
      rw [List.length_map] at hi
      have hi3 : i < 3 := hi
      have hy1 : y1 = .str (clsAt i) := by
        have ey : (names3.map V.str)[i]? = some y1 := ey
        have h : i = 0 ∨ i = 1 ∨ i = 2 := by omega
        rcases h with rfl | rfl | rfl <;> exact (Option.some.inj ey).symm
      subst hy1
      have sT := Rd.sNew (o := .tup [.int (i : Int), .str (clsAt i)]) hT
      refine gtup (.inl (.inl upd_same)) rfl ?_
      have s8T := (s9.trans s10).trans sT
      generalize upd H10 T' (.tup [.int (i : Int), .str (clsAt i)]) = H12 at sT s8T ⊢
      repeat walk_at "rd"
      have prT := pr8.mono s8T
      refine Rd.lcL (tl := tVar 0) (a := l) (xs := xs) (bs := zs) (fun z x H' => SpAt K H' (some z) x) (DuAt K) (fun z => decide (z.1 = i)) id (fun R k => Rd.var rfl k) (SqL.of (s8T _ _ l8)) (fun _ _ _ _ s h => h.mono s) (fun _ _ _ _ s ⟨r, e, h⟩ => ⟨r, e, sqT_same s h⟩) (pair_some prT) (by omega) (fun _ => rfl) ?_ ?_ ?_
      · rintro ⟨ci, mm, ee⟩ y Ha R _ _ ha sa k
        obtain ⟨pp, rfl, hpp, _⟩ := (show ∃ p, y = .ref p ∧ SqT K Ha p [.int (ci : Nat), .str mm, .str ee] ∧ ci < 3 ∧ mm ∈ methods ∧ ee ∈ entW from ha)
        repeat walk_at "rd"
        refine Rd.ixT hpp rfl ?_
        repeat walk_at "rd"
        refine Rd.eqD (d := .int (ci : Nat)) (e := .int (i : Nat)) (.int _) (.int _) (by rfl) (by rfl) ?_
        have e1 : PyData.eqv (.int (ci : Nat)) (.int (i : Nat)) = decide (ci = i) := by
          by_cases c : ci = i
          · subst c; simp [PyData.eqv]
          · have c' : ¬ ((ci : Int) = i) := fun e => c (Int.ofNat.inj e)
            simp [PyData.eqv, c, c']
        rw [e1]
        exact ⟨_, rfl, k Ha (Same.refl _)⟩
      · rintro ⟨ci, mm, ee⟩ y Ha R _ _ _ ha sa k
        obtain ⟨pp, rfl, hpp, _⟩ := (show ∃ p, y = .ref p ∧ SqT K Ha p [.int (ci : Nat), .str mm, .str ee] ∧ ci < 3 ∧ mm ∈ methods ∧ ee ∈ entW from ha)
        repeat walk_at "rd"
        refine ⟨pp, _, rfl, hpp, fun c => Nat.noConfusion (show (1 : Nat) = 0 from c.1), fun _ q1 hq1 => ?_⟩
        rw [show cutV [V.int (ci : Nat), .str mm, .str ee] (some 1) none = [.str mm, .str ee] from rfl]
        refine k _ _ (Rd.sNew hq1) fun D o hD hD1 => ⟨q1, rfl, .inl (.inl ?_)⟩
        rw [upd_ne (fun e : q1 = D => hD1 (by rw [← e]; exact hq1))]
        exact upd_same
      · intro D9 ys Ha hD9 sa hda prD
        rw [List.map_id] at prD
        have s8a := s8T.trans sa
        have tba := tb8.mono s8a
        obtain ⟨dta, hta⟩ := tba.ins
        have mem : clsAt i ∈ (laid zs m fl).ns := by rw [nn]; exact (cls_in i hi3).1
        have gz : ∀ z ∈ ofC zs i, z.1 < 3 ∧ z.2.1 ∈ methods ∧ z.2.2 ∈ entW := fun z hz => md.2 z (List.mem_filter.mp hz).1
        repeat walk_at "rd"
        refine ⟨t5, dta, _, rfl, hta, rfl, ?_⟩
        repeat walk_at "rd"
        refine ⟨H4, t5, ta5, _, _, clsAt i, rfl, tba, mem, fun pb hpb => ?_⟩
        rw [le3] at hpb
        repeat walk_at "rd"
        refine ⟨Rd.sz (by simp), fun q0 hq0 => ?_⟩
        have sb := Rd.sNew (o := .tup []) hq0
        refine Rd.neD (d := dT []) (e := dT []) (.tup (sqT_same sb hpb) (Dt.dp_strs [])) (.tup (xs := []) (.inl (.inl upd_same)) .nil) (by decide +kernel) (by decide +kernel) ?_
        rw [show PyData.eqv (dT []) (dT []) = true from by decide +kernel]
        generalize upd Ha q0 (.tup []) = Hb at sb ⊢
        refine ⟨_, rfl, ?_⟩
        refine Rd.ff_ ?_
        repeat walk_at "rd"
        refine ⟨t5, dta, _, rfl, sb _ _ hta, rfl, ?_⟩
        repeat walk_at "rd"
        refine ⟨H4, t5, ta5, _, _, clsAt i, rfl, tba.mono sb, mem, fun le ye Hc nle sc' hle prE => ?_⟩
        rw [ents_laid md hi3] at prE
        repeat walk_at "rd"
        have prD2 : Paired (fun z y => DuAt K z y Hc) (ofC zs i) ys := Rd.pair_imp (fun z y ⟨r, e, h⟩ => ⟨r, e, sqT_same (sb.trans sc') h⟩) prD
        refine Rd.neD (d := .list ((ofC zs i).map dE)) (e := .list ((ofC zs i).map dE)) (.lst (SqL.of hle) (dp_ents prE)) (.lst (SqL.of (sc' _ _ (sb _ _ hda))) (dp_due prD2)) (shaped_es gz) (shaped_es gz) ?_
        rw [SeqAt.eqv_refl _ (SeqAt.canLay_of_shaped (shaped_es gz))]
        repeat walk_at "rd"
        exact ⟨_, _, _, _, rfl, (s10.trans sT).trans (sa.trans (sb.trans sc'))⟩
    · rintro σ H10 ⟨z6, z7, z8, z9, rfl, s10⟩
      have sA := s9.trans s10
      obtain ⟨dtA, htA⟩ := (tb8.mono sA).ins
      repeat walk_at "rd"
      refine ⟨t5, dtA, _, rfl, htA, rfl, ?_⟩
      repeat walk_at "rd"
      refine ⟨H4, t5, ta5, _, _, rfl, tb8.mono sA, fun la hla => ?_⟩
      have sB := Rd.sNew (o := .lst ((laid zs m fl).ns.map V.str)) hla
      repeat walk_at "rd"
      refine ⟨Rd.sz (by simp), fun lb hlb => ?_⟩
      have sC := Rd.sNew (o := .lst [.str "left", .str "right", .str "item"]) hlb
      refine Rd.eqD (d := Dt.dS names3) (e := Dt.dS names3) (Dt.dp_S (by rw [← nn]; exact SqL.of (sC _ _ upd_same))) (Dt.dp_S (r := names3) (SqL.of upd_same)) (by decide +kernel) (by decide +kernel) ?_
      rw [show PyData.eqv (Dt.dS names3) (Dt.dS names3) = true from by decide +kernel]
      exact q _ ((s08.trans sA).trans (sB.trans sC))
end
end Ab
namespace Ab
open M6 PySem.Spec PyProof.Rows
local macro_rules | `(tactic| walk_at "rd") => `(tactic| (with_reducible first | refine Rd.tt_ ?_ | refine Rd.ff_ ?_ | refine Rd.dget ?_ | refine Rd.methR ?_ | refine Rd.getR ?_))
section
variable {P : Program} {w : World} {K : PySem.W.Frag} {mg : Str → Option Value} {base : Heap}
def spLaw (K : PySem.W.Frag) : Sp := fun vs H Q _ => ∃ (a : Addr) (ns : List Int), vs = [.ref a] ∧ SqL K H a (ns.map V.int) ∧ ns.length ≤ 63 ∧ ∀ H', Q (.bl true) H'
abbrev sLaw : Stmt := top 90
abbrev nLaw : List Str := ["_law_script", "_law_k", "_law_pool_here", "_law_entries_here"]
theorem scLaw : FnScope nLaw ["_law_script"] (defScope sLaw) := ⟨rfl, rfl, rfl, by decide +kernel, rfl, by decide +kernel, by decide +kernel⟩
theorem ok_law (T : Txt K mg) {CK : Addr} (CL_pool : CalG P w K mg base 1 "_law_pool" (spPool K)) (CL_entries : CalG P w K mg base 3 "_law_entries" (spEntries K)) (CL_book : CalG P w K mg base 5 "_law_book" (spLBook5 K CK)) (CL_right : CalG P w K mg base 18 "_law_right" (spRight K CK)) (CL_wrong : CalG P w K mg base 18 "_law_wrong" (spWrong K))
    {f : Addr} {fd : FuncData} (F : Fun K "law" "law" sLaw f fd) : FnG P w K mg base CX0 19 f fd ["_law_script"] (spLaw K) := by
  refine defG0 F scLaw (fun vs H Q E h => ?_) (fun cd A hg outer s H vs Q E hr h => ?_)
  · obtain ⟨_, _, rfl, _⟩ := h
    rfl
  · obtain ⟨a, ns, rfl, hS, h63, q⟩ := h
    refine ⟨_, (pss_cons (ps_for PassesOwn.never rfl (pi_range1 (by rfl) T.range (pa_cons (pe_callB (call_max2 rfl) (by rfl) T.max (by decide +kernel) (pa_cons pe_int (pa_cons (pe_callB (call_min2 rfl) (by rfl) T.min (by decide +kernel) (pa_cons pe_int (pa_cons (pe_callB (r := Rd.rLenK K) Rd.callLen (by rfl) T.len PySem.boot_len (pa_cons (pv 0) pa_nil)) pa_nil))) pa_nil))) pa_nil)) (pg_name (i := 1) scLaw.nd rfl (Or.inl rfl))
  (pss_cons (ps_set (i := 2) scLaw.nd rfl (Or.inl rfl) (pe_cG CL_pool hg hr (by decide) (pa_cons (pv 0) (pa_cons (pv 1) pa_nil))))
  (pss_cons (ps_set (i := 3) scLaw.nd rfl (Or.inl rfl) (pe_cG CL_entries hg hr (by decide) (pa_cons (pv 2) pa_nil)))
  (pss_one (ps_if (PW.pt (pw_or (pt_not (pt_val (pe_cG CL_right hg hr (by decide) (pa_cons (pv 3) (pa_cons (pe_cG CL_book hg hr (by decide) (pa_cons (pv 2) pa_nil)) pa_nil))))) (pw_or1 (pt_not (pt_val (pe_cG CL_wrong hg hr (by decide) (pa_cons (pv 2) (pa_cons (pv 3) pa_nil))))))))
  (pss_one (ps_ret pe_bl))
  pss_nil)))))
  (pss_one (ps_ret pe_bl))), ?_⟩
    repeat walk_at "rd"
    refine Rd.rng (by (repeat' split) <;> omega) (by (repeat' split) <;> omega) ?_
    refine Rd.forGo (fun i σ Hc => (∃ (z1 z2 z3 : Option V), σ = [some (.ref a), z1, z2, z3]) ∧ Same H Hc) ⟨⟨_, _, _, rfl⟩, Same.refl _⟩ ?_ ?_
    · rintro i σ Hc hi ⟨⟨z1, z2, z3, rfl⟩, sc⟩
      have i9 : i < 100 := by
        rw [List.length_map] at hi
        revert hi
        (repeat' split) <;> intro hi <;> omega
      repeat walk_at "rd"
      refine ⟨a, ns, (i : Int), rfl, sc.seq hS, by omega, by omega, fun p x y hp ok => ?_⟩
      have s1 := sc.trans (Rd.sNew (o := .lst [.int x, .int y]) hp)
      have hp1 : upd Hc p (.lst [.int x, .int y]) p = some (.lst [.int x, .int y]) := upd_same
      have np : H p = none := Same.free sc hp
      generalize upd Hc p (.lst [.int x, .int y]) = H1 at s1 hp1 ⊢
      repeat walk_at "rd"
      refine ⟨p, x, y, rfl, hp1, ok, fun l xs zs H2 x2 y2 k2 hp2 ok2 nl hl2 pr2 md => ?_⟩
      have lp : l ≠ p := fun e => by rw [e, hp1] at nl; cases nl
      repeat walk_at "rd"
      refine ⟨p, x2, y2, rfl, hp2, ok2, fun b w0 f0 g m fl H3 x3 y3 k3 hp3 ok3 _ _ _ bk3 pm => ?_⟩
      have hl3 := k3 _ _ lp hl2
      have pr3 := sps_keep k3 (nt_lst hp2) pr2
      repeat walk_at "rd"
      refine ⟨l, b, w0, f0, g, m, fl, xs, zs, rfl, hl3, pr3, md, bk3, pm, fun H4 s4 => ?_⟩
      refine ⟨true, rfl, ?_⟩
      rw [if_neg (by decide)]
      repeat walk_at "rd"
      refine ⟨p, l, x3, y3, xs, zs, rfl, lp, s4 _ _ hp3, ok3, s4 _ _ hl3, pr3.mono s4, md, fun H5 k5 => ?_⟩
      refine ⟨true, rfl, ?_⟩
      rw [if_neg (by decide)]
      repeat walk_at "rd"
      refine ⟨⟨_, _, _, rfl⟩, fun u o e => ?_⟩
      have up : u ≠ p := fun c => by rw [c, np] at e; cases e
      exact k5 _ _ up (s4 _ _ (k3 _ _ up (k2 _ _ up (s1 _ _ e))))
    · rintro σ Hc ⟨_, _⟩
      repeat walk_at "rd"
      exact q _
end
end Ab
namespace Ab
open PySem.Spec PyProof.Rows
abbrev sInit_NoName : Stmt := meth 3 0
theorem scInit_NoName : FnScope ["self", "value"] ["self", "value"] (defScope sInit_NoName) := ⟨rfl, rfl, rfl, by decide +kernel, rfl, by decide +kernel, by decide +kernel⟩
abbrev sInit_NoWays : Stmt := meth 4 0
theorem scInit_NoWays : FnScope ["self", "operation"] ["self", "operation"] (defScope sInit_NoWays) := ⟨rfl, rfl, rfl, by decide +kernel, rfl, by decide +kernel, by decide +kernel⟩
abbrev sInit_NoFlag : Stmt := meth 5 0
theorem scInit_NoFlag : FnScope ["self", "value"] ["self", "value"] (defScope sInit_NoFlag) := ⟨rfl, rfl, rfl, by decide +kernel, rfl, by decide +kernel, by decide +kernel⟩
abbrev sInit_NoBook : Stmt := meth 6 0
theorem scInit_NoBook : FnScope ["self", "value"] ["self", "value"] (defScope sInit_NoBook) := ⟨rfl, rfl, rfl, by decide +kernel, rfl, by decide +kernel, by decide +kernel⟩
abbrev sInit_NoEntry : Stmt := meth 8 0
theorem scInit_NoEntry : FnScope ["self", "method"] ["self", "method"] (defScope sInit_NoEntry) := ⟨rfl, rfl, rfl, by decide +kernel, rfl, by decide +kernel, by decide +kernel⟩
/-- a tuple that the top has written -/
theorem sqT_of {K : PySem.W.Frag} {p : Addr} {d : Option Addr} {its : Array Value} {m : Nat} {sl : Array (Option Value)} {xs : List V} (l : K.lookup p = some ⟨.type "tuple", d, .seq its m, sl⟩) (z : its.size ≤ sizeLine) (v : Vals xs its.toList) : ∀ H, SqT K H p xs :=
  fun _ => .inr ⟨_, its, m, l, rfl, rfl, z, v⟩
theorem kl_nil {P : Params} : PySem.W.KeysLit P [] := by unfold PySem.W.KeysLit; trivial
theorem kl_cons {P : Params} {x : Str} {t : Tok} {v : Value} {l : List DictEntry} (r : PySem.W.KeysLit P l) : PySem.W.KeysLit P (⟨PyData.keyHash P x, .str x t, v⟩ :: l) := by unfold PySem.W.KeysLit; exact ⟨⟨x, t, rfl, rfl⟩, r⟩
theorem kdct_of {K : PySem.W.Frag} {w : World} {p : Addr} {es : Array DictEntry} {m : Nat} (l : K.lookup p = some ⟨.type "dict", none, .dict es m, #[]⟩) (kl : PySem.W.KeysLit w.params es.toList) {x : Str} {u : Value} {v : V} (hn : PySem.W.nsIn K p x = some (some u)) (r : RelV v u) : KDct K w p x v :=
  ⟨es, m, u, l, kl, hn, r⟩
theorem kitCls_ref {K : PySem.W.Frag} {u : Value} {D : Addr} {b : Bool} (h2 : PySem.W.isClsIn K D = true) (h3 : PySem.W.typeIn K (.ref D) = some (.type "type")) (h4 : PySem.W.subIn K u (.ref D) = some b) : PySem.W.kitCls K u (.ref D) = some b := by
  have h2' : (PySem.W.clsIn K D).isSome = true := h2
  show (if ((PySem.W.clsIn K D).isSome && PySem.W.typeIn K (.ref D) == some (.type "type")) = true then PySem.W.subIn K u (.ref D) else none) = some b
  rw [h2', h3, if_pos (by rfl)]
  exact h4
theorem exm_own {K : PySem.W.Frag} {C : Addr} (h1 : PySem.W.subIn K (.ref C) (.type "BaseException") = some true) (h2 : PySem.W.isClsIn K C = true) (h3 : PySem.W.typeIn K (.ref C) = some (.type "type")) (h4 : PySem.W.subIn K (.ref C) (.ref C) = some true) : PySem.W.exmOne K (.ref C) (.ref C) = some true := by
  show (if (PySem.W.subIn K (.ref C) (.type "BaseException") == some true) = true then PySem.W.kitCls K (.ref C) (.ref C) else none) = some true
  rw [h1, if_pos (by rfl)]
  exact kitCls_ref h2 h3 h4
theorem kit_err {K : PySem.W.Frag} {C D : Addr} (h2 : PySem.W.isClsIn K D = true) (h3 : PySem.W.typeIn K (.ref D) = some (.type "type")) (h4 : PySem.W.subIn K (.ref C) (.ref D) = some true) : PySem.W.kitOne K (.ref C) (.ref D) = some true := by
  show (if (Value.ref C == Value.ref D) = true then some true else PySem.W.kitCls K (.ref C) (.ref D)) = some true
  split
  · rfl
  · exact kitCls_ref h2 h3 h4
theorem kit_value {K : PySem.W.Frag} {C : Addr} (h4 : PySem.W.subIn K (.ref C) (.type "ValueError") = some true) : PySem.W.kitOne K (.ref C) (.type "ValueError") = some true := by
  have e : (Value.ref C == Value.type "ValueError") = false := rfl
  show (if (Value.ref C == Value.type "ValueError") = true then some true else (if PySem.W.kitMeta "ValueError" = true then PySem.W.subIn K (.ref C) (.type "ValueError") else none)) = some true
  rw [e, if_neg Bool.false_ne_true, if_pos (by decide +kernel)]
  exact h4
theorem exm_not {K : PySem.W.Frag} {C D : Addr} (h1 : PySem.W.subIn K (.ref D) (.type "BaseException") = some true) (h2 : PySem.W.isClsIn K D = true) (h3 : PySem.W.typeIn K (.ref D) = some (.type "type")) (h4 : PySem.W.subIn K (.ref C) (.ref D) = some false) : PySem.W.exmOne K (.ref C) (.ref D) = some false := by
  show (if (PySem.W.subIn K (.ref D) (.type "BaseException") == some true) = true then PySem.W.kitCls K (.ref C) (.ref D) else none) = some false
  rw [h1, if_pos (by rfl)]
  exact kitCls_ref h2 h3 h4
theorem kit_not {K : PySem.W.Frag} {C D : Addr} (h2 : PySem.W.isClsIn K D = true) (h3 : PySem.W.typeIn K (.ref D) = some (.type "type")) (h4 : PySem.W.subIn K (.ref C) (.ref D) = some false) (h5 : PySem.W.subIn K (.ref D) (.ref D) = some true) : PySem.W.kitOne K (.ref C) (.ref D) = some false := by
  show (if (Value.ref C == Value.ref D) = true then some true else PySem.W.kitCls K (.ref C) (.ref D)) = some false
  by_cases e : C = D
  · subst e
    rw [h4] at h5
    cases h5
  · rw [if_neg (fun z => e (by simpa using z))]
    exact kitCls_ref h2 h3 h4
def keyTxt (e : DictEntry) : Option Str := match e.key with
  | .str x _ => some x
  | _ => none
theorem find_keys {z : Str} : ∀ {l : List DictEntry} {ks : List Str}, l.map keyTxt = ks.map some → (z ∉ ks → l.find? (·.key.isStr z) = none) ∧ (z ∈ ks → ∃ e, l.find? (·.key.isStr z) = some e) ∧ l.any (·.refKey) = false
  | [], [], _ => ⟨fun _ => rfl, (fun h => by cases h), rfl⟩
  | [], _ :: _, h => by cases h
  | _ :: _, [], h => by cases h
  | d :: l, k :: ks, h => by
    have h1 := (List.cons.inj h).1
    obtain ⟨a, b, c⟩ := find_keys (z := z) (List.cons.inj h).2
    obtain ⟨key, x, v⟩ : ∃ (x : Str) (t : Tok), d.key = .str x t := by
      unfold keyTxt at h1
      split at h1
      · exact ⟨_, _, by assumption⟩
      · cases h1
    have ek : key = k := by
      rw [keyTxt, v] at h1
      exact Option.some.inj h1
    subst ek
    have es : d.key.isStr z = (key == z) := by rw [v]; rfl
    have er : d.refKey = false := by unfold DictEntry.refKey; rw [v]
    refine ⟨fun hz => ?_, fun hz => ?_, ?_⟩
    · rw [List.find?_cons_of_neg (by rw [es]; simp; intro e; exact hz (e ▸ List.mem_cons_self))]
      exact a fun m => hz (List.mem_cons_of_mem _ m)
    · by_cases e : key = z
      · exact ⟨d, List.find?_cons_of_pos (by rw [es]; simpa using e)⟩
      · rw [List.find?_cons_of_neg (by rw [es]; simpa using e)]
        exact b ((List.mem_cons.mp hz).resolve_left fun q => e q.symm)
    · rw [List.any_cons, er, c]; rfl
theorem ns_of {K : PySem.W.Frag} {p : Addr} {c : Value} {d : Option Addr} {es : Array DictEntry} {n : Nat} {s : Array (Option Value)} (l : K.lookup p = some ⟨c, d, .dict es n, s⟩) {ks : List Str} (x : es.toList.map keyTxt = ks.map some) (z : Str) : (z ∉ ks → PySem.W.nsIn K p z = some none) ∧ (z ∈ ks → ∃ v, PySem.W.nsIn K p z = some (some v)) := by
  obtain ⟨a, b, r⟩ := find_keys (z := z) x
  refine ⟨fun h => ?_, fun h => ?_⟩
  · unfold PySem.W.nsIn
    rw [l]
    show (match es.toList.find? (·.key.isStr z) with | some e => some (some e.val) | none => if es.toList.any (·.refKey) then none else some none) = some none
    rw [a h]
    show (if es.toList.any (·.refKey) then none else some none) = some none
    rw [r]
    rfl
  · obtain ⟨e, he⟩ := b h
    refine ⟨e.val, ?_⟩
    unfold PySem.W.nsIn
    rw [l]
    show (match es.toList.find? (·.key.isStr z) with | some e => some (some e.val) | none => if es.toList.any (·.refKey) then none else some none) = _
    rw [he]
theorem kit_ty {K : PySem.W.Frag} {C : Addr} {t : String} (h2 : PySem.W.isClsIn K C = true) (h3 : PySem.W.typeIn K (.ref C) = some (.type "type")) (h4 : PySem.W.subIn K (.type t) (.ref C) = some false) : PySem.W.kitOne K (.type t) (.ref C) = some false ∧ PySem.W.notFirst K C (.type t) = true := by
  have ne : (Value.type t == Value.ref C) = false := rfl
  refine ⟨?_, ?_⟩
  · show (if (Value.type t == Value.ref C) = true then some true else PySem.W.kitCls K (.type t) (.ref C)) = some false
    rw [ne, if_neg Bool.false_ne_true]
    exact kitCls_ref h2 h3 h4
  · show ((Value.type t == Value.ref C) || PySem.W.subIn K (.type t) (.ref C) == some false) = true
    rw [h4, ne]
    rfl
section
variable {P : Program} {w : World} {K : PySem.W.Frag} {mg : Str → Option Value} {base : Heap}
theorem ok_init_NoName {C fI : Addr} {fd : FuncData} (T : Ex.ErrC K mg "NoName" "value" C) (F : Fun K "__init__" "NoName.__init__" sInit_NoName fI fd) : FnOk P w K mg base CX0 1 fI fd ["self", "value"] (Ex.spInit C "value") := by
  refine F.ok scInit_NoName (fun vs H Q E h => ?_) (fun cdv A outer s H vs Q E hr h => ⟨_, pss_one (ps_ost (pv 0) (pv 1)), ?_⟩)
  · obtain ⟨a, v, rfl, _⟩ := h
    rfl
  · obtain ⟨a, v, rfl, ha, q⟩ := h
    exact ⟨_, rfl, _, rfl, a, C, rfl, T.t, T.no, .inl ⟨ha, q⟩⟩
theorem ok_init_NoWays {C fI : Addr} {fd : FuncData} (T : Ex.ErrC K mg "NoWays" "operation" C) (F : Fun K "__init__" "NoWays.__init__" sInit_NoWays fI fd) : FnOk P w K mg base CX0 1 fI fd ["self", "operation"] (Ex.spInit C "operation") := by
  refine F.ok scInit_NoWays (fun vs H Q E h => ?_) (fun cdv A outer s H vs Q E hr h => ⟨_, pss_one (ps_ost (pv 0) (pv 1)), ?_⟩)
  · obtain ⟨a, v, rfl, _⟩ := h
    rfl
  · obtain ⟨a, v, rfl, ha, q⟩ := h
    exact ⟨_, rfl, _, rfl, a, C, rfl, T.t, T.no, .inl ⟨ha, q⟩⟩
theorem ok_init_NoFlag {C fI : Addr} {fd : FuncData} (T : Ex.ErrC K mg "NoFlag" "value" C) (F : Fun K "__init__" "NoFlag.__init__" sInit_NoFlag fI fd) : FnOk P w K mg base CX0 1 fI fd ["self", "value"] (Ex.spInit C "value") := by
  refine F.ok scInit_NoFlag (fun vs H Q E h => ?_) (fun cdv A outer s H vs Q E hr h => ⟨_, pss_one (ps_ost (pv 0) (pv 1)), ?_⟩)
  · obtain ⟨a, v, rfl, _⟩ := h
    rfl
  · obtain ⟨a, v, rfl, ha, q⟩ := h
    exact ⟨_, rfl, _, rfl, a, C, rfl, T.t, T.no, .inl ⟨ha, q⟩⟩
theorem ok_init_NoBook {C fI : Addr} {fd : FuncData} (T : Ex.ErrC K mg "NoBook" "value" C) (F : Fun K "__init__" "NoBook.__init__" sInit_NoBook fI fd) : FnOk P w K mg base CX0 1 fI fd ["self", "value"] (Ex.spInit C "value") := by
  refine F.ok scInit_NoBook (fun vs H Q E h => ?_) (fun cdv A outer s H vs Q E hr h => ⟨_, pss_one (ps_ost (pv 0) (pv 1)), ?_⟩)
  · obtain ⟨a, v, rfl, _⟩ := h
    rfl
  · obtain ⟨a, v, rfl, ha, q⟩ := h
    exact ⟨_, rfl, _, rfl, a, C, rfl, T.t, T.no, .inl ⟨ha, q⟩⟩
theorem ok_init_NoEntry {C fI : Addr} {fd : FuncData} (T : Ex.ErrC K mg "NoEntry" "method" C) (F : Fun K "__init__" "NoEntry.__init__" sInit_NoEntry fI fd) : FnOk P w K mg base CX0 1 fI fd ["self", "method"] (Ex.spInit C "method") := by
  refine F.ok scInit_NoEntry (fun vs H Q E h => ?_) (fun cdv A outer s H vs Q E hr h => ⟨_, pss_one (ps_ost (pv 0) (pv 1)), ?_⟩)
  · obtain ⟨a, v, rfl, _⟩ := h
    rfl
  · obtain ⟨a, v, rfl, ha, q⟩ := h
    exact ⟨_, rfl, _, rfl, a, C, rfl, T.t, T.no, .inl ⟨ha, q⟩⟩
end
theorem all_mk {l : PySem.W.OpenLaw} {w : World} {K : PySem.W.Frag} {h : Heap} {mg : Str → Option Value} {fa : Addr} (X : K.In h) (G : h.Ns mainGlobals mg) (hfa : mg "law" = some (.ref fa))
    {f1 : Addr} (a1 : PySem.W.nsIn K mainGlobals "is_number" = some (some (.ref f1)))
    {od1 an1 : Option Addr} {sl1 : Array (Option Value)} {oc1 kV1 dc1 pm1 cd1 ct1 : Value}
    (l1 : K.lookup f1 = some ⟨oc1, od1, .func (PySem.W.fnOf "is_number" "is_number" (defArgs sIs_number) (defBody sIs_number) (defScope sIs_number) .none kV1 dc1 pm1 an1 cd1 ct1), sl1⟩)
    (c1 : PySem.W.codeIn K cd1 "is_number" = true)
    (k1 : PySem.W.keepIn K (.ref f1) = true)
    {f2 : Addr} (a2 : PySem.W.nsIn K mainGlobals "is_word" = some (some (.ref f2)))
    {od2 an2 : Option Addr} {sl2 : Array (Option Value)} {oc2 kV2 dc2 pm2 cd2 ct2 : Value}
    (l2 : K.lookup f2 = some ⟨oc2, od2, .func (PySem.W.fnOf "is_word" "is_word" (defArgs sIs_word) (defBody sIs_word) (defScope sIs_word) .none kV2 dc2 pm2 an2 cd2 ct2), sl2⟩)
    (c2 : PySem.W.codeIn K cd2 "is_word" = true)
    (k2 : PySem.W.keepIn K (.ref f2) = true)
    {f3 : Addr} (a3 : PySem.W.nsIn K mainGlobals "is_one_of" = some (some (.ref f3)))
    {od3 an3 : Option Addr} {sl3 : Array (Option Value)} {oc3 kV3 dc3 pm3 cd3 ct3 : Value}
    (l3 : K.lookup f3 = some ⟨oc3, od3, .func (PySem.W.fnOf "is_one_of" "is_one_of" (defArgs sIs_one_of) (defBody sIs_one_of) (defScope sIs_one_of) .none kV3 dc3 pm3 an3 cd3 ct3), sl3⟩)
    (c3 : PySem.W.codeIn K cd3 "is_one_of" = true)
    (k3 : PySem.W.keepIn K (.ref f3) = true)
    {f4 : Addr} (a4 : PySem.W.nsIn K mainGlobals "check_flag" = some (some (.ref f4)))
    {od4 an4 : Option Addr} {sl4 : Array (Option Value)} {oc4 kV4 dc4 pm4 cd4 ct4 : Value}
    (l4 : K.lookup f4 = some ⟨oc4, od4, .func (PySem.W.fnOf "check_flag" "check_flag" (defArgs sCheck_flag) (defBody sCheck_flag) (defScope sCheck_flag) .none kV4 dc4 pm4 an4 cd4 ct4), sl4⟩)
    (c4 : PySem.W.codeIn K cd4 "check_flag" = true)
    (k4 : PySem.W.keepIn K (.ref f4) = true)
    {f5 : Addr} (a5 : PySem.W.nsIn K mainGlobals "check_method" = some (some (.ref f5)))
    {od5 an5 : Option Addr} {sl5 : Array (Option Value)} {oc5 kV5 dc5 pm5 cd5 ct5 : Value}
    (l5 : K.lookup f5 = some ⟨oc5, od5, .func (PySem.W.fnOf "check_method" "check_method" (defArgs sCheck_method) (defBody sCheck_method) (defScope sCheck_method) .none kV5 dc5 pm5 an5 cd5 ct5), sl5⟩)
    (c5 : PySem.W.codeIn K cd5 "check_method" = true)
    (k5 : PySem.W.keepIn K (.ref f5) = true)
    {f6 : Addr} (a6 : PySem.W.nsIn K mainGlobals "check_operation" = some (some (.ref f6)))
    {od6 an6 : Option Addr} {sl6 : Array (Option Value)} {oc6 kV6 dc6 pm6 cd6 ct6 : Value}
    (l6 : K.lookup f6 = some ⟨oc6, od6, .func (PySem.W.fnOf "check_operation" "check_operation" (defArgs sCheck_operation) (defBody sCheck_operation) (defScope sCheck_operation) .none kV6 dc6 pm6 an6 cd6 ct6), sl6⟩)
    (c6 : PySem.W.codeIn K cd6 "check_operation" = true)
    (k6 : PySem.W.keepIn K (.ref f6) = true)
    {f7 : Addr} (a7 : PySem.W.nsIn K mainGlobals "are_ways" = some (some (.ref f7)))
    {od7 an7 : Option Addr} {sl7 : Array (Option Value)} {oc7 kV7 dc7 pm7 cd7 ct7 : Value}
    (l7 : K.lookup f7 = some ⟨oc7, od7, .func (PySem.W.fnOf "are_ways" "are_ways" (defArgs sAre_ways) (defBody sAre_ways) (defScope sAre_ways) .none kV7 dc7 pm7 an7 cd7 ct7), sl7⟩)
    (c7 : PySem.W.codeIn K cd7 "are_ways" = true)
    (k7 : PySem.W.keepIn K (.ref f7) = true)
    {f8 : Addr} (a8 : PySem.W.nsIn K mainGlobals "check_book" = some (some (.ref f8)))
    {od8 an8 : Option Addr} {sl8 : Array (Option Value)} {oc8 kV8 dc8 pm8 cd8 ct8 : Value}
    (l8 : K.lookup f8 = some ⟨oc8, od8, .func (PySem.W.fnOf "check_book" "check_book" (defArgs sCheck_book) (defBody sCheck_book) (defScope sCheck_book) .none kV8 dc8 pm8 an8 cd8 ct8), sl8⟩)
    (c8 : PySem.W.codeIn K cd8 "check_book" = true)
    (k8 : PySem.W.keepIn K (.ref f8) = true)
    {f9 : Addr} (a9 : PySem.W.nsIn K mainGlobals "_free_head" = some (some (.ref f9)))
    {od9 an9 : Option Addr} {sl9 : Array (Option Value)} {oc9 kV9 dc9 pm9 cd9 ct9 : Value}
    (l9 : K.lookup f9 = some ⟨oc9, od9, .func (PySem.W.fnOf "_free_head" "_free_head" (defArgs sFree_head) (defBody sFree_head) (defScope sFree_head) .none kV9 dc9 pm9 an9 cd9 ct9), sl9⟩)
    (c9 : PySem.W.codeIn K cd9 "_free_head" = true)
    (k9 : PySem.W.keepIn K (.ref f9) = true)
    {f10 : Addr} (a10 : PySem.W.nsIn K mainGlobals "_without" = some (some (.ref f10)))
    {od10 an10 : Option Addr} {sl10 : Array (Option Value)} {oc10 kV10 dc10 pm10 cd10 ct10 : Value}
    (l10 : K.lookup f10 = some ⟨oc10, od10, .func (PySem.W.fnOf "_without" "_without" (defArgs sWithout) (defBody sWithout) (defScope sWithout) .none kV10 dc10 pm10 an10 cd10 ct10), sl10⟩)
    (c10 : PySem.W.codeIn K cd10 "_without" = true)
    (k10 : PySem.W.keepIn K (.ref f10) = true)
    {f11 : Addr} (a11 : PySem.W.nsIn K mainGlobals "merged" = some (some (.ref f11)))
    {od11 an11 : Option Addr} {sl11 : Array (Option Value)} {oc11 kV11 dc11 pm11 cd11 ct11 : Value}
    (l11 : K.lookup f11 = some ⟨oc11, od11, .func (PySem.W.fnOf "merged" "merged" (defArgs sMerged) (defBody sMerged) (defScope sMerged) .none kV11 dc11 pm11 an11 cd11 ct11), sl11⟩)
    (c11 : PySem.W.codeIn K cd11 "merged" = true)
    (k11 : PySem.W.keepIn K (.ref f11) = true)
    {f12 : Addr} (a12 : PySem.W.nsIn K mainGlobals "order_of" = some (some (.ref f12)))
    {od12 an12 : Option Addr} {sl12 : Array (Option Value)} {oc12 kV12 dc12 pm12 cd12 ct12 : Value}
    (l12 : K.lookup f12 = some ⟨oc12, od12, .func (PySem.W.fnOf "order_of" "order_of" (defArgs sOrder_of) (defBody sOrder_of) (defScope sOrder_of) .none kV12 dc12 pm12 an12 cd12 ct12), sl12⟩)
    (c12 : PySem.W.codeIn K cd12 "order_of" = true)
    (k12 : PySem.W.keepIn K (.ref f12) = true)
    {f13 : Addr} (a13 : PySem.W.nsIn K mainGlobals "is_entry" = some (some (.ref f13)))
    {od13 an13 : Option Addr} {sl13 : Array (Option Value)} {oc13 kV13 dc13 pm13 cd13 ct13 : Value}
    (l13 : K.lookup f13 = some ⟨oc13, od13, .func (PySem.W.fnOf "is_entry" "is_entry" (defArgs sIs_entry) (defBody sIs_entry) (defScope sIs_entry) .none kV13 dc13 pm13 an13 cd13 ct13), sl13⟩)
    (c13 : PySem.W.codeIn K cd13 "is_entry" = true)
    (k13 : PySem.W.keepIn K (.ref f13) = true)
    {f14 : Addr} (a14 : PySem.W.nsIn K mainGlobals "check_table" = some (some (.ref f14)))
    {od14 an14 : Option Addr} {sl14 : Array (Option Value)} {oc14 kV14 dc14 pm14 cd14 ct14 : Value}
    (l14 : K.lookup f14 = some ⟨oc14, od14, .func (PySem.W.fnOf "check_table" "check_table" (defArgs sCheck_table) (defBody sCheck_table) (defScope sCheck_table) .none kV14 dc14 pm14 an14 cd14 ct14), sl14⟩)
    (c14 : PySem.W.codeIn K cd14 "check_table" = true)
    (k14 : PySem.W.keepIn K (.ref f14) = true)
    {f15 : Addr} (a15 : PySem.W.nsIn K mainGlobals "is_operand" = some (some (.ref f15)))
    {od15 an15 : Option Addr} {sl15 : Array (Option Value)} {oc15 kV15 dc15 pm15 cd15 ct15 : Value}
    (l15 : K.lookup f15 = some ⟨oc15, od15, .func (PySem.W.fnOf "is_operand" "is_operand" (defArgs sIs_operand) (defBody sIs_operand) (defScope sIs_operand) .none kV15 dc15 pm15 an15 cd15 ct15), sl15⟩)
    (c15 : PySem.W.codeIn K cd15 "is_operand" = true)
    (k15 : PySem.W.keepIn K (.ref f15) = true)
    {f16 : Addr} (a16 : PySem.W.nsIn K mainGlobals "_place_of" = some (some (.ref f16)))
    {od16 an16 : Option Addr} {sl16 : Array (Option Value)} {oc16 kV16 dc16 pm16 cd16 ct16 : Value}
    (l16 : K.lookup f16 = some ⟨oc16, od16, .func (PySem.W.fnOf "_place_of" "_place_of" (defArgs sPlace_of) (defBody sPlace_of) (defScope sPlace_of) .none kV16 dc16 pm16 an16 cd16 ct16), sl16⟩)
    (c16 : PySem.W.codeIn K cd16 "_place_of" = true)
    (k16 : PySem.W.keepIn K (.ref f16) = true)
    {f17 : Addr} (a17 : PySem.W.nsIn K mainGlobals "_is_spread" = some (some (.ref f17)))
    {od17 an17 : Option Addr} {sl17 : Array (Option Value)} {oc17 kV17 dc17 pm17 cd17 ct17 : Value}
    (l17 : K.lookup f17 = some ⟨oc17, od17, .func (PySem.W.fnOf "_is_spread" "_is_spread" (defArgs sIs_spread) (defBody sIs_spread) (defScope sIs_spread) .none kV17 dc17 pm17 an17 cd17 ct17), sl17⟩)
    (c17 : PySem.W.codeIn K cd17 "_is_spread" = true)
    (k17 : PySem.W.keepIn K (.ref f17) = true)
    {f18 : Addr} (a18 : PySem.W.nsIn K mainGlobals "_check_spread" = some (some (.ref f18)))
    {od18 an18 : Option Addr} {sl18 : Array (Option Value)} {oc18 kV18 dc18 pm18 cd18 ct18 : Value}
    (l18 : K.lookup f18 = some ⟨oc18, od18, .func (PySem.W.fnOf "_check_spread" "_check_spread" (defArgs sCheck_spread) (defBody sCheck_spread) (defScope sCheck_spread) .none kV18 dc18 pm18 an18 cd18 ct18), sl18⟩)
    (c18 : PySem.W.codeIn K cd18 "_check_spread" = true)
    (k18 : PySem.W.keepIn K (.ref f18) = true)
    {f19 : Addr} (a19 : PySem.W.nsIn K mainGlobals "spread" = some (some (.ref f19)))
    {od19 an19 : Option Addr} {sl19 : Array (Option Value)} {oc19 kV19 dc19 pm19 cd19 ct19 : Value}
    (l19 : K.lookup f19 = some ⟨oc19, od19, .func (PySem.W.fnOf "spread" "spread" (defArgs sSpread) (defBody sSpread) (defScope sSpread) .none kV19 dc19 pm19 an19 cd19 ct19), sl19⟩)
    (c19 : PySem.W.codeIn K cd19 "spread" = true)
    (k19 : PySem.W.keepIn K (.ref f19) = true)
    {f20 : Addr} (a20 : PySem.W.nsIn K mainGlobals "_law_pool" = some (some (.ref f20)))
    {od20 an20 : Option Addr} {sl20 : Array (Option Value)} {oc20 kV20 dc20 pm20 cd20 ct20 : Value}
    (l20 : K.lookup f20 = some ⟨oc20, od20, .func (PySem.W.fnOf "_law_pool" "_law_pool" (defArgs sL_pool) (defBody sL_pool) (defScope sL_pool) .none kV20 dc20 pm20 an20 cd20 ct20), sl20⟩)
    (c20 : PySem.W.codeIn K cd20 "_law_pool" = true)
    (k20 : PySem.W.keepIn K (.ref f20) = true)
    {f21 : Addr} (a21 : PySem.W.nsIn K mainGlobals "_law_take" = some (some (.ref f21)))
    {od21 an21 : Option Addr} {sl21 : Array (Option Value)} {oc21 kV21 dc21 pm21 cd21 ct21 : Value}
    (l21 : K.lookup f21 = some ⟨oc21, od21, .func (PySem.W.fnOf "_law_take" "_law_take" (defArgs sL_take) (defBody sL_take) (defScope sL_take) .none kV21 dc21 pm21 an21 cd21 ct21), sl21⟩)
    (c21 : PySem.W.codeIn K cd21 "_law_take" = true)
    (k21 : PySem.W.keepIn K (.ref f21) = true)
    {f22 : Addr} (a22 : PySem.W.nsIn K mainGlobals "_law_one" = some (some (.ref f22)))
    {od22 an22 : Option Addr} {sl22 : Array (Option Value)} {oc22 kV22 dc22 pm22 cd22 ct22 : Value}
    (l22 : K.lookup f22 = some ⟨oc22, od22, .func (PySem.W.fnOf "_law_one" "_law_one" (defArgs sL_one) (defBody sL_one) (defScope sL_one) .none kV22 dc22 pm22 an22 cd22 ct22), sl22⟩)
    (c22 : PySem.W.codeIn K cd22 "_law_one" = true)
    (k22 : PySem.W.keepIn K (.ref f22) = true)
    {f23 : Addr} (a23 : PySem.W.nsIn K mainGlobals "_law_menus" = some (some (.ref f23)))
    {od23 an23 : Option Addr} {sl23 : Array (Option Value)} {oc23 kV23 dc23 pm23 cd23 ct23 : Value}
    (l23 : K.lookup f23 = some ⟨oc23, od23, .func (PySem.W.fnOf "_law_menus" "_law_menus" (defArgs sL_menus) (defBody sL_menus) (defScope sL_menus) .none kV23 dc23 pm23 an23 cd23 ct23), sl23⟩)
    (c23 : PySem.W.codeIn K cd23 "_law_menus" = true)
    (k23 : PySem.W.keepIn K (.ref f23) = true)
    {f24 : Addr} (a24 : PySem.W.nsIn K mainGlobals "_law_book" = some (some (.ref f24)))
    {od24 an24 : Option Addr} {sl24 : Array (Option Value)} {oc24 kV24 dc24 pm24 cd24 ct24 : Value}
    (l24 : K.lookup f24 = some ⟨oc24, od24, .func (PySem.W.fnOf "_law_book" "_law_book" (defArgs sL_book) (defBody sL_book) (defScope sL_book) .none kV24 dc24 pm24 an24 cd24 ct24), sl24⟩)
    (c24 : PySem.W.codeIn K cd24 "_law_book" = true)
    (k24 : PySem.W.keepIn K (.ref f24) = true)
    {f25 : Addr} (a25 : PySem.W.nsIn K mainGlobals "_law_methods" = some (some (.ref f25)))
    {od25 an25 : Option Addr} {sl25 : Array (Option Value)} {oc25 kV25 dc25 pm25 cd25 ct25 : Value}
    (l25 : K.lookup f25 = some ⟨oc25, od25, .func (PySem.W.fnOf "_law_methods" "_law_methods" (defArgs sL_methods) (defBody sL_methods) (defScope sL_methods) .none kV25 dc25 pm25 an25 cd25 ct25), sl25⟩)
    (c25 : PySem.W.codeIn K cd25 "_law_methods" = true)
    (k25 : PySem.W.keepIn K (.ref f25) = true)
    {f26 : Addr} (a26 : PySem.W.nsIn K mainGlobals "_law_entries" = some (some (.ref f26)))
    {od26 an26 : Option Addr} {sl26 : Array (Option Value)} {oc26 kV26 dc26 pm26 cd26 ct26 : Value}
    (l26 : K.lookup f26 = some ⟨oc26, od26, .func (PySem.W.fnOf "_law_entries" "_law_entries" (defArgs sL_entries) (defBody sL_entries) (defScope sL_entries) .none kV26 dc26 pm26 an26 cd26 ct26), sl26⟩)
    (c26 : PySem.W.codeIn K cd26 "_law_entries" = true)
    (k26 : PySem.W.keepIn K (.ref f26) = true)
    {f27 : Addr} (a27 : PySem.W.nsIn K mainGlobals "_law_laid" = some (some (.ref f27)))
    {od27 an27 : Option Addr} {sl27 : Array (Option Value)} {oc27 kV27 dc27 pm27 cd27 ct27 : Value}
    (l27 : K.lookup f27 = some ⟨oc27, od27, .func (PySem.W.fnOf "_law_laid" "_law_laid" (defArgs sL_laid) (defBody sL_laid) (defScope sL_laid) .none kV27 dc27 pm27 an27 cd27 ct27), sl27⟩)
    (c27 : PySem.W.codeIn K cd27 "_law_laid" = true)
    (k27 : PySem.W.keepIn K (.ref f27) = true)
    {f28 : Addr} (a28 : PySem.W.nsIn K mainGlobals "_law_refused" = some (some (.ref f28)))
    {od28 an28 : Option Addr} {sl28 : Array (Option Value)} {oc28 kV28 dc28 pm28 cd28 ct28 : Value}
    (l28 : K.lookup f28 = some ⟨oc28, od28, .func (PySem.W.fnOf "_law_refused" "_law_refused" (defArgs sL_refused) (defBody sL_refused) (defScope sL_refused) .none kV28 dc28 pm28 an28 cd28 ct28), sl28⟩)
    (c28 : PySem.W.codeIn K cd28 "_law_refused" = true)
    (k28 : PySem.W.keepIn K (.ref f28) = true)
    {f29 : Addr} (a29 : PySem.W.nsIn K mainGlobals "_law_wrong" = some (some (.ref f29)))
    {od29 an29 : Option Addr} {sl29 : Array (Option Value)} {oc29 kV29 dc29 pm29 cd29 ct29 : Value}
    (l29 : K.lookup f29 = some ⟨oc29, od29, .func (PySem.W.fnOf "_law_wrong" "_law_wrong" (defArgs sL_wrong) (defBody sL_wrong) (defScope sL_wrong) .none kV29 dc29 pm29 an29 cd29 ct29), sl29⟩)
    (c29 : PySem.W.codeIn K cd29 "_law_wrong" = true)
    (k29 : PySem.W.keepIn K (.ref f29) = true)
    {f30 : Addr} (a30 : PySem.W.nsIn K mainGlobals "_law_right" = some (some (.ref f30)))
    {od30 an30 : Option Addr} {sl30 : Array (Option Value)} {oc30 kV30 dc30 pm30 cd30 ct30 : Value}
    (l30 : K.lookup f30 = some ⟨oc30, od30, .func (PySem.W.fnOf "_law_right" "_law_right" (defArgs sL_right) (defBody sL_right) (defScope sL_right) .none kV30 dc30 pm30 an30 cd30 ct30), sl30⟩)
    (c30 : PySem.W.codeIn K cd30 "_law_right" = true)
    (k30 : PySem.W.keepIn K (.ref f30) = true)
    {f31 : Addr} (a31 : PySem.W.nsIn K mainGlobals "law" = some (some (.ref f31)))
    {od31 an31 : Option Addr} {sl31 : Array (Option Value)} {oc31 kV31 dc31 pm31 cd31 ct31 : Value}
    (l31 : K.lookup f31 = some ⟨oc31, od31, .func (PySem.W.fnOf "law" "law" (defArgs sLaw) (defBody sLaw) (defScope sLaw) .none kV31 dc31 pm31 an31 cd31 ct31), sl31⟩)
    (c31 : PySem.W.codeIn K cd31 "law" = true)
    (k31 : PySem.W.keepIn K (.ref f31) = true)
    (z_int : PySem.W.nsIn K mainGlobals "int" = some none)
    (z_len : PySem.W.nsIn K mainGlobals "len" = some none)
    (z_max : PySem.W.nsIn K mainGlobals "max" = some none)
    (z_min : PySem.W.nsIn K mainGlobals "min" = some none)
    (z_isinstance : PySem.W.nsIn K mainGlobals "isinstance" = some none)
    (z_range : PySem.W.nsIn K mainGlobals "range" = some none)
    (z_list : PySem.W.nsIn K mainGlobals "list" = some none)
    (z_dict : PySem.W.nsIn K mainGlobals "dict" = some none)
    (z_tuple : PySem.W.nsIn K mainGlobals "tuple" = some none)
    (z_set : PySem.W.nsIn K mainGlobals "set" = some none)
    (z_str : PySem.W.nsIn K mainGlobals "str" = some none)
    (z_bool : PySem.W.nsIn K mainGlobals "bool" = some none)
    (z_repr : PySem.W.nsIn K mainGlobals "repr" = some none)
    (z_all : PySem.W.nsIn K mainGlobals "all" = some none)
    (z_any : PySem.W.nsIn K mainGlobals "any" = some none)
    (z_sum : PySem.W.nsIn K mainGlobals "sum" = some none)
    (z_zip : PySem.W.nsIn K mainGlobals "zip" = some none)
    (z_enumerate : PySem.W.nsIn K mainGlobals "enumerate" = some none)
    {CA : Addr}
    (aA : PySem.W.nsIn K mainGlobals "AnswerError" = some (some (.ref CA)))
    (hsp : PySem.W.specialIn K (.builtin "object.__class__") "__get__" = some (some (.builtin "getset_descriptor.__get__")))
    (htk : PySem.W.takesIn K (.builtin "object.__class__") = some true)
    {C_NoName N_NoName : Addr} {nm_NoName q_NoName : Str} {bs_NoName : List Value} {sn_NoName : List Str} {sub_NoName : List Value} {ab_NoName : Bool} {col_NoName : Option Bool} {dd_NoName : Option Addr} {m0_NoName m1_NoName m2_NoName m3_NoName m5_NoName : Option Value}
    (aC_NoName : PySem.W.nsIn K mainGlobals "NoName" = some (some (.ref C_NoName)))
    (xL_NoName : K.lookup C_NoName = some (excClassObj nm_NoName q_NoName C_NoName N_NoName bs_NoName [.ref CA, .type "ValueError", .type "Exception", .type "BaseException", .type "object"] true sn_NoName sub_NoName ab_NoName col_NoName dd_NoName m0_NoName m1_NoName m2_NoName m3_NoName m5_NoName "ValueError.__new__"))
    (sa_NoName : PySem.W.findIn K (.ref C_NoName) "__setattr__" = some (some (.builtin "object.__setattr__")))
    (eC_NoName : PySem.W.subIn K (.ref C_NoName) (.type "BaseException") = some true)
    (tC_NoName : PySem.W.typeIn K (.ref C_NoName) = some (.type "type"))
    (kC_NoName : PySem.W.keepIn K (.ref C_NoName) = true)
    (ga_NoName : PySem.W.findIn K (.ref C_NoName) "__getattribute__" = some (some (.builtin "BaseException.__getattribute__")))
    (gg_NoName : PySem.W.findIn K (.ref C_NoName) "__getattr__" = some none)
    (hC_NoName : PySem.W.hasDictIn K C_NoName = true)
    (hcl_NoName : PySem.W.findIn K (.ref C_NoName) "__class__" = some (some (.builtin "object.__class__")))
    (hmr_NoName : PySem.W.mroIn K C_NoName (.type "object") = some true)
    (nf_NoName : PySem.W.findIn K (.ref C_NoName) "value" = some none)
    (cC_NoName : PySem.W.isClsIn K C_NoName = true)
    (sC_NoName : PySem.W.subIn K (.ref C_NoName) (.ref C_NoName) = some true)
    {fI_NoName : Addr}
    (iI_NoName : PySem.W.findIn K (.ref C_NoName) "__init__" = some (some (.ref fI_NoName)))
    (tI_NoName : PySem.W.typeIn K (.ref fI_NoName) = some (.type "function"))
    {odI_NoName anI_NoName : Option Addr} {slI_NoName : Array (Option Value)} {ocI_NoName dcI_NoName pmI_NoName cdI_NoName ctI_NoName : Value}
    (lI_NoName : K.lookup fI_NoName = some ⟨ocI_NoName, odI_NoName, .func (PySem.W.fnOf "__init__" "NoName.__init__" (defArgs sInit_NoName) (defBody sInit_NoName) (defScope sInit_NoName) .none .none dcI_NoName pmI_NoName anI_NoName cdI_NoName ctI_NoName), slI_NoName⟩)
    (cI_NoName : PySem.W.codeIn K cdI_NoName "NoName.__init__" = true)
    (kI_NoName : PySem.W.keepIn K (.ref fI_NoName) = true)
    {C_NoWays N_NoWays : Addr} {nm_NoWays q_NoWays : Str} {bs_NoWays : List Value} {sn_NoWays : List Str} {sub_NoWays : List Value} {ab_NoWays : Bool} {col_NoWays : Option Bool} {dd_NoWays : Option Addr} {m0_NoWays m1_NoWays m2_NoWays m3_NoWays m5_NoWays : Option Value}
    (aC_NoWays : PySem.W.nsIn K mainGlobals "NoWays" = some (some (.ref C_NoWays)))
    (xL_NoWays : K.lookup C_NoWays = some (excClassObj nm_NoWays q_NoWays C_NoWays N_NoWays bs_NoWays [.ref CA, .type "ValueError", .type "Exception", .type "BaseException", .type "object"] true sn_NoWays sub_NoWays ab_NoWays col_NoWays dd_NoWays m0_NoWays m1_NoWays m2_NoWays m3_NoWays m5_NoWays "ValueError.__new__"))
    (sa_NoWays : PySem.W.findIn K (.ref C_NoWays) "__setattr__" = some (some (.builtin "object.__setattr__")))
    (eC_NoWays : PySem.W.subIn K (.ref C_NoWays) (.type "BaseException") = some true)
    (tC_NoWays : PySem.W.typeIn K (.ref C_NoWays) = some (.type "type"))
    (kC_NoWays : PySem.W.keepIn K (.ref C_NoWays) = true)
    (ga_NoWays : PySem.W.findIn K (.ref C_NoWays) "__getattribute__" = some (some (.builtin "BaseException.__getattribute__")))
    (gg_NoWays : PySem.W.findIn K (.ref C_NoWays) "__getattr__" = some none)
    (hC_NoWays : PySem.W.hasDictIn K C_NoWays = true)
    (hcl_NoWays : PySem.W.findIn K (.ref C_NoWays) "__class__" = some (some (.builtin "object.__class__")))
    (hmr_NoWays : PySem.W.mroIn K C_NoWays (.type "object") = some true)
    (nf_NoWays : PySem.W.findIn K (.ref C_NoWays) "operation" = some none)
    (cC_NoWays : PySem.W.isClsIn K C_NoWays = true)
    (sC_NoWays : PySem.W.subIn K (.ref C_NoWays) (.ref C_NoWays) = some true)
    {fI_NoWays : Addr}
    (iI_NoWays : PySem.W.findIn K (.ref C_NoWays) "__init__" = some (some (.ref fI_NoWays)))
    (tI_NoWays : PySem.W.typeIn K (.ref fI_NoWays) = some (.type "function"))
    {odI_NoWays anI_NoWays : Option Addr} {slI_NoWays : Array (Option Value)} {ocI_NoWays dcI_NoWays pmI_NoWays cdI_NoWays ctI_NoWays : Value}
    (lI_NoWays : K.lookup fI_NoWays = some ⟨ocI_NoWays, odI_NoWays, .func (PySem.W.fnOf "__init__" "NoWays.__init__" (defArgs sInit_NoWays) (defBody sInit_NoWays) (defScope sInit_NoWays) .none .none dcI_NoWays pmI_NoWays anI_NoWays cdI_NoWays ctI_NoWays), slI_NoWays⟩)
    (cI_NoWays : PySem.W.codeIn K cdI_NoWays "NoWays.__init__" = true)
    (kI_NoWays : PySem.W.keepIn K (.ref fI_NoWays) = true)
    {C_NoFlag N_NoFlag : Addr} {nm_NoFlag q_NoFlag : Str} {bs_NoFlag : List Value} {sn_NoFlag : List Str} {sub_NoFlag : List Value} {ab_NoFlag : Bool} {col_NoFlag : Option Bool} {dd_NoFlag : Option Addr} {m0_NoFlag m1_NoFlag m2_NoFlag m3_NoFlag m5_NoFlag : Option Value}
    (aC_NoFlag : PySem.W.nsIn K mainGlobals "NoFlag" = some (some (.ref C_NoFlag)))
    (xL_NoFlag : K.lookup C_NoFlag = some (excClassObj nm_NoFlag q_NoFlag C_NoFlag N_NoFlag bs_NoFlag [.ref CA, .type "ValueError", .type "Exception", .type "BaseException", .type "object"] true sn_NoFlag sub_NoFlag ab_NoFlag col_NoFlag dd_NoFlag m0_NoFlag m1_NoFlag m2_NoFlag m3_NoFlag m5_NoFlag "ValueError.__new__"))
    (sa_NoFlag : PySem.W.findIn K (.ref C_NoFlag) "__setattr__" = some (some (.builtin "object.__setattr__")))
    (eC_NoFlag : PySem.W.subIn K (.ref C_NoFlag) (.type "BaseException") = some true)
    (tC_NoFlag : PySem.W.typeIn K (.ref C_NoFlag) = some (.type "type"))
    (kC_NoFlag : PySem.W.keepIn K (.ref C_NoFlag) = true)
    (ga_NoFlag : PySem.W.findIn K (.ref C_NoFlag) "__getattribute__" = some (some (.builtin "BaseException.__getattribute__")))
    (gg_NoFlag : PySem.W.findIn K (.ref C_NoFlag) "__getattr__" = some none)
    (hC_NoFlag : PySem.W.hasDictIn K C_NoFlag = true)
    (hcl_NoFlag : PySem.W.findIn K (.ref C_NoFlag) "__class__" = some (some (.builtin "object.__class__")))
    (hmr_NoFlag : PySem.W.mroIn K C_NoFlag (.type "object") = some true)
    (nf_NoFlag : PySem.W.findIn K (.ref C_NoFlag) "value" = some none)
    (cC_NoFlag : PySem.W.isClsIn K C_NoFlag = true)
    (sC_NoFlag : PySem.W.subIn K (.ref C_NoFlag) (.ref C_NoFlag) = some true)
    {fI_NoFlag : Addr}
    (iI_NoFlag : PySem.W.findIn K (.ref C_NoFlag) "__init__" = some (some (.ref fI_NoFlag)))
    (tI_NoFlag : PySem.W.typeIn K (.ref fI_NoFlag) = some (.type "function"))
    {odI_NoFlag anI_NoFlag : Option Addr} {slI_NoFlag : Array (Option Value)} {ocI_NoFlag dcI_NoFlag pmI_NoFlag cdI_NoFlag ctI_NoFlag : Value}
    (lI_NoFlag : K.lookup fI_NoFlag = some ⟨ocI_NoFlag, odI_NoFlag, .func (PySem.W.fnOf "__init__" "NoFlag.__init__" (defArgs sInit_NoFlag) (defBody sInit_NoFlag) (defScope sInit_NoFlag) .none .none dcI_NoFlag pmI_NoFlag anI_NoFlag cdI_NoFlag ctI_NoFlag), slI_NoFlag⟩)
    (cI_NoFlag : PySem.W.codeIn K cdI_NoFlag "NoFlag.__init__" = true)
    (kI_NoFlag : PySem.W.keepIn K (.ref fI_NoFlag) = true)
    {C_NoBook N_NoBook : Addr} {nm_NoBook q_NoBook : Str} {bs_NoBook : List Value} {sn_NoBook : List Str} {sub_NoBook : List Value} {ab_NoBook : Bool} {col_NoBook : Option Bool} {dd_NoBook : Option Addr} {m0_NoBook m1_NoBook m2_NoBook m3_NoBook m5_NoBook : Option Value}
    (aC_NoBook : PySem.W.nsIn K mainGlobals "NoBook" = some (some (.ref C_NoBook)))
    (xL_NoBook : K.lookup C_NoBook = some (excClassObj nm_NoBook q_NoBook C_NoBook N_NoBook bs_NoBook [.ref CA, .type "ValueError", .type "Exception", .type "BaseException", .type "object"] true sn_NoBook sub_NoBook ab_NoBook col_NoBook dd_NoBook m0_NoBook m1_NoBook m2_NoBook m3_NoBook m5_NoBook "ValueError.__new__"))
    (sa_NoBook : PySem.W.findIn K (.ref C_NoBook) "__setattr__" = some (some (.builtin "object.__setattr__")))
    (eC_NoBook : PySem.W.subIn K (.ref C_NoBook) (.type "BaseException") = some true)
    (tC_NoBook : PySem.W.typeIn K (.ref C_NoBook) = some (.type "type"))
    (kC_NoBook : PySem.W.keepIn K (.ref C_NoBook) = true)
    (ga_NoBook : PySem.W.findIn K (.ref C_NoBook) "__getattribute__" = some (some (.builtin "BaseException.__getattribute__")))
    (gg_NoBook : PySem.W.findIn K (.ref C_NoBook) "__getattr__" = some none)
    (hC_NoBook : PySem.W.hasDictIn K C_NoBook = true)
    (hcl_NoBook : PySem.W.findIn K (.ref C_NoBook) "__class__" = some (some (.builtin "object.__class__")))
    (hmr_NoBook : PySem.W.mroIn K C_NoBook (.type "object") = some true)
    (nf_NoBook : PySem.W.findIn K (.ref C_NoBook) "value" = some none)
    (cC_NoBook : PySem.W.isClsIn K C_NoBook = true)
    (sC_NoBook : PySem.W.subIn K (.ref C_NoBook) (.ref C_NoBook) = some true)
    {fI_NoBook : Addr}
    (iI_NoBook : PySem.W.findIn K (.ref C_NoBook) "__init__" = some (some (.ref fI_NoBook)))
    (tI_NoBook : PySem.W.typeIn K (.ref fI_NoBook) = some (.type "function"))
    {odI_NoBook anI_NoBook : Option Addr} {slI_NoBook : Array (Option Value)} {ocI_NoBook dcI_NoBook pmI_NoBook cdI_NoBook ctI_NoBook : Value}
    (lI_NoBook : K.lookup fI_NoBook = some ⟨ocI_NoBook, odI_NoBook, .func (PySem.W.fnOf "__init__" "NoBook.__init__" (defArgs sInit_NoBook) (defBody sInit_NoBook) (defScope sInit_NoBook) .none .none dcI_NoBook pmI_NoBook anI_NoBook cdI_NoBook ctI_NoBook), slI_NoBook⟩)
    (cI_NoBook : PySem.W.codeIn K cdI_NoBook "NoBook.__init__" = true)
    (kI_NoBook : PySem.W.keepIn K (.ref fI_NoBook) = true)
    {C_NoEntry N_NoEntry : Addr} {nm_NoEntry q_NoEntry : Str} {bs_NoEntry : List Value} {sn_NoEntry : List Str} {sub_NoEntry : List Value} {ab_NoEntry : Bool} {col_NoEntry : Option Bool} {dd_NoEntry : Option Addr} {m0_NoEntry m1_NoEntry m2_NoEntry m3_NoEntry m5_NoEntry : Option Value}
    (aC_NoEntry : PySem.W.nsIn K mainGlobals "NoEntry" = some (some (.ref C_NoEntry)))
    (xL_NoEntry : K.lookup C_NoEntry = some (excClassObj nm_NoEntry q_NoEntry C_NoEntry N_NoEntry bs_NoEntry [.ref CA, .type "ValueError", .type "Exception", .type "BaseException", .type "object"] true sn_NoEntry sub_NoEntry ab_NoEntry col_NoEntry dd_NoEntry m0_NoEntry m1_NoEntry m2_NoEntry m3_NoEntry m5_NoEntry "ValueError.__new__"))
    (sa_NoEntry : PySem.W.findIn K (.ref C_NoEntry) "__setattr__" = some (some (.builtin "object.__setattr__")))
    (eC_NoEntry : PySem.W.subIn K (.ref C_NoEntry) (.type "BaseException") = some true)
    (tC_NoEntry : PySem.W.typeIn K (.ref C_NoEntry) = some (.type "type"))
    (kC_NoEntry : PySem.W.keepIn K (.ref C_NoEntry) = true)
    (ga_NoEntry : PySem.W.findIn K (.ref C_NoEntry) "__getattribute__" = some (some (.builtin "BaseException.__getattribute__")))
    (gg_NoEntry : PySem.W.findIn K (.ref C_NoEntry) "__getattr__" = some none)
    (hC_NoEntry : PySem.W.hasDictIn K C_NoEntry = true)
    (hcl_NoEntry : PySem.W.findIn K (.ref C_NoEntry) "__class__" = some (some (.builtin "object.__class__")))
    (hmr_NoEntry : PySem.W.mroIn K C_NoEntry (.type "object") = some true)
    (nf_NoEntry : PySem.W.findIn K (.ref C_NoEntry) "method" = some none)
    (cC_NoEntry : PySem.W.isClsIn K C_NoEntry = true)
    (sC_NoEntry : PySem.W.subIn K (.ref C_NoEntry) (.ref C_NoEntry) = some true)
    {fI_NoEntry : Addr}
    (iI_NoEntry : PySem.W.findIn K (.ref C_NoEntry) "__init__" = some (some (.ref fI_NoEntry)))
    (tI_NoEntry : PySem.W.typeIn K (.ref fI_NoEntry) = some (.type "function"))
    {odI_NoEntry anI_NoEntry : Option Addr} {slI_NoEntry : Array (Option Value)} {ocI_NoEntry dcI_NoEntry pmI_NoEntry cdI_NoEntry ctI_NoEntry : Value}
    (lI_NoEntry : K.lookup fI_NoEntry = some ⟨ocI_NoEntry, odI_NoEntry, .func (PySem.W.fnOf "__init__" "NoEntry.__init__" (defArgs sInit_NoEntry) (defBody sInit_NoEntry) (defScope sInit_NoEntry) .none .none dcI_NoEntry pmI_NoEntry anI_NoEntry cdI_NoEntry ctI_NoEntry), slI_NoEntry⟩)
    (cI_NoEntry : PySem.W.codeIn K cdI_NoEntry "NoEntry.__init__" = true)
    (kI_NoEntry : PySem.W.keepIn K (.ref fI_NoEntry) = true)
    (cC_A : PySem.W.isClsIn K CA = true)
    (tC_A : PySem.W.typeIn K (.ref CA) = some (.type "type"))
    (ka_NoName : PySem.W.subIn K (.ref C_NoName) (.ref CA) = some true)
    (kv_NoName : PySem.W.subIn K (.ref C_NoName) (.type "ValueError") = some true)
    (ka_NoWays : PySem.W.subIn K (.ref C_NoWays) (.ref CA) = some true)
    (kv_NoWays : PySem.W.subIn K (.ref C_NoWays) (.type "ValueError") = some true)
    (ka_NoFlag : PySem.W.subIn K (.ref C_NoFlag) (.ref CA) = some true)
    (kv_NoFlag : PySem.W.subIn K (.ref C_NoFlag) (.type "ValueError") = some true)
    (ka_NoBook : PySem.W.subIn K (.ref C_NoBook) (.ref CA) = some true)
    (kv_NoBook : PySem.W.subIn K (.ref C_NoBook) (.type "ValueError") = some true)
    (ka_NoEntry : PySem.W.subIn K (.ref C_NoEntry) (.ref CA) = some true)
    (kv_NoEntry : PySem.W.subIn K (.ref C_NoEntry) (.type "ValueError") = some true)
    (no_NoEntry_NoBook : PySem.W.subIn K (.ref C_NoEntry) (.ref C_NoBook) = some false)
    (no_NoBook_NoEntry : PySem.W.subIn K (.ref C_NoBook) (.ref C_NoEntry) = some false)
    {C_Body : Addr}
    (aK_Body : PySem.W.nsIn K mainGlobals "Body" = some (some (.ref C_Body)))
    (pg_Body : PySem.W.plainGet K C_Body Str.empty = true)
    (hd_Body : PySem.W.hasDictIn K C_Body = true)
    (po_Body : PySem.W.plainOver K C_Body = true)
    (sa_Body : PySem.W.findIn K (.ref C_Body) "__setattr__" = some (some (.builtin "object.__setattr__")))
    (mk_Body : PySem.W.makesIn K C_Body = true)
    (kc_Body : PySem.W.keepIn K (.ref C_Body) = true)
    (ne_Body : PySem.W.findIn K (.ref C_Body) "__ne__" = some (some (.builtin "object.__ne__")))
    (ob_Body : PySem.W.mroIn K C_Body (.type "object") = some true)
    (hc_Body : PySem.W.findIn K (.ref C_Body) "__class__" = some (some (.builtin "object.__class__")))
    (dq_Body : PySem.W.subIn K (.ref C_Body) (.type "collections.deque") = some false)
    (cC_Body : PySem.W.isClsIn K C_Body = true)
    (tC_Body : PySem.W.typeIn K (.ref C_Body) = some (.type "type"))
    (n_Body_method : PySem.W.findIn K (.ref C_Body) "method" = some none)
    (n_Body_expression : PySem.W.findIn K (.ref C_Body) "expression" = some none)
    (n_Body__nodes : PySem.W.findIn K (.ref C_Body) "_nodes" = some none)
    (s_Body_str : PySem.W.subIn K (.type "str") (.ref C_Body) = some false)
    {C_Book : Addr}
    (aK_Book : PySem.W.nsIn K mainGlobals "Book" = some (some (.ref C_Book)))
    (pg_Book : PySem.W.plainGet K C_Book Str.empty = true)
    (hd_Book : PySem.W.hasDictIn K C_Book = true)
    (po_Book : PySem.W.plainOver K C_Book = true)
    (sa_Book : PySem.W.findIn K (.ref C_Book) "__setattr__" = some (some (.builtin "object.__setattr__")))
    (mk_Book : PySem.W.makesIn K C_Book = true)
    (kc_Book : PySem.W.keepIn K (.ref C_Book) = true)
    (ne_Book : PySem.W.findIn K (.ref C_Book) "__ne__" = some (some (.builtin "object.__ne__")))
    (ob_Book : PySem.W.mroIn K C_Book (.type "object") = some true)
    (hc_Book : PySem.W.findIn K (.ref C_Book) "__class__" = some (some (.builtin "object.__class__")))
    (dq_Book : PySem.W.subIn K (.ref C_Book) (.type "collections.deque") = some false)
    (cC_Book : PySem.W.isClsIn K C_Book = true)
    (tC_Book : PySem.W.typeIn K (.ref C_Book) = some (.type "type"))
    (n_Book__ways : PySem.W.findIn K (.ref C_Book) "_ways" = some none)
    (n_Book__flags : PySem.W.findIn K (.ref C_Book) "_flags" = some none)
    (s_Book_NoneType : PySem.W.subIn K (.type "NoneType") (.ref C_Book) = some false)
    (s_Book_int : PySem.W.subIn K (.type "int") (.ref C_Book) = some false)
    (s_Book_str : PySem.W.subIn K (.type "str") (.ref C_Book) = some false)
    (s_Book_list : PySem.W.subIn K (.type "list") (.ref C_Book) = some false)
    (s_Book_bool : PySem.W.subIn K (.type "bool") (.ref C_Book) = some false)
    {f_Book_init : Addr}
    (a_Book_init : PySem.W.findIn K (.ref C_Book) "__init__" = some (some (.ref f_Book_init)))
    (i_Book_init : PySem.W.isFn K (.ref f_Book_init) = true)
    {od_Book_init an_Book_init : Option Addr} {sl_Book_init : Array (Option Value)} {oc_Book_init kV_Book_init dc_Book_init pm_Book_init cd_Book_init ct_Book_init : Value}
    (l_Book_init : K.lookup f_Book_init = some ⟨oc_Book_init, od_Book_init, .func (PySem.W.fnOf "__init__" "Book.__init__" (defArgs sBook___init__) (defBody sBook___init__) (defScope sBook___init__) .none kV_Book_init dc_Book_init pm_Book_init an_Book_init cd_Book_init ct_Book_init), sl_Book_init⟩)
    (c_Book_init : PySem.W.codeIn K cd_Book_init "Book.__init__" = true)
    (k_Book_init : PySem.W.keepIn K (.ref f_Book_init) = true)
    {f_Book_setitem : Addr}
    (a_Book_setitem : PySem.W.findIn K (.ref C_Book) "__setitem__" = some (some (.ref f_Book_setitem)))
    (i_Book_setitem : PySem.W.isFn K (.ref f_Book_setitem) = true)
    {od_Book_setitem an_Book_setitem : Option Addr} {sl_Book_setitem : Array (Option Value)} {oc_Book_setitem kV_Book_setitem dc_Book_setitem pm_Book_setitem cd_Book_setitem ct_Book_setitem : Value}
    (l_Book_setitem : K.lookup f_Book_setitem = some ⟨oc_Book_setitem, od_Book_setitem, .func (PySem.W.fnOf "__setitem__" "Book.__setitem__" (defArgs sBook___setitem__) (defBody sBook___setitem__) (defScope sBook___setitem__) .none kV_Book_setitem dc_Book_setitem pm_Book_setitem an_Book_setitem cd_Book_setitem ct_Book_setitem), sl_Book_setitem⟩)
    (c_Book_setitem : PySem.W.codeIn K cd_Book_setitem "Book.__setitem__" = true)
    (k_Book_setitem : PySem.W.keepIn K (.ref f_Book_setitem) = true)
    {f_Book_set_flag : Addr}
    (a_Book_set_flag : PySem.W.findIn K (.ref C_Book) "set_flag" = some (some (.ref f_Book_set_flag)))
    (i_Book_set_flag : PySem.W.isFn K (.ref f_Book_set_flag) = true)
    {od_Book_set_flag an_Book_set_flag : Option Addr} {sl_Book_set_flag : Array (Option Value)} {oc_Book_set_flag kV_Book_set_flag dc_Book_set_flag pm_Book_set_flag cd_Book_set_flag ct_Book_set_flag : Value}
    (l_Book_set_flag : K.lookup f_Book_set_flag = some ⟨oc_Book_set_flag, od_Book_set_flag, .func (PySem.W.fnOf "set_flag" "Book.set_flag" (defArgs sBook_set_flag) (defBody sBook_set_flag) (defScope sBook_set_flag) .none kV_Book_set_flag dc_Book_set_flag pm_Book_set_flag an_Book_set_flag cd_Book_set_flag ct_Book_set_flag), sl_Book_set_flag⟩)
    (c_Book_set_flag : PySem.W.codeIn K cd_Book_set_flag "Book.set_flag" = true)
    (k_Book_set_flag : PySem.W.keepIn K (.ref f_Book_set_flag) = true)
    {f_Book_twin : Addr}
    (a_Book_twin : PySem.W.findIn K (.ref C_Book) "twin" = some (some (.ref f_Book_twin)))
    (i_Book_twin : PySem.W.isFn K (.ref f_Book_twin) = true)
    {od_Book_twin an_Book_twin : Option Addr} {sl_Book_twin : Array (Option Value)} {oc_Book_twin kV_Book_twin dc_Book_twin pm_Book_twin cd_Book_twin ct_Book_twin : Value}
    (l_Book_twin : K.lookup f_Book_twin = some ⟨oc_Book_twin, od_Book_twin, .func (PySem.W.fnOf "twin" "Book.twin" (defArgs sBook_twin) (defBody sBook_twin) (defScope sBook_twin) .none kV_Book_twin dc_Book_twin pm_Book_twin an_Book_twin cd_Book_twin ct_Book_twin), sl_Book_twin⟩)
    (c_Book_twin : PySem.W.codeIn K cd_Book_twin "Book.twin" = true)
    (k_Book_twin : PySem.W.keepIn K (.ref f_Book_twin) = true)
    {f_Book_eq : Addr}
    (a_Book_eq : PySem.W.findIn K (.ref C_Book) "__eq__" = some (some (.ref f_Book_eq)))
    (i_Book_eq : PySem.W.isFn K (.ref f_Book_eq) = true)
    {od_Book_eq an_Book_eq : Option Addr} {sl_Book_eq : Array (Option Value)} {oc_Book_eq kV_Book_eq dc_Book_eq pm_Book_eq cd_Book_eq ct_Book_eq : Value}
    (l_Book_eq : K.lookup f_Book_eq = some ⟨oc_Book_eq, od_Book_eq, .func (PySem.W.fnOf "__eq__" "Book.__eq__" (defArgs sBook___eq__) (defBody sBook___eq__) (defScope sBook___eq__) .none kV_Book_eq dc_Book_eq pm_Book_eq an_Book_eq cd_Book_eq ct_Book_eq), sl_Book_eq⟩)
    (c_Book_eq : PySem.W.codeIn K cd_Book_eq "Book.__eq__" = true)
    (k_Book_eq : PySem.W.keepIn K (.ref f_Book_eq) = true)
    {C_Table : Addr}
    (aK_Table : PySem.W.nsIn K mainGlobals "Table" = some (some (.ref C_Table)))
    (pg_Table : PySem.W.plainGet K C_Table Str.empty = true)
    (hd_Table : PySem.W.hasDictIn K C_Table = true)
    (po_Table : PySem.W.plainOver K C_Table = true)
    (sa_Table : PySem.W.findIn K (.ref C_Table) "__setattr__" = some (some (.builtin "object.__setattr__")))
    (mk_Table : PySem.W.makesIn K C_Table = true)
    (kc_Table : PySem.W.keepIn K (.ref C_Table) = true)
    (ne_Table : PySem.W.findIn K (.ref C_Table) "__ne__" = some (some (.builtin "object.__ne__")))
    (ob_Table : PySem.W.mroIn K C_Table (.type "object") = some true)
    (hc_Table : PySem.W.findIn K (.ref C_Table) "__class__" = some (some (.builtin "object.__class__")))
    (dq_Table : PySem.W.subIn K (.ref C_Table) (.type "collections.deque") = some false)
    (cC_Table : PySem.W.isClsIn K C_Table = true)
    (tC_Table : PySem.W.typeIn K (.ref C_Table) = some (.type "type"))
    (n_Table__book : PySem.W.findIn K (.ref C_Table) "_book" = some none)
    (n_Table__names : PySem.W.findIn K (.ref C_Table) "_names" = some none)
    (n_Table__bases : PySem.W.findIn K (.ref C_Table) "_bases" = some none)
    (n_Table__orders : PySem.W.findIn K (.ref C_Table) "_orders" = some none)
    (n_Table__entries : PySem.W.findIn K (.ref C_Table) "_entries" = some none)
    {f_Table_init : Addr}
    (a_Table_init : PySem.W.findIn K (.ref C_Table) "__init__" = some (some (.ref f_Table_init)))
    (i_Table_init : PySem.W.isFn K (.ref f_Table_init) = true)
    {od_Table_init an_Table_init : Option Addr} {sl_Table_init : Array (Option Value)} {oc_Table_init kV_Table_init dc_Table_init pm_Table_init cd_Table_init ct_Table_init : Value}
    (l_Table_init : K.lookup f_Table_init = some ⟨oc_Table_init, od_Table_init, .func (PySem.W.fnOf "__init__" "Table.__init__" (defArgs sTable___init__) (defBody sTable___init__) (defScope sTable___init__) .none kV_Table_init dc_Table_init pm_Table_init an_Table_init cd_Table_init ct_Table_init), sl_Table_init⟩)
    (c_Table_init : PySem.W.codeIn K cd_Table_init "Table.__init__" = true)
    (k_Table_init : PySem.W.keepIn K (.ref f_Table_init) = true)
    {f_Table__check_class : Addr}
    (a_Table__check_class : PySem.W.findIn K (.ref C_Table) "_check_class" = some (some (.ref f_Table__check_class)))
    (i_Table__check_class : PySem.W.isFn K (.ref f_Table__check_class) = true)
    {od_Table__check_class an_Table__check_class : Option Addr} {sl_Table__check_class : Array (Option Value)} {oc_Table__check_class kV_Table__check_class dc_Table__check_class pm_Table__check_class cd_Table__check_class ct_Table__check_class : Value}
    (l_Table__check_class : K.lookup f_Table__check_class = some ⟨oc_Table__check_class, od_Table__check_class, .func (PySem.W.fnOf "_check_class" "Table._check_class" (defArgs sTable__check_class) (defBody sTable__check_class) (defScope sTable__check_class) .none kV_Table__check_class dc_Table__check_class pm_Table__check_class an_Table__check_class cd_Table__check_class ct_Table__check_class), sl_Table__check_class⟩)
    (c_Table__check_class : PySem.W.codeIn K cd_Table__check_class "Table._check_class" = true)
    (k_Table__check_class : PySem.W.keepIn K (.ref f_Table__check_class) = true)
    {f_Table_add : Addr}
    (a_Table_add : PySem.W.findIn K (.ref C_Table) "add" = some (some (.ref f_Table_add)))
    (i_Table_add : PySem.W.isFn K (.ref f_Table_add) = true)
    {od_Table_add an_Table_add : Option Addr} {sl_Table_add : Array (Option Value)} {oc_Table_add kV_Table_add dc_Table_add pm_Table_add cd_Table_add ct_Table_add : Value}
    (l_Table_add : K.lookup f_Table_add = some ⟨oc_Table_add, od_Table_add, .func (PySem.W.fnOf "add" "Table.add" (defArgs sTable_add) (defBody sTable_add) (defScope sTable_add) .none kV_Table_add dc_Table_add pm_Table_add an_Table_add cd_Table_add ct_Table_add), sl_Table_add⟩)
    (c_Table_add : PySem.W.codeIn K cd_Table_add "Table.add" = true)
    (k_Table_add : PySem.W.keepIn K (.ref f_Table_add) = true)
    {f_Table_setitem : Addr}
    (a_Table_setitem : PySem.W.findIn K (.ref C_Table) "__setitem__" = some (some (.ref f_Table_setitem)))
    (i_Table_setitem : PySem.W.isFn K (.ref f_Table_setitem) = true)
    {od_Table_setitem an_Table_setitem : Option Addr} {sl_Table_setitem : Array (Option Value)} {oc_Table_setitem kV_Table_setitem dc_Table_setitem pm_Table_setitem cd_Table_setitem ct_Table_setitem : Value}
    (l_Table_setitem : K.lookup f_Table_setitem = some ⟨oc_Table_setitem, od_Table_setitem, .func (PySem.W.fnOf "__setitem__" "Table.__setitem__" (defArgs sTable___setitem__) (defBody sTable___setitem__) (defScope sTable___setitem__) .none kV_Table_setitem dc_Table_setitem pm_Table_setitem an_Table_setitem cd_Table_setitem ct_Table_setitem), sl_Table_setitem⟩)
    (c_Table_setitem : PySem.W.codeIn K cd_Table_setitem "Table.__setitem__" = true)
    (k_Table_setitem : PySem.W.keepIn K (.ref f_Table_setitem) = true)
    {f_Table_entries : Addr}
    (a_Table_entries : PySem.W.findIn K (.ref C_Table) "entries" = some (some (.ref f_Table_entries)))
    (i_Table_entries : PySem.W.isFn K (.ref f_Table_entries) = true)
    {od_Table_entries an_Table_entries : Option Addr} {sl_Table_entries : Array (Option Value)} {oc_Table_entries kV_Table_entries dc_Table_entries pm_Table_entries cd_Table_entries ct_Table_entries : Value}
    (l_Table_entries : K.lookup f_Table_entries = some ⟨oc_Table_entries, od_Table_entries, .func (PySem.W.fnOf "entries" "Table.entries" (defArgs sTable_entries) (defBody sTable_entries) (defScope sTable_entries) .none kV_Table_entries dc_Table_entries pm_Table_entries an_Table_entries cd_Table_entries ct_Table_entries), sl_Table_entries⟩)
    (c_Table_entries : PySem.W.codeIn K cd_Table_entries "Table.entries" = true)
    (k_Table_entries : PySem.W.keepIn K (.ref f_Table_entries) = true)
    {f_Table_bases : Addr}
    (a_Table_bases : PySem.W.findIn K (.ref C_Table) "bases" = some (some (.ref f_Table_bases)))
    (i_Table_bases : PySem.W.isFn K (.ref f_Table_bases) = true)
    {od_Table_bases an_Table_bases : Option Addr} {sl_Table_bases : Array (Option Value)} {oc_Table_bases kV_Table_bases dc_Table_bases pm_Table_bases cd_Table_bases ct_Table_bases : Value}
    (l_Table_bases : K.lookup f_Table_bases = some ⟨oc_Table_bases, od_Table_bases, .func (PySem.W.fnOf "bases" "Table.bases" (defArgs sTable_bases) (defBody sTable_bases) (defScope sTable_bases) .none kV_Table_bases dc_Table_bases pm_Table_bases an_Table_bases cd_Table_bases ct_Table_bases), sl_Table_bases⟩)
    (c_Table_bases : PySem.W.codeIn K cd_Table_bases "Table.bases" = true)
    (k_Table_bases : PySem.W.keepIn K (.ref f_Table_bases) = true)
    {f_Table_book : Addr}
    (a_Table_book : PySem.W.findIn K (.ref C_Table) "book" = some (some (.ref f_Table_book)))
    (i_Table_book : PySem.W.isFn K (.ref f_Table_book) = true)
    {od_Table_book an_Table_book : Option Addr} {sl_Table_book : Array (Option Value)} {oc_Table_book kV_Table_book dc_Table_book pm_Table_book cd_Table_book ct_Table_book : Value}
    (l_Table_book : K.lookup f_Table_book = some ⟨oc_Table_book, od_Table_book, .func (PySem.W.fnOf "book" "Table.book" (defArgs sTable_book) (defBody sTable_book) (defScope sTable_book) .none kV_Table_book dc_Table_book pm_Table_book an_Table_book cd_Table_book ct_Table_book), sl_Table_book⟩)
    (c_Table_book : PySem.W.codeIn K cd_Table_book "Table.book" = true)
    (k_Table_book : PySem.W.keepIn K (.ref f_Table_book) = true)
    {f_Table_twin : Addr}
    (a_Table_twin : PySem.W.findIn K (.ref C_Table) "twin" = some (some (.ref f_Table_twin)))
    (i_Table_twin : PySem.W.isFn K (.ref f_Table_twin) = true)
    {od_Table_twin an_Table_twin : Option Addr} {sl_Table_twin : Array (Option Value)} {oc_Table_twin kV_Table_twin dc_Table_twin pm_Table_twin cd_Table_twin ct_Table_twin : Value}
    (l_Table_twin : K.lookup f_Table_twin = some ⟨oc_Table_twin, od_Table_twin, .func (PySem.W.fnOf "twin" "Table.twin" (defArgs sTable_twin) (defBody sTable_twin) (defScope sTable_twin) .none kV_Table_twin dc_Table_twin pm_Table_twin an_Table_twin cd_Table_twin ct_Table_twin), sl_Table_twin⟩)
    (c_Table_twin : PySem.W.codeIn K cd_Table_twin "Table.twin" = true)
    (k_Table_twin : PySem.W.keepIn K (.ref f_Table_twin) = true)
    {f_Table_listed : Addr}
    (a_Table_listed : PySem.W.findIn K (.ref C_Table) "listed" = some (some (.ref f_Table_listed)))
    (i_Table_listed : PySem.W.isFn K (.ref f_Table_listed) = true)
    {od_Table_listed an_Table_listed : Option Addr} {sl_Table_listed : Array (Option Value)} {oc_Table_listed kV_Table_listed dc_Table_listed pm_Table_listed cd_Table_listed ct_Table_listed : Value}
    (l_Table_listed : K.lookup f_Table_listed = some ⟨oc_Table_listed, od_Table_listed, .func (PySem.W.fnOf "listed" "Table.listed" (defArgs sTable_listed) (defBody sTable_listed) (defScope sTable_listed) .none kV_Table_listed dc_Table_listed pm_Table_listed an_Table_listed cd_Table_listed ct_Table_listed), sl_Table_listed⟩)
    (c_Table_listed : PySem.W.codeIn K cd_Table_listed "Table.listed" = true)
    (k_Table_listed : PySem.W.keepIn K (.ref f_Table_listed) = true)
    {f_Table_contains : Addr}
    (a_Table_contains : PySem.W.findIn K (.ref C_Table) "__contains__" = some (some (.ref f_Table_contains)))
    (i_Table_contains : PySem.W.isFn K (.ref f_Table_contains) = true)
    {od_Table_contains an_Table_contains : Option Addr} {sl_Table_contains : Array (Option Value)} {oc_Table_contains kV_Table_contains dc_Table_contains pm_Table_contains cd_Table_contains ct_Table_contains : Value}
    (l_Table_contains : K.lookup f_Table_contains = some ⟨oc_Table_contains, od_Table_contains, .func (PySem.W.fnOf "__contains__" "Table.__contains__" (defArgs sTable___contains__) (defBody sTable___contains__) (defScope sTable___contains__) .none kV_Table_contains dc_Table_contains pm_Table_contains an_Table_contains cd_Table_contains ct_Table_contains), sl_Table_contains⟩)
    (c_Table_contains : PySem.W.codeIn K cd_Table_contains "Table.__contains__" = true)
    (k_Table_contains : PySem.W.keepIn K (.ref f_Table_contains) = true)
    {f_Table_eq : Addr}
    (a_Table_eq : PySem.W.findIn K (.ref C_Table) "__eq__" = some (some (.ref f_Table_eq)))
    (i_Table_eq : PySem.W.isFn K (.ref f_Table_eq) = true)
    {od_Table_eq an_Table_eq : Option Addr} {sl_Table_eq : Array (Option Value)} {oc_Table_eq kV_Table_eq dc_Table_eq pm_Table_eq cd_Table_eq ct_Table_eq : Value}
    (l_Table_eq : K.lookup f_Table_eq = some ⟨oc_Table_eq, od_Table_eq, .func (PySem.W.fnOf "__eq__" "Table.__eq__" (defArgs sTable___eq__) (defBody sTable___eq__) (defScope sTable___eq__) .none kV_Table_eq dc_Table_eq pm_Table_eq an_Table_eq cd_Table_eq ct_Table_eq), sl_Table_eq⟩)
    (c_Table_eq : PySem.W.codeIn K cd_Table_eq "Table.__eq__" = true)
    (k_Table_eq : PySem.W.keepIn K (.ref f_Table_eq) = true)
    {C_Scene : Addr}
    (aK_Scene : PySem.W.nsIn K mainGlobals "Scene" = some (some (.ref C_Scene)))
    (pg_Scene : PySem.W.plainGet K C_Scene Str.empty = true)
    (hd_Scene : PySem.W.hasDictIn K C_Scene = true)
    (po_Scene : PySem.W.plainOver K C_Scene = true)
    (sa_Scene : PySem.W.findIn K (.ref C_Scene) "__setattr__" = some (some (.builtin "object.__setattr__")))
    (mk_Scene : PySem.W.makesIn K C_Scene = true)
    (kc_Scene : PySem.W.keepIn K (.ref C_Scene) = true)
    (ne_Scene : PySem.W.findIn K (.ref C_Scene) "__ne__" = some (some (.builtin "object.__ne__")))
    (ob_Scene : PySem.W.mroIn K C_Scene (.type "object") = some true)
    (hc_Scene : PySem.W.findIn K (.ref C_Scene) "__class__" = some (some (.builtin "object.__class__")))
    (dq_Scene : PySem.W.subIn K (.ref C_Scene) (.type "collections.deque") = some false)
    (cC_Scene : PySem.W.isClsIn K C_Scene = true)
    (tC_Scene : PySem.W.typeIn K (.ref C_Scene) = some (.type "type"))
    (n_Scene__names : PySem.W.findIn K (.ref C_Scene) "_names" = some none)
    (n_Scene__table : PySem.W.findIn K (.ref C_Scene) "_table" = some none)
    (n_Scene__book : PySem.W.findIn K (.ref C_Scene) "_book" = some none)
    {f_Scene_init : Addr}
    (a_Scene_init : PySem.W.findIn K (.ref C_Scene) "__init__" = some (some (.ref f_Scene_init)))
    (i_Scene_init : PySem.W.isFn K (.ref f_Scene_init) = true)
    {od_Scene_init an_Scene_init : Option Addr} {sl_Scene_init : Array (Option Value)} {oc_Scene_init kV_Scene_init dc_Scene_init pm_Scene_init cd_Scene_init ct_Scene_init : Value}
    {T_Scene_init : Addr} {dT_Scene_init : Option Addr} {iT_Scene_init : Array Value} {nT_Scene_init : Nat} {sT_Scene_init : Array (Option Value)}
    (l_Scene_init : K.lookup f_Scene_init = some ⟨oc_Scene_init, od_Scene_init, .func (PySem.W.fnOf "__init__" "Scene.__init__" (defArgs sScene___init__) (defBody sScene___init__) (defScope sScene___init__) (.ref T_Scene_init) kV_Scene_init dc_Scene_init pm_Scene_init an_Scene_init cd_Scene_init ct_Scene_init), sl_Scene_init⟩)
    (lT_Scene_init : K.lookup T_Scene_init = some ⟨.type "tuple", dT_Scene_init, .seq iT_Scene_init nT_Scene_init, sT_Scene_init⟩)
    (vT_Scene_init : iT_Scene_init.toList = [.none, .none])
    (c_Scene_init : PySem.W.codeIn K cd_Scene_init "Scene.__init__" = true)
    (k_Scene_init : PySem.W.keepIn K (.ref f_Scene_init) = true)
    {f_Scene_classes : Addr}
    (a_Scene_classes : PySem.W.findIn K (.ref C_Scene) "classes" = some (some (.ref f_Scene_classes)))
    (i_Scene_classes : PySem.W.isFn K (.ref f_Scene_classes) = true)
    {od_Scene_classes an_Scene_classes : Option Addr} {sl_Scene_classes : Array (Option Value)} {oc_Scene_classes kV_Scene_classes dc_Scene_classes pm_Scene_classes cd_Scene_classes ct_Scene_classes : Value}
    (l_Scene_classes : K.lookup f_Scene_classes = some ⟨oc_Scene_classes, od_Scene_classes, .func (PySem.W.fnOf "classes" "Scene.classes" (defArgs sScene_classes) (defBody sScene_classes) (defScope sScene_classes) .none kV_Scene_classes dc_Scene_classes pm_Scene_classes an_Scene_classes cd_Scene_classes ct_Scene_classes), sl_Scene_classes⟩)
    (c_Scene_classes : PySem.W.codeIn K cd_Scene_classes "Scene.classes" = true)
    (k_Scene_classes : PySem.W.keepIn K (.ref f_Scene_classes) = true)
    {f_Scene_table : Addr}
    (a_Scene_table : PySem.W.findIn K (.ref C_Scene) "table" = some (some (.ref f_Scene_table)))
    (i_Scene_table : PySem.W.isFn K (.ref f_Scene_table) = true)
    {od_Scene_table an_Scene_table : Option Addr} {sl_Scene_table : Array (Option Value)} {oc_Scene_table kV_Scene_table dc_Scene_table pm_Scene_table cd_Scene_table ct_Scene_table : Value}
    (l_Scene_table : K.lookup f_Scene_table = some ⟨oc_Scene_table, od_Scene_table, .func (PySem.W.fnOf "table" "Scene.table" (defArgs sScene_table) (defBody sScene_table) (defScope sScene_table) .none kV_Scene_table dc_Scene_table pm_Scene_table an_Scene_table cd_Scene_table ct_Scene_table), sl_Scene_table⟩)
    (c_Scene_table : PySem.W.codeIn K cd_Scene_table "Scene.table" = true)
    (k_Scene_table : PySem.W.keepIn K (.ref f_Scene_table) = true)
    {p_METHODS : Addr} {d_METHODS : Option Addr} {i_METHODS : Array Value} {n_METHODS : Nat} {s_METHODS : Array (Option Value)}
    (a_METHODS : PySem.W.nsIn K mainGlobals "METHODS" = some (some (.ref p_METHODS)))
    (l_METHODS : K.lookup p_METHODS = some ⟨.type "tuple", d_METHODS, .seq i_METHODS n_METHODS, s_METHODS⟩)
    (z_METHODS : i_METHODS.size ≤ sizeLine)
    (v_METHODS : Vals (methods.map V.str) i_METHODS.toList)
    (dn_METHODS : d_METHODS = none)
    {p_OPERATIONS : Addr} {d_OPERATIONS : Option Addr} {i_OPERATIONS : Array Value} {n_OPERATIONS : Nat} {s_OPERATIONS : Array (Option Value)}
    (a_OPERATIONS : PySem.W.nsIn K mainGlobals "OPERATIONS" = some (some (.ref p_OPERATIONS)))
    (l_OPERATIONS : K.lookup p_OPERATIONS = some ⟨.type "tuple", d_OPERATIONS, .seq i_OPERATIONS n_OPERATIONS, s_OPERATIONS⟩)
    (z_OPERATIONS : i_OPERATIONS.size ≤ sizeLine)
    (v_OPERATIONS : Vals (ops.map V.str) i_OPERATIONS.toList)
    {p_FLAGS : Addr} {d_FLAGS : Option Addr} {i_FLAGS : Array Value} {n_FLAGS : Nat} {s_FLAGS : Array (Option Value)}
    (a_FLAGS : PySem.W.nsIn K mainGlobals "FLAGS" = some (some (.ref p_FLAGS)))
    (l_FLAGS : K.lookup p_FLAGS = some ⟨.type "tuple", d_FLAGS, .seq i_FLAGS n_FLAGS, s_FLAGS⟩)
    (z_FLAGS : i_FLAGS.size ≤ sizeLine)
    (v_FLAGS : Vals (flagsW.map V.str) i_FLAGS.toList)
    {p_ENTRY_WORDS : Addr} {d_ENTRY_WORDS : Option Addr} {i_ENTRY_WORDS : Array Value} {n_ENTRY_WORDS : Nat} {s_ENTRY_WORDS : Array (Option Value)}
    (a_ENTRY_WORDS : PySem.W.nsIn K mainGlobals "ENTRY_WORDS" = some (some (.ref p_ENTRY_WORDS)))
    (l_ENTRY_WORDS : K.lookup p_ENTRY_WORDS = some ⟨.type "tuple", d_ENTRY_WORDS, .seq i_ENTRY_WORDS n_ENTRY_WORDS, s_ENTRY_WORDS⟩)
    (z_ENTRY_WORDS : i_ENTRY_WORDS.size ≤ sizeLine)
    (v_ENTRY_WORDS : Vals (entW.map V.str) i_ENTRY_WORDS.toList)
    {p_OPERANDS : Addr} {d_OPERANDS : Option Addr} {i_OPERANDS : Array Value} {n_OPERANDS : Nat} {s_OPERANDS : Array (Option Value)}
    (a_OPERANDS : PySem.W.nsIn K mainGlobals "OPERANDS" = some (some (.ref p_OPERANDS)))
    (l_OPERANDS : K.lookup p_OPERANDS = some ⟨.type "tuple", d_OPERANDS, .seq i_OPERANDS n_OPERANDS, s_OPERANDS⟩)
    (z_OPERANDS : i_OPERANDS.size ≤ sizeLine)
    (v_OPERANDS : Vals (opers.map V.int) i_OPERANDS.toList)
    {p_SPREAD_CLASSES : Addr} {d_SPREAD_CLASSES : Option Addr} {i_SPREAD_CLASSES : Array Value} {n_SPREAD_CLASSES : Nat} {s_SPREAD_CLASSES : Array (Option Value)}
    (a_SPREAD_CLASSES : PySem.W.nsIn K mainGlobals "SPREAD_CLASSES" = some (some (.ref p_SPREAD_CLASSES)))
    (l_SPREAD_CLASSES : K.lookup p_SPREAD_CLASSES = some ⟨.type "tuple", d_SPREAD_CLASSES, .seq i_SPREAD_CLASSES n_SPREAD_CLASSES, s_SPREAD_CLASSES⟩)
    (z_SPREAD_CLASSES : i_SPREAD_CLASSES.size ≤ sizeLine)
    (v_SPREAD_CLASSES : Vals (names3.map V.str) i_SPREAD_CLASSES.toList)
    {p_MENUS : Addr} {e_MENUS : Array DictEntry} {n_MENUS : Nat}
    (a_MENUS : PySem.W.nsIn K mainGlobals "MENUS" = some (some (.ref p_MENUS)))
    (l_MENUS : K.lookup p_MENUS = some ⟨.type "dict", none, .dict e_MENUS n_MENUS, #[]⟩)
    (y_MENUS : PySem.W.KeysLit w.params e_MENUS.toList)
    {q_MENUS_truth : Addr} {d_MENUS_truth : Option Addr} {i_MENUS_truth : Array Value} {n_MENUS_truth : Nat} {s_MENUS_truth : Array (Option Value)}
    (g_MENUS_truth : PySem.W.nsIn K p_MENUS "truth" = some (some (.ref q_MENUS_truth)))
    (l_MENUS_truth : K.lookup q_MENUS_truth = some ⟨.type "tuple", d_MENUS_truth, .seq i_MENUS_truth n_MENUS_truth, s_MENUS_truth⟩)
    (z_MENUS_truth : i_MENUS_truth.size ≤ sizeLine)
    (v_MENUS_truth : Vals ((menu "truth").map V.str) i_MENUS_truth.toList)
    {q_MENUS_size : Addr} {d_MENUS_size : Option Addr} {i_MENUS_size : Array Value} {n_MENUS_size : Nat} {s_MENUS_size : Array (Option Value)}
    (g_MENUS_size : PySem.W.nsIn K p_MENUS "size" = some (some (.ref q_MENUS_size)))
    (l_MENUS_size : K.lookup q_MENUS_size = some ⟨.type "tuple", d_MENUS_size, .seq i_MENUS_size n_MENUS_size, s_MENUS_size⟩)
    (z_MENUS_size : i_MENUS_size.size ≤ sizeLine)
    (v_MENUS_size : Vals ((menu "size").map V.str) i_MENUS_size.toList)
    {q_MENUS_each : Addr} {d_MENUS_each : Option Addr} {i_MENUS_each : Array Value} {n_MENUS_each : Nat} {s_MENUS_each : Array (Option Value)}
    (g_MENUS_each : PySem.W.nsIn K p_MENUS "each" = some (some (.ref q_MENUS_each)))
    (l_MENUS_each : K.lookup q_MENUS_each = some ⟨.type "tuple", d_MENUS_each, .seq i_MENUS_each n_MENUS_each, s_MENUS_each⟩)
    (z_MENUS_each : i_MENUS_each.size ≤ sizeLine)
    (v_MENUS_each : Vals ((menu "each").map V.str) i_MENUS_each.toList)
    {q_MENUS_turned : Addr} {d_MENUS_turned : Option Addr} {i_MENUS_turned : Array Value} {n_MENUS_turned : Nat} {s_MENUS_turned : Array (Option Value)}
    (g_MENUS_turned : PySem.W.nsIn K p_MENUS "turned" = some (some (.ref q_MENUS_turned)))
    (l_MENUS_turned : K.lookup q_MENUS_turned = some ⟨.type "tuple", d_MENUS_turned, .seq i_MENUS_turned n_MENUS_turned, s_MENUS_turned⟩)
    (z_MENUS_turned : i_MENUS_turned.size ≤ sizeLine)
    (v_MENUS_turned : Vals ((menu "turned").map V.str) i_MENUS_turned.toList)
    {q_MENUS_hash : Addr} {d_MENUS_hash : Option Addr} {i_MENUS_hash : Array Value} {n_MENUS_hash : Nat} {s_MENUS_hash : Array (Option Value)}
    (g_MENUS_hash : PySem.W.nsIn K p_MENUS "hash" = some (some (.ref q_MENUS_hash)))
    (l_MENUS_hash : K.lookup q_MENUS_hash = some ⟨.type "tuple", d_MENUS_hash, .seq i_MENUS_hash n_MENUS_hash, s_MENUS_hash⟩)
    (z_MENUS_hash : i_MENUS_hash.size ≤ sizeLine)
    (v_MENUS_hash : Vals ((menu "hash").map V.str) i_MENUS_hash.toList)
    {q_MENUS_call : Addr} {d_MENUS_call : Option Addr} {i_MENUS_call : Array Value} {n_MENUS_call : Nat} {s_MENUS_call : Array (Option Value)}
    (g_MENUS_call : PySem.W.nsIn K p_MENUS "call" = some (some (.ref q_MENUS_call)))
    (l_MENUS_call : K.lookup q_MENUS_call = some ⟨.type "tuple", d_MENUS_call, .seq i_MENUS_call n_MENUS_call, s_MENUS_call⟩)
    (z_MENUS_call : i_MENUS_call.size ≤ sizeLine)
    (v_MENUS_call : Vals ((menu "call").map V.str) i_MENUS_call.toList)
    {q_MENUS_member : Addr} {d_MENUS_member : Option Addr} {i_MENUS_member : Array Value} {n_MENUS_member : Nat} {s_MENUS_member : Array (Option Value)}
    (g_MENUS_member : PySem.W.nsIn K p_MENUS "member" = some (some (.ref q_MENUS_member)))
    (l_MENUS_member : K.lookup q_MENUS_member = some ⟨.type "tuple", d_MENUS_member, .seq i_MENUS_member n_MENUS_member, s_MENUS_member⟩)
    (z_MENUS_member : i_MENUS_member.size ≤ sizeLine)
    (v_MENUS_member : Vals ((menu "member").map V.str) i_MENUS_member.toList)
    {q_MENUS_like : Addr} {d_MENUS_like : Option Addr} {i_MENUS_like : Array Value} {n_MENUS_like : Nat} {s_MENUS_like : Array (Option Value)}
    (g_MENUS_like : PySem.W.nsIn K p_MENUS "like" = some (some (.ref q_MENUS_like)))
    (l_MENUS_like : K.lookup q_MENUS_like = some ⟨.type "tuple", d_MENUS_like, .seq i_MENUS_like n_MENUS_like, s_MENUS_like⟩)
    (z_MENUS_like : i_MENUS_like.size ≤ sizeLine)
    (v_MENUS_like : Vals ((menu "like").map V.str) i_MENUS_like.toList)
    {q_MENUS_unlike : Addr} {d_MENUS_unlike : Option Addr} {i_MENUS_unlike : Array Value} {n_MENUS_unlike : Nat} {s_MENUS_unlike : Array (Option Value)}
    (g_MENUS_unlike : PySem.W.nsIn K p_MENUS "unlike" = some (some (.ref q_MENUS_unlike)))
    (l_MENUS_unlike : K.lookup q_MENUS_unlike = some ⟨.type "tuple", d_MENUS_unlike, .seq i_MENUS_unlike n_MENUS_unlike, s_MENUS_unlike⟩)
    (z_MENUS_unlike : i_MENUS_unlike.size ≤ sizeLine)
    (v_MENUS_unlike : Vals ((menu "unlike").map V.str) i_MENUS_unlike.toList)
    {q_MENUS_before : Addr} {d_MENUS_before : Option Addr} {i_MENUS_before : Array Value} {n_MENUS_before : Nat} {s_MENUS_before : Array (Option Value)}
    (g_MENUS_before : PySem.W.nsIn K p_MENUS "before" = some (some (.ref q_MENUS_before)))
    (l_MENUS_before : K.lookup q_MENUS_before = some ⟨.type "tuple", d_MENUS_before, .seq i_MENUS_before n_MENUS_before, s_MENUS_before⟩)
    (z_MENUS_before : i_MENUS_before.size ≤ sizeLine)
    (v_MENUS_before : Vals ((menu "before").map V.str) i_MENUS_before.toList)
    {q_MENUS_behind : Addr} {d_MENUS_behind : Option Addr} {i_MENUS_behind : Array Value} {n_MENUS_behind : Nat} {s_MENUS_behind : Array (Option Value)}
    (g_MENUS_behind : PySem.W.nsIn K p_MENUS "behind" = some (some (.ref q_MENUS_behind)))
    (l_MENUS_behind : K.lookup q_MENUS_behind = some ⟨.type "tuple", d_MENUS_behind, .seq i_MENUS_behind n_MENUS_behind, s_MENUS_behind⟩)
    (z_MENUS_behind : i_MENUS_behind.size ≤ sizeLine)
    (v_MENUS_behind : Vals ((menu "behind").map V.str) i_MENUS_behind.toList)
    {q_MENUS_grow : Addr} {d_MENUS_grow : Option Addr} {i_MENUS_grow : Array Value} {n_MENUS_grow : Nat} {s_MENUS_grow : Array (Option Value)}
    (g_MENUS_grow : PySem.W.nsIn K p_MENUS "grow" = some (some (.ref q_MENUS_grow)))
    (l_MENUS_grow : K.lookup q_MENUS_grow = some ⟨.type "tuple", d_MENUS_grow, .seq i_MENUS_grow n_MENUS_grow, s_MENUS_grow⟩)
    (z_MENUS_grow : i_MENUS_grow.size ≤ sizeLine)
    (v_MENUS_grow : Vals ((menu "grow").map V.str) i_MENUS_grow.toList)
    {t_MOST_LETTERS : Tok}
    (a_MOST_LETTERS : PySem.W.nsIn K mainGlobals "MOST_LETTERS" = some (some (.int 6 t_MOST_LETTERS)))
    {t_MOST_CLASSES : Tok}
    (a_MOST_CLASSES : PySem.W.nsIn K mainGlobals "MOST_CLASSES" = some (some (.int 8 t_MOST_CLASSES)))
    : ∃ fd : FuncData, (∀ (s : Shared) (u : Value), BindsTo s fd ⟨[u], []⟩ [("_law_script", u)]) ∧ ∀ base : Heap, K.In base → base.Ns mainGlobals mg → FnG l.prog w K mg base CX0 19 fa fd ["_law_script"] (spLaw K) := by
  have e := hfa.symm.trans (PySem.W.mg_of X G a31)
  cases e
  have T : Txt K mg := { int := PySem.W.mg_none_of X G z_int, len := PySem.W.mg_none_of X G z_len, max := PySem.W.mg_none_of X G z_max, min := PySem.W.mg_none_of X G z_min, isinstance := PySem.W.mg_none_of X G z_isinstance, range := PySem.W.mg_none_of X G z_range, list := PySem.W.mg_none_of X G z_list, dict := PySem.W.mg_none_of X G z_dict, tuple := PySem.W.mg_none_of X G z_tuple, set := PySem.W.mg_none_of X G z_set, str := PySem.W.mg_none_of X G z_str, bool := PySem.W.mg_none_of X G z_bool, repr := PySem.W.mg_none_of X G z_repr, all := PySem.W.mg_none_of X G z_all, any := PySem.W.mg_none_of X G z_any, sum := PySem.W.mg_none_of X G z_sum, zip := PySem.W.mg_none_of X G z_zip, enumerate := PySem.W.mg_none_of X G z_enumerate }
  have D_is_number : DefAt K mg "is_number" sIs_number ["value"] := defAt X G (fun _ _ _ _ _ _ us hl => match us, hl with | [_], _ => rfl) a1 l1 c1 k1
  have D_is_word : DefAt K mg "is_word" sIs_word ["value"] := defAt X G (fun _ _ _ _ _ _ us hl => match us, hl with | [_], _ => rfl) a2 l2 c2 k2
  have D_is_one_of : DefAt K mg "is_one_of" sIs_one_of ["value", "words"] := defAt X G (fun _ _ _ _ _ _ us hl => match us, hl with | [_, _], _ => rfl) a3 l3 c3 k3
  have D_check_flag : DefAt K mg "check_flag" sCheck_flag ["value"] := defAt X G (fun _ _ _ _ _ _ us hl => match us, hl with | [_], _ => rfl) a4 l4 c4 k4
  have D_check_method : DefAt K mg "check_method" sCheck_method ["method"] := defAt X G (fun _ _ _ _ _ _ us hl => match us, hl with | [_], _ => rfl) a5 l5 c5 k5
  have D_check_operation : DefAt K mg "check_operation" sCheck_operation ["operation"] := defAt X G (fun _ _ _ _ _ _ us hl => match us, hl with | [_], _ => rfl) a6 l6 c6 k6
  have D_are_ways : DefAt K mg "are_ways" sAre_ways ["operation", "value"] := defAt X G (fun _ _ _ _ _ _ us hl => match us, hl with | [_, _], _ => rfl) a7 l7 c7 k7
  have D_check_book : DefAt K mg "check_book" sCheck_book ["book"] := defAt X G (fun _ _ _ _ _ _ us hl => match us, hl with | [_], _ => rfl) a8 l8 c8 k8
  have D__free_head : DefAt K mg "_free_head" sFree_head ["rows"] := defAt X G (fun _ _ _ _ _ _ us hl => match us, hl with | [_], _ => rfl) a9 l9 c9 k9
  have D__without : DefAt K mg "_without" sWithout ["rows", "name"] := defAt X G (fun _ _ _ _ _ _ us hl => match us, hl with | [_, _], _ => rfl) a10 l10 c10 k10
  have D_merged : DefAt K mg "merged" sMerged ["rows"] := defAt X G (fun _ _ _ _ _ _ us hl => match us, hl with | [_], _ => rfl) a11 l11 c11 k11
  have D_order_of : DefAt K mg "order_of" sOrder_of ["name", "bases"] := defAt X G (fun _ _ _ _ _ _ us hl => match us, hl with | [_, _], _ => rfl) a12 l12 c12 k12
  have D_is_entry : DefAt K mg "is_entry" sIs_entry ["method", "value"] := defAt X G (fun _ _ _ _ _ _ us hl => match us, hl with | [_, _], _ => rfl) a13 l13 c13 k13
  have D_check_table : DefAt K mg "check_table" sCheck_table ["table"] := defAt X G (fun _ _ _ _ _ _ us hl => match us, hl with | [_], _ => rfl) a14 l14 c14 k14
  have D_is_operand : DefAt K mg "is_operand" sIs_operand ["value"] := defAt X G (fun _ _ _ _ _ _ us hl => match us, hl with | [_], _ => rfl) a15 l15 c15 k15
  have D__place_of : DefAt K mg "_place_of" sPlace_of ["pair"] := defAt X G (fun _ _ _ _ _ _ us hl => match us, hl with | [_], _ => rfl) a16 l16 c16 k16
  have D__is_spread : DefAt K mg "_is_spread" sIs_spread ["value"] := defAt X G (fun _ _ _ _ _ _ us hl => match us, hl with | [_], _ => rfl) a17 l17 c17 k17
  have D__check_spread : DefAt K mg "_check_spread" sCheck_spread ["entries"] := defAt X G (fun _ _ _ _ _ _ us hl => match us, hl with | [_], _ => rfl) a18 l18 c18 k18
  have D_spread : DefAt K mg "spread" sSpread ["entries", "book"] := defAt X G (fun _ _ _ _ _ _ us hl => match us, hl with | [_, _], _ => rfl) a19 l19 c19 k19
  have D_L_pool : DefAt K mg "_law_pool" sL_pool ["_law_script", "_law_k"] := defAt X G (fun _ _ _ _ _ _ us hl => match us, hl with | [_, _], _ => rfl) a20 l20 c20 k20
  have D_L_take : DefAt K mg "_law_take" sL_take ["_law_pool_here", "_law_many"] := defAt X G (fun _ _ _ _ _ _ us hl => match us, hl with | [_, _], _ => rfl) a21 l21 c21 k21
  have D_L_one : DefAt K mg "_law_one" sL_one ["_law_pool_here", "_law_some"] := defAt X G (fun _ _ _ _ _ _ us hl => match us, hl with | [_, _], _ => rfl) a22 l22 c22 k22
  have D_L_menus : DefAt K mg "_law_menus" sL_menus [] := defAt X G (fun _ _ _ _ _ _ us hl => match us, hl with | [], _ => rfl) a23 l23 c23 k23
  have D_L_book : DefAt K mg "_law_book" sL_book ["_law_pool_here"] := defAt X G (fun _ _ _ _ _ _ us hl => match us, hl with | [_], _ => rfl) a24 l24 c24 k24
  have D_L_methods : DefAt K mg "_law_methods" sL_methods [] := defAt X G (fun _ _ _ _ _ _ us hl => match us, hl with | [], _ => rfl) a25 l25 c25 k25
  have D_L_entries : DefAt K mg "_law_entries" sL_entries ["_law_pool_here"] := defAt X G (fun _ _ _ _ _ _ us hl => match us, hl with | [_], _ => rfl) a26 l26 c26 k26
  have D_L_laid : DefAt K mg "_law_laid" sL_laid ["_law_entries_here", "_law_book_here"] := defAt X G (fun _ _ _ _ _ _ us hl => match us, hl with | [_, _], _ => rfl) a27 l27 c27 k27
  have D_L_refused : DefAt K mg "_law_refused" sL_refused ["_law_entries_here", "_law_book_here"] := defAt X G (fun _ _ _ _ _ _ us hl => match us, hl with | [_, _], _ => rfl) a28 l28 c28 k28
  have D_L_wrong : DefAt K mg "_law_wrong" sL_wrong ["_law_pool_here", "_law_entries_here"] := defAt X G (fun _ _ _ _ _ _ us hl => match us, hl with | [_, _], _ => rfl) a29 l29 c29 k29
  have D_L_right : DefAt K mg "_law_right" sL_right ["_law_entries_here", "_law_book_here"] := defAt X G (fun _ _ _ _ _ _ us hl => match us, hl with | [_, _], _ => rfl) a30 l30 c30 k30
  have FL := fun_mk (st := sLaw) l31 c31 k31
  have T_NoName : Ex.ErrC K mg "NoName" "value" C_NoName := { t := ⟨⟨nm_NoName, q_NoName, N_NoName, bs_NoName, _, sn_NoName, sub_NoName, ab_NoName, col_NoName, dd_NoName, m0_NoName, m1_NoName, m2_NoName, m3_NoName, m5_NoName, xL_NoName, by rfl⟩, sa_NoName, eC_NoName, tC_NoName, kC_NoName⟩, xf := ⟨ga_NoName, gg_NoName, eC_NoName, hC_NoName⟩, ic := ⟨ga_NoName, gg_NoName, eC_NoName, hC_NoName, hcl_NoName, hsp, htk, hmr_NoName⟩, no := nf_NoName, g := PySem.W.mg_of X G aC_NoName, te := exm_own eC_NoName cC_NoName tC_NoName sC_NoName }
  have FI_NoName := fun_mk (st := sInit_NoName) lI_NoName cI_NoName kI_NoName
  have bI_NoName := FI_NoName.binds (ps := ["self", "value"]) fun _ _ _ _ _ _ us hl => match us, hl with | [_, _], _ => rfl
  have T_NoWays : Ex.ErrC K mg "NoWays" "operation" C_NoWays := { t := ⟨⟨nm_NoWays, q_NoWays, N_NoWays, bs_NoWays, _, sn_NoWays, sub_NoWays, ab_NoWays, col_NoWays, dd_NoWays, m0_NoWays, m1_NoWays, m2_NoWays, m3_NoWays, m5_NoWays, xL_NoWays, by rfl⟩, sa_NoWays, eC_NoWays, tC_NoWays, kC_NoWays⟩, xf := ⟨ga_NoWays, gg_NoWays, eC_NoWays, hC_NoWays⟩, ic := ⟨ga_NoWays, gg_NoWays, eC_NoWays, hC_NoWays, hcl_NoWays, hsp, htk, hmr_NoWays⟩, no := nf_NoWays, g := PySem.W.mg_of X G aC_NoWays, te := exm_own eC_NoWays cC_NoWays tC_NoWays sC_NoWays }
  have FI_NoWays := fun_mk (st := sInit_NoWays) lI_NoWays cI_NoWays kI_NoWays
  have bI_NoWays := FI_NoWays.binds (ps := ["self", "operation"]) fun _ _ _ _ _ _ us hl => match us, hl with | [_, _], _ => rfl
  have T_NoFlag : Ex.ErrC K mg "NoFlag" "value" C_NoFlag := { t := ⟨⟨nm_NoFlag, q_NoFlag, N_NoFlag, bs_NoFlag, _, sn_NoFlag, sub_NoFlag, ab_NoFlag, col_NoFlag, dd_NoFlag, m0_NoFlag, m1_NoFlag, m2_NoFlag, m3_NoFlag, m5_NoFlag, xL_NoFlag, by rfl⟩, sa_NoFlag, eC_NoFlag, tC_NoFlag, kC_NoFlag⟩, xf := ⟨ga_NoFlag, gg_NoFlag, eC_NoFlag, hC_NoFlag⟩, ic := ⟨ga_NoFlag, gg_NoFlag, eC_NoFlag, hC_NoFlag, hcl_NoFlag, hsp, htk, hmr_NoFlag⟩, no := nf_NoFlag, g := PySem.W.mg_of X G aC_NoFlag, te := exm_own eC_NoFlag cC_NoFlag tC_NoFlag sC_NoFlag }
  have FI_NoFlag := fun_mk (st := sInit_NoFlag) lI_NoFlag cI_NoFlag kI_NoFlag
  have bI_NoFlag := FI_NoFlag.binds (ps := ["self", "value"]) fun _ _ _ _ _ _ us hl => match us, hl with | [_, _], _ => rfl
  have T_NoBook : Ex.ErrC K mg "NoBook" "value" C_NoBook := { t := ⟨⟨nm_NoBook, q_NoBook, N_NoBook, bs_NoBook, _, sn_NoBook, sub_NoBook, ab_NoBook, col_NoBook, dd_NoBook, m0_NoBook, m1_NoBook, m2_NoBook, m3_NoBook, m5_NoBook, xL_NoBook, by rfl⟩, sa_NoBook, eC_NoBook, tC_NoBook, kC_NoBook⟩, xf := ⟨ga_NoBook, gg_NoBook, eC_NoBook, hC_NoBook⟩, ic := ⟨ga_NoBook, gg_NoBook, eC_NoBook, hC_NoBook, hcl_NoBook, hsp, htk, hmr_NoBook⟩, no := nf_NoBook, g := PySem.W.mg_of X G aC_NoBook, te := exm_own eC_NoBook cC_NoBook tC_NoBook sC_NoBook }
  have FI_NoBook := fun_mk (st := sInit_NoBook) lI_NoBook cI_NoBook kI_NoBook
  have bI_NoBook := FI_NoBook.binds (ps := ["self", "value"]) fun _ _ _ _ _ _ us hl => match us, hl with | [_, _], _ => rfl
  have T_NoEntry : Ex.ErrC K mg "NoEntry" "method" C_NoEntry := { t := ⟨⟨nm_NoEntry, q_NoEntry, N_NoEntry, bs_NoEntry, _, sn_NoEntry, sub_NoEntry, ab_NoEntry, col_NoEntry, dd_NoEntry, m0_NoEntry, m1_NoEntry, m2_NoEntry, m3_NoEntry, m5_NoEntry, xL_NoEntry, by rfl⟩, sa_NoEntry, eC_NoEntry, tC_NoEntry, kC_NoEntry⟩, xf := ⟨ga_NoEntry, gg_NoEntry, eC_NoEntry, hC_NoEntry⟩, ic := ⟨ga_NoEntry, gg_NoEntry, eC_NoEntry, hC_NoEntry, hcl_NoEntry, hsp, htk, hmr_NoEntry⟩, no := nf_NoEntry, g := PySem.W.mg_of X G aC_NoEntry, te := exm_own eC_NoEntry cC_NoEntry tC_NoEntry sC_NoEntry }
  have FI_NoEntry := fun_mk (st := sInit_NoEntry) lI_NoEntry cI_NoEntry kI_NoEntry
  have bI_NoEntry := FI_NoEntry.binds (ps := ["self", "method"]) fun _ _ _ _ _ _ us hl => match us, hl with | [_, _], _ => rfl
  have S_METHODS := sqT_of l_METHODS z_METHODS v_METHODS
  have S_OPERATIONS := sqT_of l_OPERATIONS z_OPERATIONS v_OPERATIONS
  have S_FLAGS := sqT_of l_FLAGS z_FLAGS v_FLAGS
  have S_ENTRY_WORDS := sqT_of l_ENTRY_WORDS z_ENTRY_WORDS v_ENTRY_WORDS
  have S_OPERANDS := sqT_of l_OPERANDS z_OPERANDS v_OPERANDS
  have S_SPREAD_CLASSES := sqT_of l_SPREAD_CLASSES z_SPREAD_CLASSES v_SPREAD_CLASSES
  have cl_Body : L2.Cls K C_Body := ⟨pg_Body, hd_Body, po_Body, sa_Body⟩
  have F_Book_init := fun_mk (st := sBook___init__) l_Book_init c_Book_init k_Book_init
  have b_Book_init_ := F_Book_init.binds (ps := ["self"]) fun _ _ _ _ _ _ us hl => match us, hl with | [_], _ => rfl
  have F_Book_setitem := fun_mk (st := sBook___setitem__) l_Book_setitem c_Book_setitem k_Book_setitem
  have b_Book_setitem_ := F_Book_setitem.binds (ps := ["self", "operation", "ways"]) fun _ _ _ _ _ _ us hl => match us, hl with | [_, _, _], _ => rfl
  have F_Book_set_flag := fun_mk (st := sBook_set_flag) l_Book_set_flag c_Book_set_flag k_Book_set_flag
  have b_Book_set_flag_ := F_Book_set_flag.binds (ps := ["self", "word", "value"]) fun _ _ _ _ _ _ us hl => match us, hl with | [_, _, _], _ => rfl
  have F_Book_twin := fun_mk (st := sBook_twin) l_Book_twin c_Book_twin k_Book_twin
  have b_Book_twin_ := F_Book_twin.binds (ps := ["self"]) fun _ _ _ _ _ _ us hl => match us, hl with | [_], _ => rfl
  have F_Book_eq := fun_mk (st := sBook___eq__) l_Book_eq c_Book_eq k_Book_eq
  have b_Book_eq_ := F_Book_eq.binds (ps := ["self", "other"]) fun _ _ _ _ _ _ us hl => match us, hl with | [_, _], _ => rfl
  have cl_Book : L2.Cls K C_Book := ⟨pg_Book, hd_Book, po_Book, sa_Book⟩
  have F_Table_init := fun_mk (st := sTable___init__) l_Table_init c_Table_init k_Table_init
  have b_Table_init_ := F_Table_init.binds (ps := ["self", "book"]) fun _ _ _ _ _ _ us hl => match us, hl with | [_, _], _ => rfl
  have F_Table__check_class := fun_mk (st := sTable__check_class) l_Table__check_class c_Table__check_class k_Table__check_class
  have b_Table__check_class_ := F_Table__check_class.binds (ps := ["self", "name"]) fun _ _ _ _ _ _ us hl => match us, hl with | [_, _], _ => rfl
  have F_Table_add := fun_mk (st := sTable_add) l_Table_add c_Table_add k_Table_add
  have b_Table_add_ := StX.bind_star2 (B := fun us => bindArgs (PySem.W.fnOf "add" "Table.add" (defArgs sTable_add) (defBody sTable_add) (defScope sTable_add) .none kV_Table_add dc_Table_add pm_Table_add an_Table_add cd_Table_add ct_Table_add) ⟨us, []⟩) (p1 := "self") (p2 := "name") (pv := "bases") (fun _ _ => rfl) (fun _ _ _ _ => rfl)
  have F_Table_setitem := fun_mk (st := sTable___setitem__) l_Table_setitem c_Table_setitem k_Table_setitem
  have b_Table_setitem_ := F_Table_setitem.binds (ps := ["self", "at", "worth"]) fun _ _ _ _ _ _ us hl => match us, hl with | [_, _, _], _ => rfl
  have F_Table_entries := fun_mk (st := sTable_entries) l_Table_entries c_Table_entries k_Table_entries
  have b_Table_entries_ := F_Table_entries.binds (ps := ["self", "name"]) fun _ _ _ _ _ _ us hl => match us, hl with | [_, _], _ => rfl
  have F_Table_bases := fun_mk (st := sTable_bases) l_Table_bases c_Table_bases k_Table_bases
  have b_Table_bases_ := F_Table_bases.binds (ps := ["self", "name"]) fun _ _ _ _ _ _ us hl => match us, hl with | [_, _], _ => rfl
  have F_Table_book := fun_mk (st := sTable_book) l_Table_book c_Table_book k_Table_book
  have b_Table_book_ := F_Table_book.binds (ps := ["self"]) fun _ _ _ _ _ _ us hl => match us, hl with | [_], _ => rfl
  have F_Table_twin := fun_mk (st := sTable_twin) l_Table_twin c_Table_twin k_Table_twin
  have b_Table_twin_ := F_Table_twin.binds (ps := ["self"]) fun _ _ _ _ _ _ us hl => match us, hl with | [_], _ => rfl
  have F_Table_listed := fun_mk (st := sTable_listed) l_Table_listed c_Table_listed k_Table_listed
  have b_Table_listed_ := F_Table_listed.binds (ps := ["self"]) fun _ _ _ _ _ _ us hl => match us, hl with | [_], _ => rfl
  have F_Table_contains := fun_mk (st := sTable___contains__) l_Table_contains c_Table_contains k_Table_contains
  have b_Table_contains_ := F_Table_contains.binds (ps := ["self", "value"]) fun _ _ _ _ _ _ us hl => match us, hl with | [_, _], _ => rfl
  have F_Table_eq := fun_mk (st := sTable___eq__) l_Table_eq c_Table_eq k_Table_eq
  have b_Table_eq_ := F_Table_eq.binds (ps := ["self", "other"]) fun _ _ _ _ _ _ us hl => match us, hl with | [_, _], _ => rfl
  have cl_Table : L2.Cls K C_Table := ⟨pg_Table, hd_Table, po_Table, sa_Table⟩
  have F_Scene_init : FunDf K "__init__" "Scene.__init__" sScene___init__ f_Scene_init _ := ⟨_, _, _, _, _, _, _, _, _, _, rfl, l_Scene_init, c_Scene_init⟩
  obtain rfl : iT_Scene_init = #[.none, .none] := Array.ext' vT_Scene_init
  have b_Scene_init_ : Binds K (PySem.W.fnOf "__init__" "Scene.__init__" (defArgs sScene___init__) (defBody sScene___init__) (defScope sScene___init__) (.ref T_Scene_init) kV_Scene_init dc_Scene_init pm_Scene_init an_Scene_init cd_Scene_init ct_Scene_init) ["self", "table", "left", "right", "item"] [] := fun s us X hl => match us, hl with
    | [_, _, _, _, _], _ => BindsTo.of_looks fun M => by
      refine (?_ : PySem.W.Looks M s.heap (seqItems? (.ref T_Scene_init) >>= _) _)
      exact L2.looks_items X lT_Scene_init rfl (.of_pure rfl)
  have F_Scene_classes := fun_mk (st := sScene_classes) l_Scene_classes c_Scene_classes k_Scene_classes
  have b_Scene_classes_ := F_Scene_classes.binds (ps := ["self"]) fun _ _ _ _ _ _ us hl => match us, hl with | [_], _ => rfl
  have F_Scene_table := fun_mk (st := sScene_table) l_Scene_table c_Scene_table k_Scene_table
  have b_Scene_table_ := F_Scene_table.binds (ps := ["self"]) fun _ _ _ _ _ _ us hl => match us, hl with | [_], _ => rfl
  have cl_Scene : L2.Cls K C_Scene := ⟨pg_Scene, hd_Scene, po_Scene, sa_Scene⟩
  refine ⟨PySem.W.fnOf "law" "law" (defArgs sLaw) (defBody sLaw) (defScope sLaw) .none kV31 dc31 pm31 an31 cd31 ct31, fun s v => .of_eq rfl, fun base _ _ => ?_⟩
  have M_NoName : Ex.InitOk l.prog w K mg base "value" C_NoName := ⟨fI_NoName, _, iI_NoName, tI_NoName, ok_init_NoName T_NoName FI_NoName, bI_NoName⟩
  have M_NoWays : Ex.InitOk l.prog w K mg base "operation" C_NoWays := ⟨fI_NoWays, _, iI_NoWays, tI_NoWays, ok_init_NoWays T_NoWays FI_NoWays, bI_NoWays⟩
  have M_NoFlag : Ex.InitOk l.prog w K mg base "value" C_NoFlag := ⟨fI_NoFlag, _, iI_NoFlag, tI_NoFlag, ok_init_NoFlag T_NoFlag FI_NoFlag, bI_NoFlag⟩
  have M_NoBook : Ex.InitOk l.prog w K mg base "value" C_NoBook := ⟨fI_NoBook, _, iI_NoBook, tI_NoBook, ok_init_NoBook T_NoBook FI_NoBook, bI_NoBook⟩
  have M_NoEntry : Ex.InitOk l.prog w K mg base "method" C_NoEntry := ⟨fI_NoEntry, _, iI_NoEntry, tI_NoEntry, ok_init_NoEntry T_NoEntry FI_NoEntry, bI_NoEntry⟩

  let gM : Str → Addr := fun o => if o = "truth" then q_MENUS_truth else if o = "size" then q_MENUS_size else if o = "each" then q_MENUS_each else if o = "turned" then q_MENUS_turned else if o = "hash" then q_MENUS_hash else if o = "call" then q_MENUS_call else if o = "member" then q_MENUS_member else if o = "like" then q_MENUS_like else if o = "unlike" then q_MENUS_unlike else if o = "before" then q_MENUS_before else if o = "behind" then q_MENUS_behind else if o = "grow" then q_MENUS_grow else 0
  have tm : MenusAt K w p_MENUS gM := by
    intro o ho
    simp only [ops, List.mem_cons, List.not_mem_nil, or_false] at ho
    rcases ho with rfl | rfl | rfl | rfl | rfl | rfl | rfl | rfl | rfl | rfl | rfl | rfl
    · exact ⟨kdct_of l_MENUS y_MENUS g_MENUS_truth rfl, sqT_of l_MENUS_truth z_MENUS_truth v_MENUS_truth⟩
    · exact ⟨kdct_of l_MENUS y_MENUS g_MENUS_size rfl, sqT_of l_MENUS_size z_MENUS_size v_MENUS_size⟩
    · exact ⟨kdct_of l_MENUS y_MENUS g_MENUS_each rfl, sqT_of l_MENUS_each z_MENUS_each v_MENUS_each⟩
    · exact ⟨kdct_of l_MENUS y_MENUS g_MENUS_turned rfl, sqT_of l_MENUS_turned z_MENUS_turned v_MENUS_turned⟩
    · exact ⟨kdct_of l_MENUS y_MENUS g_MENUS_hash rfl, sqT_of l_MENUS_hash z_MENUS_hash v_MENUS_hash⟩
    · exact ⟨kdct_of l_MENUS y_MENUS g_MENUS_call rfl, sqT_of l_MENUS_call z_MENUS_call v_MENUS_call⟩
    · exact ⟨kdct_of l_MENUS y_MENUS g_MENUS_member rfl, sqT_of l_MENUS_member z_MENUS_member v_MENUS_member⟩
    · exact ⟨kdct_of l_MENUS y_MENUS g_MENUS_like rfl, sqT_of l_MENUS_like z_MENUS_like v_MENUS_like⟩
    · exact ⟨kdct_of l_MENUS y_MENUS g_MENUS_unlike rfl, sqT_of l_MENUS_unlike z_MENUS_unlike v_MENUS_unlike⟩
    · exact ⟨kdct_of l_MENUS y_MENUS g_MENUS_before rfl, sqT_of l_MENUS_before z_MENUS_before v_MENUS_before⟩
    · exact ⟨kdct_of l_MENUS y_MENUS g_MENUS_behind rfl, sqT_of l_MENUS_behind z_MENUS_behind v_MENUS_behind⟩
    · exact ⟨kdct_of l_MENUS y_MENUS g_MENUS_grow rfl, sqT_of l_MENUS_grow z_MENUS_grow v_MENUS_grow⟩
  have tb : Tb K w mg p_OPERATIONS p_MENUS p_FLAGS gM := ⟨PySem.W.mg_of X G a_OPERATIONS, PySem.W.mg_of X G a_MENUS, PySem.W.mg_of X G a_FLAGS, S_OPERATIONS, S_FLAGS, tm⟩
  have B : BF K mg C_Book := { cl := cl_Book, g := PySem.W.mg_of X G aK_Book, ne := ne_Book, ob := ob_Book, n1 := n_Book__ways, n2 := n_Book__flags }
  have BB : BdF K mg C_Body := { cl := cl_Body, g := PySem.W.mg_of X G aK_Body, ne := ne_Body, ob := ob_Body, n1 := n_Body_method, n2 := n_Body_expression, n3 := n_Body__nodes }
  have KT : TF K mg C_Table := { cl := cl_Table, g := PySem.W.mg_of X G aK_Table, ne := ne_Table, ob := ob_Table, n1 := n_Table__book, n2 := n_Table__names, n3 := n_Table__bases, n4 := n_Table__orders, n5 := n_Table__entries }
  have icK : BkIC K C_Book := ⟨hc_Book, hsp, htk⟩
  have icB : BIC K C_Body := ⟨hc_Body, hsp, htk⟩
  have fi : ∀ {f : Addr} {oc : Value} {od : Option Addr} {fd : FuncData} {sl : Array (Option Value)}, K.lookup f = some ⟨oc, od, .func fd, sl⟩ → PySem.W.fnIn K f = true := fun h => by
    unfold PySem.W.fnIn
    rw [h]
  have KS : SF K mg C_Scene := { cl := cl_Scene, g := PySem.W.mg_of X G aK_Scene, ne := ne_Scene, ob := ob_Scene, n1 := n_Scene__names, n2 := n_Scene__table, n3 := n_Scene__book }
  have icT : BkIC K C_Table := ⟨hc_Table, hsp, htk⟩
  have icS : BkIC K C_Scene := ⟨hc_Scene, hsp, htk⟩
  have R2 : Err2 K CA C_NoEntry C_NoBook := { aE := kit_err cC_A tC_A ka_NoEntry, aB := kit_err cC_A tC_A ka_NoBook, eB := kit_not cC_NoBook tC_NoBook no_NoEntry_NoBook sC_NoBook, bE := kit_not cC_NoEntry tC_NoEntry no_NoBook_NoEntry sC_NoEntry, bEx := exm_not eC_NoEntry cC_NoEntry tC_NoEntry no_NoBook_NoEntry }
  have N5 : BkNo K C_Book := { n := (kit_ty cC_Book tC_Book s_Book_NoneType).1, i := (kit_ty cC_Book tC_Book s_Book_int).1, s := (kit_ty cC_Book tC_Book s_Book_str).1, l := (kit_ty cC_Book tC_Book s_Book_list).1, b := (kit_ty cC_Book tC_Book s_Book_bool).1 }
  have E_num := ok_number (P := l.prog) (w := w) (base := base) T D_is_number
  have E_one := ok_one_of (P := l.prog) (w := w) (base := base) T D_is_one_of
  have E_oneL := ok_one_ofL (P := l.prog) (w := w) (base := base) T D_is_one_of
  have E_word := ok_word (P := l.prog) (w := w) (base := base) T (PySem.W.mg_of X G a_MOST_LETTERS) D_is_word
  have E_cm := ok_check_method T (PySem.W.mg_of X G a_METHODS) S_METHODS T_NoName M_NoName D_check_method E_one
  have E_cf := ok_check_flag T T_NoFlag M_NoFlag D_check_flag
  have E_co := ok_check_operation T tb.o tb.to T_NoName M_NoName D_check_operation E_one
  have E_aw := ok_are_ways T tb.m tm D_are_ways E_one
  have IBk : Ob.MkCal l.prog w K mg base CX0 C_Book 1 "Book" (spBkInit C_Book gM) := ⟨_, _, _, ok_binit T B tb ⟨F_Book_init, b_Book_init_⟩, ⟨mk_Book, a_Book_init, i_Book_init, kc_Book⟩, b_Book_init_, PySem.W.mg_of X G aK_Book⟩
  have UB : Ob.GetCal l.prog w K mg base (L2.CX l.prog w) C_Book 4 "__setitem__" (spBkSet K C_Book C_NoName C_NoWays) := ⟨_, _, _, ok_bkset T B T_NoWays M_NoWays E_co E_aw ⟨F_Book_setitem, b_Book_setitem_⟩, ⟨⟨a_Book_setitem, beq_iff_eq.mp i_Book_setitem⟩, dq_Book, fi l_Book_setitem⟩, b_Book_setitem_⟩
  have MF : Ob.MCal l.prog w K mg base (L2.CX l.prog w) C_Book 4 "set_flag" (spSetFlag K C_Book C_NoName C_NoFlag) := ⟨_, _, _, ok_set_flag B tb T_NoName M_NoName E_one E_cf ⟨F_Book_set_flag, b_Book_set_flag_⟩, ⟨a_Book_set_flag, i_Book_set_flag, k_Book_set_flag⟩, b_Book_set_flag_⟩
  have MTw : Ob.MCal l.prog w K mg base CX0 C_Book 3 "twin" (spBkTwin K C_Book) := ⟨_, _, _, ok_bktwin T B tb IBk ⟨F_Book_twin, b_Book_twin_⟩, ⟨a_Book_twin, i_Book_twin, k_Book_twin⟩, b_Book_twin_⟩
  have QBk : Ob.EqCal l.prog w K mg base CX0 C_Book 1 (spBkEq K C_Book) := ⟨_, _, _, ok_bkeq T B icK ⟨F_Book_eq, b_Book_eq_⟩, a_Book_eq, i_Book_eq, b_Book_eq_⟩
  have E_free := ok_free (P := l.prog) (w := w) (base := base) T D__free_head
  have E_wo := ok_without (P := l.prog) (w := w) (base := base) T D__without
  have E_mg := ok_merged T D_merged E_free E_wo
  have E_ord := ok_order T D_order_of E_mg 9
  have E_ie := ok_is_entry T (PySem.W.mg_of X G a_ENTRY_WORDS) S_ENTRY_WORDS BB icB (kit_ty cC_Body tC_Body s_Body_str).1 D_is_entry E_one
  have E_cbk := ok_check_book (P := l.prog) (w := w) (base := base) T B icK T_NoBook M_NoBook D_check_book
  have IT : Ob.MkCal l.prog w K mg base (L2.CX l.prog w) C_Table 4 "Table" (spTInit K C_Table C_Body C_Book C_NoBook) := ⟨_, _, _, ok_tinit T KT B E_cbk MTw ⟨F_Table_init, b_Table_init_⟩, ⟨mk_Table, a_Table_init, i_Table_init, kc_Table⟩, b_Table_init_, PySem.W.mg_of X G aK_Table⟩
  have MCC : Ob.MCal l.prog w K mg base CX0 C_Table 2 "_check_class" (spCC K C_Table C_Body C_Book) := ⟨_, _, _, ok_cc T KT E_oneL ⟨F_Table__check_class, b_Table__check_class_⟩, ⟨a_Table__check_class, i_Table__check_class, k_Table__check_class⟩, b_Table__check_class_⟩
  have MAd : Sm.MCalS l.prog w K mg base CX0 C_Table 13 "add" (Sm.spStar 2 (spAdd K C_Table C_Body C_Book)) := ⟨f_Table_add, ok_add T (PySem.W.mg_of X G a_MOST_CLASSES) KT E_word E_ord MCC F_Table_add b_Table_add_, ⟨a_Table_add, i_Table_add, k_Table_add⟩⟩
  have UT : Ob.GetCal l.prog w K mg base CX0 C_Table 4 "__setitem__" (spTSet K C_Table C_Body C_Book) := ⟨_, _, _, ok_tset T KT E_cm E_ie MCC ⟨F_Table_setitem, b_Table_setitem_⟩, ⟨⟨a_Table_setitem, beq_iff_eq.mp i_Table_setitem⟩, dq_Table, fi l_Table_setitem⟩, b_Table_setitem_⟩
  have MEn : Ob.MCal l.prog w K mg base CX0 C_Table 3 "entries" (spTEnts K C_Table C_Body C_Book) := ⟨_, _, _, ok_tents KT (PySem.W.mg_of X G a_METHODS) S_METHODS MCC ⟨F_Table_entries, b_Table_entries_⟩, ⟨a_Table_entries, i_Table_entries, k_Table_entries⟩, b_Table_entries_⟩
  have MBs : Ob.MCal l.prog w K mg base CX0 C_Table 3 "bases" (spTBases K C_Table C_Body C_Book) := ⟨_, _, _, ok_tbases KT MCC ⟨F_Table_bases, b_Table_bases_⟩, ⟨a_Table_bases, i_Table_bases, k_Table_bases⟩, b_Table_bases_⟩
  have MBk : Ob.MCal l.prog w K mg base CX0 C_Table 4 "book" (spTBook K C_Table C_Body C_Book) := ⟨_, _, _, ok_tbook KT B MTw ⟨F_Table_book, b_Table_book_⟩, ⟨a_Table_book, i_Table_book, k_Table_book⟩, b_Table_book_⟩
  have MLs : Ob.MCal l.prog w K mg base CX0 C_Table 1 "listed" (spTListed K C_Table C_Body C_Book) := ⟨_, _, _, ok_tlisted T KT ⟨F_Table_listed, b_Table_listed_⟩, ⟨a_Table_listed, i_Table_listed, k_Table_listed⟩, b_Table_listed_⟩
  have NT : Sm.InCal l.prog w K mg base CX0 C_Table 2 (spTHas K C_Table C_Body C_Book) := ⟨_, _, _, ok_thas KT E_oneL ⟨F_Table_contains, b_Table_contains_⟩, a_Table_contains, i_Table_contains, b_Table_contains_⟩
  have E_pool := ok_pool (P := l.prog) (w := w) (base := base) T D_L_pool
  have E_ltake := ok_take (P := l.prog) (w := w) (base := base) T D_L_take
  have E_lone := ok_one T D_L_one E_ltake
  have E_menus := ok_menus (P := l.prog) (w := w) (base := base) D_L_menus
  have E_meths := ok_methods (P := l.prog) (w := w) (base := base) D_L_methods
  have MTT : Ob.MCal l.prog w K mg base CX0 C_Table 6 "twin" (spTTwin K C_Table C_Body C_Book) := ⟨_, _, _, ok_ttwin T KT IT ⟨F_Table_twin, b_Table_twin_⟩, ⟨a_Table_twin, i_Table_twin, k_Table_twin⟩, b_Table_twin_⟩
  have QT : Ob.EqCal l.prog w K mg base CX0 C_Table 4 (spTEq K C_Table C_Body C_Book) := ⟨_, _, _, ok_teq T KT B icT icK QBk ⟨F_Table_eq, b_Table_eq_⟩, a_Table_eq, i_Table_eq, b_Table_eq_⟩
  have E_ct := ok_check_table (P := l.prog) (w := w) (base := base) (CB := C_Body) (CK := C_Book) T KT icT D_check_table
  have ISc : Ob.MkCal l.prog w K mg base CX0 C_Scene 7 "Scene" (spSInit K C_Scene C_Table C_Body C_Book) := ⟨_, _, _, ok_sinit T KS KT E_ct NT MTT MBk F_Scene_init, ⟨mk_Scene, a_Scene_init, i_Scene_init, kc_Scene⟩, b_Scene_init_, PySem.W.mg_of X G aK_Scene⟩
  have MSc : Ob.MCal l.prog w K mg base CX0 C_Scene 1 "classes" (spSClasses K C_Scene C_Table C_Body C_Book) := ⟨_, _, _, ok_sclasses KS ⟨F_Scene_classes, b_Scene_classes_⟩, ⟨a_Scene_classes, i_Scene_classes, k_Scene_classes⟩, b_Scene_classes_⟩
  have MSt : Ob.MCal l.prog w K mg base CX0 C_Scene 7 "table" (spSTable K C_Scene C_Table C_Body C_Book) := ⟨_, _, _, ok_stable KS KT MTT ⟨F_Scene_table, b_Scene_table_⟩, ⟨a_Scene_table, i_Scene_table, k_Scene_table⟩, b_Scene_table_⟩
  have E_op := ok_oper T (PySem.W.mg_of X G a_OPERANDS) S_OPERANDS D_is_operand E_num
  have E_isp := ok_isspread T (PySem.W.mg_of X G a_METHODS) S_METHODS (PySem.W.mg_of X G a_ENTRY_WORDS) S_ENTRY_WORDS D__is_spread E_op E_one
  have E_pl := ok_place (P := l.prog) (w := w) (base := base) T ⟨_, l_METHODS, rfl, dn_METHODS⟩ (PySem.W.mg_of X G a_METHODS) S_METHODS D__place_of
  have E_chk := ok_chk T T_NoEntry M_NoEntry D__check_spread E_isp E_pl
  have E_spr := ok_spread T (PySem.W.mg_of X G a_SPREAD_CLASSES) S_SPREAD_CLASSES KT E_chk IT MAd UT ISc D_spread
  have E_laid := ok_laid T KT IT MAd UT ISc D_L_laid
  have E_ref := ok_refused T R2 T_NoEntry T_NoBook (PySem.W.mg_of X G aA) (PySem.W.mg_of X G aC_NoEntry) (PySem.W.mg_of X G aC_NoBook) E_spr D_L_refused
  have E_wrong := ok_wrong T N5 E_ltake E_ref D_L_wrong
  have E_right := ok_right T KS KT B icS icT icK MTw E_spr MSc MSt E_laid QT QBk MBk MBs MEn MLs D_L_right
  have E_entries := ok_entries T D_L_entries E_meths E_ltake E_lone
  have E_book := ok_lbook5 T B tb IBk UB MF E_menus E_ltake D_L_book
  exact ok_law T E_pool E_entries E_book E_right E_wrong FL
end Ab
set_option Elab.async false
set_option linter.all false
set_option maxRecDepth 100000
set_option maxHeartbeats 8000000
open PySem PySem.W PyProof.Rows
open Lean in
local macro_rules
  | `(tactic| first | $t:tacticSeq | fail $s:str) => do
    if s.getString.startsWith "open_kl: no head takes this row (the" then
      let q := mkIdent `hq7
      `(tactic| (($t:tacticSeq); refine id ?$q))
    else Macro.throwUnsupported
set_option maxRecDepth 100000 in
set_option maxHeartbeats 0 in
theorem PySem.Challenge.cw_answersby_k85_entries_spread_holds : PySem.Challenge.rw_answersby_k85_entries_spread.Holds := by
  w_on; o_law; k_headL; (case hw => w_witness2)
  case hq7 =>
    refine HeadRun.left_oneK (M := 14600) (by kernel_rfl) (by rfl) (fun s => by kernel_rfl) (by rfl) ?q7
    refine byRow2 "special-get-raises" ?q8 ?q9; (case q8 => exact Head7.ra); (case q9 => exact Head7.rb)
  k_fill
  refine Gk.walkG (l := PySem.Challenge.rw_answersby_k85_entries_spread) (n := 63) (k := 19) (x := "_law_script") (sp := fun w => Ab.spLaw _) rfl (by decide) rfl ⟨rfl, by decide, by decide⟩ (fun w h Y => PySem.W.kIn_of Y) ?F (fun w H a ns hl _ hS => ⟨a, ns, rfl, hS, hl, fun _ => rfl⟩)
  case F =>
    intro w mg fa h KX G hmg
    refine' Ab.all_mk KX G hmg ?a1 ?l1 ?c1 ?k1 ?a2 ?l2 ?c2 ?k2 ?a3 ?l3 ?c3 ?k3 ?a4 ?l4 ?c4 ?k4 ?a5 ?l5 ?c5 ?k5 ?a6 ?l6 ?c6 ?k6 ?a7 ?l7 ?c7 ?k7 ?a8 ?l8 ?c8 ?k8 ?a9 ?l9 ?c9 ?k9 ?a10 ?l10 ?c10 ?k10 ?a11 ?l11 ?c11 ?k11 ?a12 ?l12 ?c12 ?k12 ?a13 ?l13 ?c13 ?k13 ?a14 ?l14 ?c14 ?k14 ?a15 ?l15 ?c15 ?k15 ?a16 ?l16 ?c16 ?k16 ?a17 ?l17 ?c17 ?k17 ?a18 ?l18 ?c18 ?k18 ?a19 ?l19 ?c19 ?k19 ?a20 ?l20 ?c20 ?k20 ?a21 ?l21 ?c21 ?k21 ?a22 ?l22 ?c22 ?k22 ?a23 ?l23 ?c23 ?k23 ?a24 ?l24 ?c24 ?k24 ?a25 ?l25 ?c25 ?k25 ?a26 ?l26 ?c26 ?k26 ?a27 ?l27 ?c27 ?k27 ?a28 ?l28 ?c28 ?k28 ?a29 ?l29 ?c29 ?k29 ?a30 ?l30 ?c30 ?k30 ?a31 ?l31 ?c31 ?k31 ?z_int ?z_len ?z_max ?z_min ?z_isinstance ?z_range ?z_list ?z_dict ?z_tuple ?z_set ?z_str ?z_bool ?z_repr ?z_all ?z_any ?z_sum ?z_zip ?z_enumerate ?aA ?hsp ?htk ?aC_NoName ?xL_NoName ?sa_NoName ?eC_NoName ?tC_NoName ?kC_NoName ?ga_NoName ?gg_NoName ?hC_NoName ?hcl_NoName ?hmr_NoName ?nf_NoName ?cC_NoName ?sC_NoName ?iI_NoName ?tI_NoName ?lI_NoName ?cI_NoName ?kI_NoName ?aC_NoWays ?xL_NoWays ?sa_NoWays ?eC_NoWays ?tC_NoWays ?kC_NoWays ?ga_NoWays ?gg_NoWays ?hC_NoWays ?hcl_NoWays ?hmr_NoWays ?nf_NoWays ?cC_NoWays ?sC_NoWays ?iI_NoWays ?tI_NoWays ?lI_NoWays ?cI_NoWays ?kI_NoWays ?aC_NoFlag ?xL_NoFlag ?sa_NoFlag ?eC_NoFlag ?tC_NoFlag ?kC_NoFlag ?ga_NoFlag ?gg_NoFlag ?hC_NoFlag ?hcl_NoFlag ?hmr_NoFlag ?nf_NoFlag ?cC_NoFlag ?sC_NoFlag ?iI_NoFlag ?tI_NoFlag ?lI_NoFlag ?cI_NoFlag ?kI_NoFlag ?aC_NoBook ?xL_NoBook ?sa_NoBook ?eC_NoBook ?tC_NoBook ?kC_NoBook ?ga_NoBook ?gg_NoBook ?hC_NoBook ?hcl_NoBook ?hmr_NoBook ?nf_NoBook ?cC_NoBook ?sC_NoBook ?iI_NoBook ?tI_NoBook ?lI_NoBook ?cI_NoBook ?kI_NoBook ?aC_NoEntry ?xL_NoEntry ?sa_NoEntry ?eC_NoEntry ?tC_NoEntry ?kC_NoEntry ?ga_NoEntry ?gg_NoEntry ?hC_NoEntry ?hcl_NoEntry ?hmr_NoEntry ?nf_NoEntry ?cC_NoEntry ?sC_NoEntry ?iI_NoEntry ?tI_NoEntry ?lI_NoEntry ?cI_NoEntry ?kI_NoEntry ?cC_A ?tC_A ?ka_NoName ?kv_NoName ?ka_NoWays ?kv_NoWays ?ka_NoFlag ?kv_NoFlag ?ka_NoBook ?kv_NoBook ?ka_NoEntry ?kv_NoEntry ?no_NoEntry_NoBook ?no_NoBook_NoEntry ?aK_Body ?pg_Body ?hd_Body ?po_Body ?sa_Body ?mk_Body ?kc_Body ?ne_Body ?ob_Body ?hc_Body ?dq_Body ?cC_Body ?tC_Body ?n_Body_method ?n_Body_expression ?n_Body__nodes ?s_Body_str ?aK_Book ?pg_Book ?hd_Book ?po_Book ?sa_Book ?mk_Book ?kc_Book ?ne_Book ?ob_Book ?hc_Book ?dq_Book ?cC_Book ?tC_Book ?n_Book__ways ?n_Book__flags ?s_Book_NoneType ?s_Book_int ?s_Book_str ?s_Book_list ?s_Book_bool ?a_Book_init ?i_Book_init ?l_Book_init ?c_Book_init ?k_Book_init ?a_Book_setitem ?i_Book_setitem ?l_Book_setitem ?c_Book_setitem ?k_Book_setitem ?a_Book_set_flag ?i_Book_set_flag ?l_Book_set_flag ?c_Book_set_flag ?k_Book_set_flag ?a_Book_twin ?i_Book_twin ?l_Book_twin ?c_Book_twin ?k_Book_twin ?a_Book_eq ?i_Book_eq ?l_Book_eq ?c_Book_eq ?k_Book_eq ?aK_Table ?pg_Table ?hd_Table ?po_Table ?sa_Table ?mk_Table ?kc_Table ?ne_Table ?ob_Table ?hc_Table ?dq_Table ?cC_Table ?tC_Table ?n_Table__book ?n_Table__names ?n_Table__bases ?n_Table__orders ?n_Table__entries ?a_Table_init ?i_Table_init ?l_Table_init ?c_Table_init ?k_Table_init ?a_Table__check_class ?i_Table__check_class ?l_Table__check_class ?c_Table__check_class ?k_Table__check_class ?a_Table_add ?i_Table_add ?l_Table_add ?c_Table_add ?k_Table_add ?a_Table_setitem ?i_Table_setitem ?l_Table_setitem ?c_Table_setitem ?k_Table_setitem ?a_Table_entries ?i_Table_entries ?l_Table_entries ?c_Table_entries ?k_Table_entries ?a_Table_bases ?i_Table_bases ?l_Table_bases ?c_Table_bases ?k_Table_bases ?a_Table_book ?i_Table_book ?l_Table_book ?c_Table_book ?k_Table_book ?a_Table_twin ?i_Table_twin ?l_Table_twin ?c_Table_twin ?k_Table_twin ?a_Table_listed ?i_Table_listed ?l_Table_listed ?c_Table_listed ?k_Table_listed ?a_Table_contains ?i_Table_contains ?l_Table_contains ?c_Table_contains ?k_Table_contains ?a_Table_eq ?i_Table_eq ?l_Table_eq ?c_Table_eq ?k_Table_eq ?aK_Scene ?pg_Scene ?hd_Scene ?po_Scene ?sa_Scene ?mk_Scene ?kc_Scene ?ne_Scene ?ob_Scene ?hc_Scene ?dq_Scene ?cC_Scene ?tC_Scene ?n_Scene__names ?n_Scene__table ?n_Scene__book ?a_Scene_init ?i_Scene_init ?l_Scene_init ?lT_Scene_init ?vT_Scene_init ?c_Scene_init ?k_Scene_init ?a_Scene_classes ?i_Scene_classes ?l_Scene_classes ?c_Scene_classes ?k_Scene_classes ?a_Scene_table ?i_Scene_table ?l_Scene_table ?c_Scene_table ?k_Scene_table ?a_METHODS ?l_METHODS ?z_METHODS ?v_METHODS ?dn_METHODS ?a_OPERATIONS ?l_OPERATIONS ?z_OPERATIONS ?v_OPERATIONS ?a_FLAGS ?l_FLAGS ?z_FLAGS ?v_FLAGS ?a_ENTRY_WORDS ?l_ENTRY_WORDS ?z_ENTRY_WORDS ?v_ENTRY_WORDS ?a_OPERANDS ?l_OPERANDS ?z_OPERANDS ?v_OPERANDS ?a_SPREAD_CLASSES ?l_SPREAD_CLASSES ?z_SPREAD_CLASSES ?v_SPREAD_CLASSES ?a_MENUS ?l_MENUS ?y_MENUS ?g_MENUS_truth ?l_MENUS_truth ?z_MENUS_truth ?v_MENUS_truth ?g_MENUS_size ?l_MENUS_size ?z_MENUS_size ?v_MENUS_size ?g_MENUS_each ?l_MENUS_each ?z_MENUS_each ?v_MENUS_each ?g_MENUS_turned ?l_MENUS_turned ?z_MENUS_turned ?v_MENUS_turned ?g_MENUS_hash ?l_MENUS_hash ?z_MENUS_hash ?v_MENUS_hash ?g_MENUS_call ?l_MENUS_call ?z_MENUS_call ?v_MENUS_call ?g_MENUS_member ?l_MENUS_member ?z_MENUS_member ?v_MENUS_member ?g_MENUS_like ?l_MENUS_like ?z_MENUS_like ?v_MENUS_like ?g_MENUS_unlike ?l_MENUS_unlike ?z_MENUS_unlike ?v_MENUS_unlike ?g_MENUS_before ?l_MENUS_before ?z_MENUS_before ?v_MENUS_before ?g_MENUS_behind ?l_MENUS_behind ?z_MENUS_behind ?v_MENUS_behind ?g_MENUS_grow ?l_MENUS_grow ?z_MENUS_grow ?v_MENUS_grow ?a_MOST_LETTERS ?a_MOST_CLASSES
    (case a1 => k_is)
    (case l1 => k_is)
    (case c1 => k_is)
    (case k1 => k_is)
    (case a2 => k_is)
    (case l2 => k_is)
    (case c2 => k_is)
    (case k2 => k_is)
    (case a3 => k_is)
    (case l3 => k_is)
    (case c3 => k_is)
    (case k3 => k_is)
    (case a4 => k_is)
    (case l4 => k_is)
    (case c4 => k_is)
    (case k4 => k_is)
    (case a5 => k_is)
    (case l5 => k_is)
    (case c5 => k_is)
    (case k5 => k_is)
    (case a6 => k_is)
    (case l6 => k_is)
    (case c6 => k_is)
    (case k6 => k_is)
    (case a7 => k_is)
    (case l7 => k_is)
    (case c7 => k_is)
    (case k7 => k_is)
    (case a8 => k_is)
    (case l8 => k_is)
    (case c8 => k_is)
    (case k8 => k_is)
    (case a9 => k_is)
    (case l9 => k_is)
    (case c9 => k_is)
    (case k9 => k_is)
    (case a10 => k_is)
    (case l10 => k_is)
    (case c10 => k_is)
    (case k10 => k_is)
    (case a11 => k_is)
    (case l11 => k_is)
    (case c11 => k_is)
    (case k11 => k_is)
    (case a12 => k_is)
    (case l12 => k_is)
    (case c12 => k_is)
    (case k12 => k_is)
    (case a13 => k_is)
    (case l13 => k_is)
    (case c13 => k_is)
    (case k13 => k_is)
    (case a14 => k_is)
    (case l14 => k_is)
    (case c14 => k_is)
    (case k14 => k_is)
    (case a15 => k_is)
    (case l15 => k_is)
    (case c15 => k_is)
    (case k15 => k_is)
    (case a16 => k_is)
    (case l16 => k_is)
    (case c16 => k_is)
    (case k16 => k_is)
    (case a17 => k_is)
    (case l17 => k_is)
    (case c17 => k_is)
    (case k17 => k_is)
    (case a18 => k_is)
    (case l18 => k_is)
    (case c18 => k_is)
    (case k18 => k_is)
    (case a19 => k_is)
    (case l19 => k_is)
    (case c19 => k_is)
    (case k19 => k_is)
    (case a20 => k_is)
    (case l20 => k_is)
    (case c20 => k_is)
    (case k20 => k_is)
    (case a21 => k_is)
    (case l21 => k_is)
    (case c21 => k_is)
    (case k21 => k_is)
    (case a22 => k_is)
    (case l22 => k_is)
    (case c22 => k_is)
    (case k22 => k_is)
    (case a23 => k_is)
    (case l23 => k_is)
    (case c23 => k_is)
    (case k23 => k_is)
    (case a24 => k_is)
    (case l24 => k_is)
    (case c24 => k_is)
    (case k24 => k_is)
    (case a25 => k_is)
    (case l25 => k_is)
    (case c25 => k_is)
    (case k25 => k_is)
    (case a26 => k_is)
    (case l26 => k_is)
    (case c26 => k_is)
    (case k26 => k_is)
    (case a27 => k_is)
    (case l27 => k_is)
    (case c27 => k_is)
    (case k27 => k_is)
    (case a28 => k_is)
    (case l28 => k_is)
    (case c28 => k_is)
    (case k28 => k_is)
    (case a29 => k_is)
    (case l29 => k_is)
    (case c29 => k_is)
    (case k29 => k_is)
    (case a30 => k_is)
    (case l30 => k_is)
    (case c30 => k_is)
    (case k30 => k_is)
    (case a31 => k_is)
    (case l31 => k_is)
    (case c31 => k_is)
    (case k31 => k_is)
    (case z_int => k_is)
    (case z_len => k_is)
    (case z_max => k_is)
    (case z_min => k_is)
    (case z_isinstance => k_is)
    (case z_range => k_is)
    (case z_list => k_is)
    (case z_dict => k_is)
    (case z_tuple => k_is)
    (case z_set => k_is)
    (case z_str => k_is)
    (case z_bool => k_is)
    (case z_repr => k_is)
    (case z_all => k_is)
    (case z_any => k_is)
    (case z_sum => k_is)
    (case z_zip => k_is)
    (case z_enumerate => k_is)
    (case aA => k_is)
    (case hsp => k_is)
    (case htk => k_is)
    (case aC_NoName => k_is)
    (case xL_NoName => k_is)
    (case sa_NoName => k_is)
    (case eC_NoName => k_is)
    (case tC_NoName => k_is)
    (case kC_NoName => k_is)
    (case ga_NoName => k_is)
    (case gg_NoName => k_is)
    (case hC_NoName => k_is)
    (case hcl_NoName => k_is)
    (case hmr_NoName => k_is)
    (case nf_NoName => k_is)
    (case cC_NoName => k_is)
    (case sC_NoName => k_is)
    (case iI_NoName => k_is)
    (case tI_NoName => k_is)
    (case lI_NoName => k_is)
    (case cI_NoName => k_is)
    (case kI_NoName => k_is)
    (case aC_NoWays => k_is)
    (case xL_NoWays => k_is)
    (case sa_NoWays => k_is)
    (case eC_NoWays => k_is)
    (case tC_NoWays => k_is)
    (case kC_NoWays => k_is)
    (case ga_NoWays => k_is)
    (case gg_NoWays => k_is)
    (case hC_NoWays => k_is)
    (case hcl_NoWays => k_is)
    (case hmr_NoWays => k_is)
    (case nf_NoWays => k_is)
    (case cC_NoWays => k_is)
    (case sC_NoWays => k_is)
    (case iI_NoWays => k_is)
    (case tI_NoWays => k_is)
    (case lI_NoWays => k_is)
    (case cI_NoWays => k_is)
    (case kI_NoWays => k_is)
    (case aC_NoFlag => k_is)
    (case xL_NoFlag => k_is)
    (case sa_NoFlag => k_is)
    (case eC_NoFlag => k_is)
    (case tC_NoFlag => k_is)
    (case kC_NoFlag => k_is)
    (case ga_NoFlag => k_is)
    (case gg_NoFlag => k_is)
    (case hC_NoFlag => k_is)
    (case hcl_NoFlag => k_is)
    (case hmr_NoFlag => k_is)
    (case nf_NoFlag => k_is)
    (case cC_NoFlag => k_is)
    (case sC_NoFlag => k_is)
    (case iI_NoFlag => k_is)
    (case tI_NoFlag => k_is)
    (case lI_NoFlag => k_is)
    (case cI_NoFlag => k_is)
    (case kI_NoFlag => k_is)
    (case aC_NoBook => k_is)
    (case xL_NoBook => k_is)
    (case sa_NoBook => k_is)
    (case eC_NoBook => k_is)
    (case tC_NoBook => k_is)
    (case kC_NoBook => k_is)
    (case ga_NoBook => k_is)
    (case gg_NoBook => k_is)
    (case hC_NoBook => k_is)
    (case hcl_NoBook => k_is)
    (case hmr_NoBook => k_is)
    (case nf_NoBook => k_is)
    (case cC_NoBook => k_is)
    (case sC_NoBook => k_is)
    (case iI_NoBook => k_is)
    (case tI_NoBook => k_is)
    (case lI_NoBook => k_is)
    (case cI_NoBook => k_is)
    (case kI_NoBook => k_is)
    (case aC_NoEntry => k_is)
    (case xL_NoEntry => k_is)
    (case sa_NoEntry => k_is)
    (case eC_NoEntry => k_is)
    (case tC_NoEntry => k_is)
    (case kC_NoEntry => k_is)
    (case ga_NoEntry => k_is)
    (case gg_NoEntry => k_is)
    (case hC_NoEntry => k_is)
    (case hcl_NoEntry => k_is)
    (case hmr_NoEntry => k_is)
    (case nf_NoEntry => k_is)
    (case cC_NoEntry => k_is)
    (case sC_NoEntry => k_is)
    (case iI_NoEntry => k_is)
    (case tI_NoEntry => k_is)
    (case lI_NoEntry => k_is)
    (case cI_NoEntry => k_is)
    (case kI_NoEntry => k_is)
    (case cC_A => k_is)
    (case tC_A => k_is)
    (case ka_NoName => k_is)
    (case kv_NoName => k_is)
    (case ka_NoWays => k_is)
    (case kv_NoWays => k_is)
    (case ka_NoFlag => k_is)
    (case kv_NoFlag => k_is)
    (case ka_NoBook => k_is)
    (case kv_NoBook => k_is)
    (case ka_NoEntry => k_is)
    (case kv_NoEntry => k_is)
    (case no_NoEntry_NoBook => k_is)
    (case no_NoBook_NoEntry => k_is)
    (case aK_Body => k_is)
    (case pg_Body => k_is)
    (case hd_Body => k_is)
    (case po_Body => k_is)
    (case sa_Body => k_is)
    (case mk_Body => k_is)
    (case kc_Body => k_is)
    (case ne_Body => k_is)
    (case ob_Body => k_is)
    (case hc_Body => k_is)
    (case dq_Body => k_is)
    (case cC_Body => k_is)
    (case tC_Body => k_is)
    (case n_Body_method => k_is)
    (case n_Body_expression => k_is)
    (case n_Body__nodes => k_is)
    (case s_Body_str => k_is)
    (case aK_Book => k_is)
    (case pg_Book => k_is)
    (case hd_Book => k_is)
    (case po_Book => k_is)
    (case sa_Book => k_is)
    (case mk_Book => k_is)
    (case kc_Book => k_is)
    (case ne_Book => k_is)
    (case ob_Book => k_is)
    (case hc_Book => k_is)
    (case dq_Book => k_is)
    (case cC_Book => k_is)
    (case tC_Book => k_is)
    (case n_Book__ways => k_is)
    (case n_Book__flags => k_is)
    (case s_Book_NoneType => k_is)
    (case s_Book_int => k_is)
    (case s_Book_str => k_is)
    (case s_Book_list => k_is)
    (case s_Book_bool => k_is)
    (case a_Book_init => k_is)
    (case i_Book_init => k_is)
    (case l_Book_init => k_is)
    (case c_Book_init => k_is)
    (case k_Book_init => k_is)
    (case a_Book_setitem => k_is)
    (case i_Book_setitem => k_is)
    (case l_Book_setitem => k_is)
    (case c_Book_setitem => k_is)
    (case k_Book_setitem => k_is)
    (case a_Book_set_flag => k_is)
    (case i_Book_set_flag => k_is)
    (case l_Book_set_flag => k_is)
    (case c_Book_set_flag => k_is)
    (case k_Book_set_flag => k_is)
    (case a_Book_twin => k_is)
    (case i_Book_twin => k_is)
    (case l_Book_twin => k_is)
    (case c_Book_twin => k_is)
    (case k_Book_twin => k_is)
    (case a_Book_eq => k_is)
    (case i_Book_eq => k_is)
    (case l_Book_eq => k_is)
    (case c_Book_eq => k_is)
    (case k_Book_eq => k_is)
    (case aK_Table => k_is)
    (case pg_Table => k_is)
    (case hd_Table => k_is)
    (case po_Table => k_is)
    (case sa_Table => k_is)
    (case mk_Table => k_is)
    (case kc_Table => k_is)
    (case ne_Table => k_is)
    (case ob_Table => k_is)
    (case hc_Table => k_is)
    (case dq_Table => k_is)
    (case cC_Table => k_is)
    (case tC_Table => k_is)
    (case n_Table__book => k_is)
    (case n_Table__names => k_is)
    (case n_Table__bases => k_is)
    (case n_Table__orders => k_is)
    (case n_Table__entries => k_is)
    (case a_Table_init => k_is)
    (case i_Table_init => k_is)
    (case l_Table_init => k_is)
    (case c_Table_init => k_is)
    (case k_Table_init => k_is)
    (case a_Table__check_class => k_is)
    (case i_Table__check_class => k_is)
    (case l_Table__check_class => k_is)
    (case c_Table__check_class => k_is)
    (case k_Table__check_class => k_is)
    (case a_Table_add => k_is)
    (case i_Table_add => k_is)
    (case l_Table_add => k_is)
    (case c_Table_add => k_is)
    (case k_Table_add => k_is)
    (case a_Table_setitem => k_is)
    (case i_Table_setitem => k_is)
    (case l_Table_setitem => k_is)
    (case c_Table_setitem => k_is)
    (case k_Table_setitem => k_is)
    (case a_Table_entries => k_is)
    (case i_Table_entries => k_is)
    (case l_Table_entries => k_is)
    (case c_Table_entries => k_is)
    (case k_Table_entries => k_is)
    (case a_Table_bases => k_is)
    (case i_Table_bases => k_is)
    (case l_Table_bases => k_is)
    (case c_Table_bases => k_is)
    (case k_Table_bases => k_is)
    (case a_Table_book => k_is)
    (case i_Table_book => k_is)
    (case l_Table_book => k_is)
    (case c_Table_book => k_is)
    (case k_Table_book => k_is)
    (case a_Table_twin => k_is)
    (case i_Table_twin => k_is)
    (case l_Table_twin => k_is)
    (case c_Table_twin => k_is)
    (case k_Table_twin => k_is)
    (case a_Table_listed => k_is)
    (case i_Table_listed => k_is)
    (case l_Table_listed => k_is)
    (case c_Table_listed => k_is)
    (case k_Table_listed => k_is)
    (case a_Table_contains => k_is)
    (case i_Table_contains => k_is)
    (case l_Table_contains => k_is)
    (case c_Table_contains => k_is)
    (case k_Table_contains => k_is)
    (case a_Table_eq => k_is)
    (case i_Table_eq => k_is)
    (case l_Table_eq => k_is)
    (case c_Table_eq => k_is)
    (case k_Table_eq => k_is)
    (case aK_Scene => k_is)
    (case pg_Scene => k_is)
    (case hd_Scene => k_is)
    (case po_Scene => k_is)
    (case sa_Scene => k_is)
    (case mk_Scene => k_is)
    (case kc_Scene => k_is)
    (case ne_Scene => k_is)
    (case ob_Scene => k_is)
    (case hc_Scene => k_is)
    (case dq_Scene => k_is)
    (case cC_Scene => k_is)
    (case tC_Scene => k_is)
    (case n_Scene__names => k_is)
    (case n_Scene__table => k_is)
    (case n_Scene__book => k_is)
    (case a_Scene_init => k_is)
    (case i_Scene_init => k_is)
    (case l_Scene_init => k_is)
    (case lT_Scene_init => k_is)
    (case vT_Scene_init => rfl)
    (case c_Scene_init => k_is)
    (case k_Scene_init => k_is)
    (case a_Scene_classes => k_is)
    (case i_Scene_classes => k_is)
    (case l_Scene_classes => k_is)
    (case c_Scene_classes => k_is)
    (case k_Scene_classes => k_is)
    (case a_Scene_table => k_is)
    (case i_Scene_table => k_is)
    (case l_Scene_table => k_is)
    (case c_Scene_table => k_is)
    (case k_Scene_table => k_is)
    (case a_METHODS => k_is)
    (case l_METHODS => k_is)
    (case z_METHODS => decide +kernel)
    (case v_METHODS => repeat (first | exact .nil | refine .cons ⟨_, rfl⟩ ?_))
    (case dn_METHODS => rfl)
    (case a_OPERATIONS => k_is)
    (case l_OPERATIONS => k_is)
    (case z_OPERATIONS => decide +kernel)
    (case v_OPERATIONS => repeat (first | exact .nil | refine .cons ⟨_, rfl⟩ ?_))
    (case a_FLAGS => k_is)
    (case l_FLAGS => k_is)
    (case z_FLAGS => decide +kernel)
    (case v_FLAGS => repeat (first | exact .nil | refine .cons ⟨_, rfl⟩ ?_))
    (case a_ENTRY_WORDS => k_is)
    (case l_ENTRY_WORDS => k_is)
    (case z_ENTRY_WORDS => decide +kernel)
    (case v_ENTRY_WORDS => repeat (first | exact .nil | refine .cons ⟨_, rfl⟩ ?_))
    (case a_OPERANDS => k_is)
    (case l_OPERANDS => k_is)
    (case z_OPERANDS => decide +kernel)
    (case v_OPERANDS => repeat (first | exact .nil | refine .cons ⟨_, rfl⟩ ?_))
    (case a_SPREAD_CLASSES => k_is)
    (case l_SPREAD_CLASSES => k_is)
    (case z_SPREAD_CLASSES => decide +kernel)
    (case v_SPREAD_CLASSES => repeat (first | exact .nil | refine .cons ⟨_, rfl⟩ ?_))
    (case a_MENUS => k_is)
    (case l_MENUS => k_is)
    (case y_MENUS => repeat (first | exact Ab.kl_nil | refine Ab.kl_cons ?_))
    (case g_MENUS_truth => k_is)
    (case l_MENUS_truth => k_is)
    (case z_MENUS_truth => decide +kernel)
    (case v_MENUS_truth => repeat (first | exact .nil | refine .cons ⟨_, rfl⟩ ?_))
    (case g_MENUS_size => k_is)
    (case l_MENUS_size => k_is)
    (case z_MENUS_size => decide +kernel)
    (case v_MENUS_size => repeat (first | exact .nil | refine .cons ⟨_, rfl⟩ ?_))
    (case g_MENUS_each => k_is)
    (case l_MENUS_each => k_is)
    (case z_MENUS_each => decide +kernel)
    (case v_MENUS_each => repeat (first | exact .nil | refine .cons ⟨_, rfl⟩ ?_))
    (case g_MENUS_turned => k_is)
    (case l_MENUS_turned => k_is)
    (case z_MENUS_turned => decide +kernel)
    (case v_MENUS_turned => repeat (first | exact .nil | refine .cons ⟨_, rfl⟩ ?_))
    (case g_MENUS_hash => k_is)
    (case l_MENUS_hash => k_is)
    (case z_MENUS_hash => decide +kernel)
    (case v_MENUS_hash => repeat (first | exact .nil | refine .cons ⟨_, rfl⟩ ?_))
    (case g_MENUS_call => k_is)
    (case l_MENUS_call => k_is)
    (case z_MENUS_call => decide +kernel)
    (case v_MENUS_call => repeat (first | exact .nil | refine .cons ⟨_, rfl⟩ ?_))
    (case g_MENUS_member => k_is)
    (case l_MENUS_member => k_is)
    (case z_MENUS_member => decide +kernel)
    (case v_MENUS_member => repeat (first | exact .nil | refine .cons ⟨_, rfl⟩ ?_))
    (case g_MENUS_like => k_is)
    (case l_MENUS_like => k_is)
    (case z_MENUS_like => decide +kernel)
    (case v_MENUS_like => repeat (first | exact .nil | refine .cons ⟨_, rfl⟩ ?_))
    (case g_MENUS_unlike => k_is)
    (case l_MENUS_unlike => k_is)
    (case z_MENUS_unlike => decide +kernel)
    (case v_MENUS_unlike => repeat (first | exact .nil | refine .cons ⟨_, rfl⟩ ?_))
    (case g_MENUS_before => k_is)
    (case l_MENUS_before => k_is)
    (case z_MENUS_before => decide +kernel)
    (case v_MENUS_before => repeat (first | exact .nil | refine .cons ⟨_, rfl⟩ ?_))
    (case g_MENUS_behind => k_is)
    (case l_MENUS_behind => k_is)
    (case z_MENUS_behind => decide +kernel)
    (case v_MENUS_behind => repeat (first | exact .nil | refine .cons ⟨_, rfl⟩ ?_))
    (case g_MENUS_grow => k_is)
    (case l_MENUS_grow => k_is)
    (case z_MENUS_grow => decide +kernel)
    (case v_MENUS_grow => repeat (first | exact .nil | refine .cons ⟨_, rfl⟩ ?_))
    (case a_MOST_LETTERS => k_is)
    (case a_MOST_CLASSES => k_is)
