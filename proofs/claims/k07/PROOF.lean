import PyProof.Rows.All
import Wide.All
import OpenK.AllK
import Wide.FinOn
import KE.OsRunLaw
import HandS.ForMost
import PyProof.ReprReads
import PyProof.ReprRoads
import HandS.Codes
import HandS.ForExc
import HandS.ExcInit
import HandS.ExcField
import HandS.ExcIs
import KE.KExcIs
import HandS.IsInst
import HandS.WrittenGet
import HandS.Star
import HandS.Conv
import HandS.More
import HandS.Property
import HandS.OwnEq
import HandS.ClsMeth
import HandS.TupAny
import HandS.DictComp
import HandS.DeepEq
import HandS.Strs
import HandS.ExcValue
import KE.KUnpackStar
import HandS.TupMul
import HandS.Style
import PyProof.DictUpdate
import HandS.TryMany
import HandS.Walk
import HandS.Zip
import HandS.Iter
import HandS.Small
import HandS.StrMore
import PySem.Challenge.RW_answersby_k07_tables_built
set_option Elab.async false
set_option linter.all false
set_option maxRecDepth 100000
set_option maxHeartbeats 8000000
section
open PySem PySem.W PyProof.Rows
open Lean in
local macro_rules
  | `(tactic| first | $t:tacticSeq | fail $s:str) => do
    if s.getString.startsWith "open_kl: no head takes this row (the" then
      let (h, n) := (mkIdent `hl, mkIdent `no7)
      `(tactic| (($t:tacticSeq); (case $h:ident => (refine HeadRun.left_oneK (M := 14600) (False.elim $n) (False.elim $n) (fun s => False.elim $n) (False.elim $n) ?_; refine byRow2 "special-get-raises" ?_ ?_; (· exact False.elim $n); (· exact False.elim $n))); all_goals exact False.elim $n))
    else Macro.throwUnsupported
set_option maxRecDepth 100000 in
set_option maxHeartbeats 0 in
set_option pp.maxSteps 200000 in
set_option pp.deepTerms true in
theorem Head7.t0 (no7 : False) : PySem.Challenge.rw_answersby_k07_tables_built.Holds := by
  w_on; o_law; k_headL
end
section
open PySem PySem.W PyProof.Rows
noncomputable abbrev Head7.view : Program := Head7.t0.view_39
noncomputable abbrev Head7.heap : Params → Frag := Head7.t0.heap_39
def Head7.as_ : List Addr := [2, 3, 15, 17, 18, 20, 21, 22, 29, 30, 31, 32, 35, 42, 44, 45, 47, 48, 49, 50, 51, 54, 61, 63, 64, 66, 67, 68, 69, 70, 73, 80, 82, 83, 85, 86, 87, 88, 89, 92, 99, 101, 102, 104, 105, 106, 107, 108, 111, 118, 120, 121, 123, 124, 125, 126, 127, 130, 137, 139, 140, 142, 143, 144, 145, 146, 149, 156, 158, 159, 161, 162, 163, 164, 165, 166, 169, 176, 178, 179, 181, 182, 183, 184, 185, 186, 189, 196, 198, 199, 201, 202, 203, 204, 205, 206, 209, 216, 218, 219, 221, 222, 223, 224, 225, 226, 229, 231, 232, 234, 235, 236, 238, 239, 241, 242, 243, 245, 246, 248, 249, 250, 252, 253, 255, 256, 257, 258, 259, 260, 261, 262, 264, 265, 267, 268, 269, 271, 272, 274, 275, 276, 278, 279, 281, 282, 283, 285, 286, 288, 289, 290, 292, 293, 295, 296, 297, 299, 300, 302, 303, 304, 305, 306, 307, 308, 309, 311, 312, 314, 315, 316, 318, 319, 321, 322, 323, 326, 327, 328, 330, 331, 333, 334, 335, 337, 338, 340, 341, 342, 344, 345, 347, 348, 349, 351, 352, 354, 355, 356, 359, 360, 361, 363, 364, 366, 367, 375, 377, 378, 380, 381, 382, 384, 385, 387, 388, 389, 391, 392, 394, 395, 396, 397, 398, 399, 400, 403, 404, 405, 406, 407, 408, 409, 410, 411, 412, 413, 414, 415, 416, 417, 420, 421, 429, 432, 433, 434, 436, 437, 439, 440, 441, 442, 443, 444, 446, 447, 449, 450, 451, 452, 453, 454, 456, 457, 459, 460, 461, 463, 464, 466, 467, 468, 470, 471, 473, 474, 477, 479, 480, 482, 483, 484, 485, 487, 488, 490, 491, 494, 496, 497, 499, 500, 501, 502, 504, 505, 507, 508, 511, 513, 514, 516, 517, 518, 519, 521, 522, 524, 525, 526, 528, 529, 531, 532, 533, 535, 536, 538, 539, 540, 542, 543, 545, 546, 547, 549, 550, 552, 553, 554, 556, 557, 559, 560, 561, 562, 563, 564, 565, 568, 570, 571, 573, 574, 575, 578, 579, 580, 583, 584, 585, 588, 589, 590, 592, 593, 595, 596, 597, 598, 600, 601, 603, 604, 612, 614, 615, 617, 618, 619, 621, 622, 624, 625, 626, 628, 629, 631, 632, 633, 635, 636, 638, 639, 640, 642, 643, 645, 646, 647, 650, 651, 652, 654, 655, 657, 658, 659, 661, 662, 664, 665, 666, 669, 670, 671, 673, 674, 676, 677, 678, 680, 681, 683, 684, 685, 687, 688, 690, 691, 692, 695, 696, 697, 699, 700, 702, 703, 704, 706, 707, 709, 710, 711, 713, 714, 716, 717, 718, 720, 721, 723, 724, 725, 727, 728, 730, 731, 732, 733, 734, 735, 736, 739, 741, 742, 744, 745, 746, 748, 749, 751, 752, 753, 755, 756, 758, 759, 760, 763, 764, 765, 767, 768, 770, 771, 772, 775, 776, 777, 779, 780, 782, 783, 784, 786, 787, 789, 790, 791, 793, 794, 796, 797, 798, 800, 801, 803, 804, 805, 808, 809, 810, 812, 813, 815, 816, 817, 820, 821, 822, 824, 825, 827, 828, 829, 831, 832, 834, 835, 836, 838, 839, 841, 842, 843, 845, 846, 848, 849, 850, 852, 853, 855, 856, 857, 860, 861, 862, 864, 865, 867, 868]
theorem Hq.at_ {S A : Type} {x : Option S} {f : S → A} {a : A} {s : S} (hx : x = some s) (h : x.map f = some a) : f s = a := by
  rw [hx] at h
  exact Option.some.inj h
theorem Hq.some_ {S A : Type} {x : Option S} {f : S → A} {a : A} (h : x.map f = some a) : ∃ s, x = some s := by
  cases x with
  | none => cases h
  | some s => exact ⟨s, rfl⟩
theorem Hq.good5 (q : Program) (loose : List PySem.Str) : PySem.W.R.mapR (fun c => some c.withCmp.plainShape) (PySem.W.Fast.tw210736558901404530 q (PySem.W.Fast.tw821141287760084731 q loose)) = plainGoodE q (looseW q loose) := by
  rw [← PySem.W.Fast.te210736558901404530, ← PySem.W.Fast.te821141287760084731, ← PySem.W.R.mapR_eq]
  rfl

theorem Hq.fin {S A B C0 C1 C2 C3 C4 C5 C6 C7 C8 : Type} {x : Option S} (l : S → A) (g : S → B) (t : S → C0 × C1 × C2 × C3 × C4 × C5 × C6 × C7 × C8) {a : A} {b : B} {c0 : C0} {c1 : C1} {c2 : C2} {c3 : C3} {c4 : C4} {c5 : C5} {c6 : C6} {c7 : C7} {c8 : C8} {d5 : C5} (e5 : d5 = c5) (h0 : x.map (fun s => ((t s).2.2.2.2.2.1, (t s).2.1, (t s).2.2.2.2.2.2.1, (t s).2.2.2.2.2.2.2.2)) = some (d5, c1, c6, c8)) (h1 : x.map (fun s => ((t s).1, (t s).2.2.2.2.1)) = some (c0, c4)) (h2 : x.map (fun s => ((t s).2.2.1, g s)) = some (c2, b)) (h3 : x.map (fun s => ((t s).2.2.2.1, l s)) = some (c3, a)) (h4 : x.map (fun s => (t s).2.2.2.2.2.2.2.1) = some c7) : x.map (fun s => (l s, t s, g s)) = some (a, (c0, c1, c2, c3, c4, c5, c6, c7, c8), b) := by
  obtain ⟨s, hx⟩ := Hq.some_ h0
  have q0 := Hq.at_ hx h0
  simp only [Prod.mk.injEq] at q0
  obtain ⟨k5, k1, k6, k8⟩ := q0
  have q1 := Hq.at_ hx h1
  simp only [Prod.mk.injEq] at q1
  obtain ⟨k0, k4⟩ := q1
  have q2 := Hq.at_ hx h2
  simp only [Prod.mk.injEq] at q2
  obtain ⟨k2, kg⟩ := q2
  have q3 := Hq.at_ hx h3
  simp only [Prod.mk.injEq] at q3
  obtain ⟨k3, kl⟩ := q3
  have k7 := Hq.at_ hx h4
  rw [hx]
  exact congrArg some (Prod.ext kl (Prod.ext (Prod.ext k0 (Prod.ext k1 (Prod.ext k2 (Prod.ext k3 (Prod.ext k4 (Prod.ext (k5.trans e5) (Prod.ext k6 (Prod.ext k7 k8)))))))) kg))
set_option maxRecDepth 100000 in
set_option maxHeartbeats 0 in
theorem Hq.t0a : ∀ (w : World) (os : OsState), Option.map (fun s : SharedT => ((HeadRun.seenQ Head7.view [Str.ofString "KINDS", Str.ofString "PARTS", Str.ofString "MENUS", Str.ofString "Book"] (importedModules PySem.Challenge.rw_answersby_k07_tables_built.row.prog.main.body) (fun s => xlAt Head7.view [] s && recOk PySem.Challenge.rw_answersby_k07_tables_built.row.records s) s.abs).2.2.2.2.2.1, (HeadRun.seenQ Head7.view [Str.ofString "KINDS", Str.ofString "PARTS", Str.ofString "MENUS", Str.ofString "Book"] (importedModules PySem.Challenge.rw_answersby_k07_tables_built.row.prog.main.body) (fun s => xlAt Head7.view [] s && recOk PySem.Challenge.rw_answersby_k07_tables_built.row.records s) s.abs).2.1, (HeadRun.seenQ Head7.view [Str.ofString "KINDS", Str.ofString "PARTS", Str.ofString "MENUS", Str.ofString "Book"] (importedModules PySem.Challenge.rw_answersby_k07_tables_built.row.prog.main.body) (fun s => xlAt Head7.view [] s && recOk PySem.Challenge.rw_answersby_k07_tables_built.row.records s) s.abs).2.2.2.2.2.2.1, (HeadRun.seenQ Head7.view [Str.ofString "KINDS", Str.ofString "PARTS", Str.ofString "MENUS", Str.ofString "Book"] (importedModules PySem.Challenge.rw_answersby_k07_tables_built.row.prog.main.body) (fun s => xlAt Head7.view [] s && recOk PySem.Challenge.rw_answersby_k07_tables_built.row.records s) s.abs).2.2.2.2.2.2.2.2)) (HeadRun.endF (HeadRun.stepQ (HeadRun.denQ HeadRun.tabQ) PySem.Challenge.rw_answersby_k07_tables_built.row.prog (w.withFollow "special-get-raises" false)) 14600 PySem.Challenge.rw_answersby_k07_tables_built.row.prog (w.withFollow "special-get-raises" false) os) = some (PySem.W.R.mapR (fun c => some c.withCmp.plainShape) (PySem.W.Fast.tw210736558901404530 Head7.view (PySem.W.Fast.tw821141287760084731 Head7.view [Str.ofString "KINDS", Str.ofString "PARTS", Str.ofString "MENUS", Str.ofString "Book"])), bltViewBooted, plainGoodD Head7.view [Str.ofString "KINDS", Str.ofString "PARTS", Str.ofString "MENUS", Str.ofString "Book"], clsGoodW Head7.view [Str.ofString "KINDS", Str.ofString "PARTS", Str.ofString "MENUS", Str.ofString "Book"]) := by
  intro w os
  kernel_rfl
set_option maxRecDepth 100000 in
set_option maxHeartbeats 0 in
theorem Hq.t1a : ∀ (w : World) (os : OsState), Option.map (fun s : SharedT => ((HeadRun.seenQ Head7.view [Str.ofString "KINDS", Str.ofString "PARTS", Str.ofString "MENUS", Str.ofString "Book"] (importedModules PySem.Challenge.rw_answersby_k07_tables_built.row.prog.main.body) (fun s => xlAt Head7.view [] s && recOk PySem.Challenge.rw_answersby_k07_tables_built.row.records s) s.abs).1, (HeadRun.seenQ Head7.view [Str.ofString "KINDS", Str.ofString "PARTS", Str.ofString "MENUS", Str.ofString "Book"] (importedModules PySem.Challenge.rw_answersby_k07_tables_built.row.prog.main.body) (fun s => xlAt Head7.view [] s && recOk PySem.Challenge.rw_answersby_k07_tables_built.row.records s) s.abs).2.2.2.2.1)) (HeadRun.endF (HeadRun.stepQ (HeadRun.denQ HeadRun.tabQ) PySem.Challenge.rw_answersby_k07_tables_built.row.prog (w.withFollow "special-get-raises" false)) 14600 PySem.Challenge.rw_answersby_k07_tables_built.row.prog (w.withFollow "special-get-raises" false) os) = some (expectedOf Head7.view, pinGoodD (drecsOf Head7.view)) := by
  intro w os
  kernel_rfl
set_option maxRecDepth 100000 in
set_option maxHeartbeats 0 in
theorem Hq.t2a : ∀ (w : World) (os : OsState), Option.map (fun s : SharedT => ((HeadRun.seenQ Head7.view [Str.ofString "KINDS", Str.ofString "PARTS", Str.ofString "MENUS", Str.ofString "Book"] (importedModules PySem.Challenge.rw_answersby_k07_tables_built.row.prog.main.body) (fun s => xlAt Head7.view [] s && recOk PySem.Challenge.rw_answersby_k07_tables_built.row.records s) s.abs).2.2.1, List.map (HeadRun.getT s) Head7.as_)) (HeadRun.endF (HeadRun.stepQ (HeadRun.denQ HeadRun.tabQ) PySem.Challenge.rw_answersby_k07_tables_built.row.prog (w.withFollow "special-get-raises" false)) 14600 PySem.Challenge.rw_answersby_k07_tables_built.row.prog (w.withFollow "special-get-raises" false) os) = some (true, List.map (fun x => some x.snd) (Head7.heap (w.withFollow "special-get-raises" false).params)) := by
  intro w os
  kernel_rfl
set_option maxRecDepth 100000 in
set_option maxHeartbeats 0 in
theorem Hq.t3a : ∀ (w : World) (os : OsState), Option.map (fun s : SharedT => ((HeadRun.seenQ Head7.view [Str.ofString "KINDS", Str.ofString "PARTS", Str.ofString "MENUS", Str.ofString "Book"] (importedModules PySem.Challenge.rw_answersby_k07_tables_built.row.prog.main.body) (fun s => xlAt Head7.view [] s && recOk PySem.Challenge.rw_answersby_k07_tables_built.row.records s) s.abs).2.2.2.1, HeadRun.looksF PySem.Challenge.rw_answersby_k07_tables_built.row.prog (boot_heap (w.withFollow "special-get-raises" false).params) s.abs)) (HeadRun.endF (HeadRun.stepQ (HeadRun.denQ HeadRun.tabQ) PySem.Challenge.rw_answersby_k07_tables_built.row.prog (w.withFollow "special-get-raises" false)) 14600 PySem.Challenge.rw_answersby_k07_tables_built.row.prog (w.withFollow "special-get-raises" false) os) = some (true, true) := by
  intro w os
  kernel_rfl
set_option maxRecDepth 100000 in
set_option maxHeartbeats 0 in
theorem Hq.t4a : ∀ (w : World) (os : OsState), Option.map (fun s : SharedT => (HeadRun.seenQ Head7.view [Str.ofString "KINDS", Str.ofString "PARTS", Str.ofString "MENUS", Str.ofString "Book"] (importedModules PySem.Challenge.rw_answersby_k07_tables_built.row.prog.main.body) (fun s => xlAt Head7.view [] s && recOk PySem.Challenge.rw_answersby_k07_tables_built.row.records s) s.abs).2.2.2.2.2.2.2.1) (HeadRun.endF (HeadRun.stepQ (HeadRun.denQ HeadRun.tabQ) PySem.Challenge.rw_answersby_k07_tables_built.row.prog (w.withFollow "special-get-raises" false)) 14600 PySem.Challenge.rw_answersby_k07_tables_built.row.prog (w.withFollow "special-get-raises" false) os) = some (wideGood Head7.view) := by
  intro w os
  kernel_rfl
theorem Head7.ra : ∀ (w : World) (os : OsState), Option.map (fun s : SharedT => (HeadRun.looksF PySem.Challenge.rw_answersby_k07_tables_built.row.prog (boot_heap (w.withFollow "special-get-raises" false).params) s.abs, HeadRun.seenQ Head7.view [Str.ofString "KINDS", Str.ofString "PARTS", Str.ofString "MENUS", Str.ofString "Book"] (importedModules PySem.Challenge.rw_answersby_k07_tables_built.row.prog.main.body) (fun s => xlAt Head7.view [] s && recOk PySem.Challenge.rw_answersby_k07_tables_built.row.records s) s.abs, List.map (HeadRun.getT s) Head7.as_)) (HeadRun.endF (HeadRun.stepQ (HeadRun.denQ HeadRun.tabQ) PySem.Challenge.rw_answersby_k07_tables_built.row.prog (w.withFollow "special-get-raises" false)) 14600 PySem.Challenge.rw_answersby_k07_tables_built.row.prog (w.withFollow "special-get-raises" false) os) = some (true, openGood Head7.view [Str.ofString "KINDS", Str.ofString "PARTS", Str.ofString "MENUS", Str.ofString "Book"], List.map (fun x => some x.snd) (Head7.heap (w.withFollow "special-get-raises" false).params)) :=
  fun w os => Hq.fin _ _ (fun s : SharedT => (HeadRun.seenQ Head7.view [Str.ofString "KINDS", Str.ofString "PARTS", Str.ofString "MENUS", Str.ofString "Book"] (importedModules PySem.Challenge.rw_answersby_k07_tables_built.row.prog.main.body) (fun s => xlAt Head7.view [] s && recOk PySem.Challenge.rw_answersby_k07_tables_built.row.records s) s.abs)) (Hq.good5 _ _) (Hq.t0a w os) (Hq.t1a w os) (Hq.t2a w os) (Hq.t3a w os) (Hq.t4a w os)
set_option maxRecDepth 100000 in
set_option maxHeartbeats 0 in
theorem Hq.t0b : ∀ (w : World) (os : OsState), Option.map (fun s : SharedT => ((HeadRun.seenQ Head7.view [Str.ofString "KINDS", Str.ofString "PARTS", Str.ofString "MENUS", Str.ofString "Book"] (importedModules PySem.Challenge.rw_answersby_k07_tables_built.row.prog.main.body) (fun s => xlAt Head7.view [] s && recOk PySem.Challenge.rw_answersby_k07_tables_built.row.records s) s.abs).2.2.2.2.2.1, (HeadRun.seenQ Head7.view [Str.ofString "KINDS", Str.ofString "PARTS", Str.ofString "MENUS", Str.ofString "Book"] (importedModules PySem.Challenge.rw_answersby_k07_tables_built.row.prog.main.body) (fun s => xlAt Head7.view [] s && recOk PySem.Challenge.rw_answersby_k07_tables_built.row.records s) s.abs).2.1, (HeadRun.seenQ Head7.view [Str.ofString "KINDS", Str.ofString "PARTS", Str.ofString "MENUS", Str.ofString "Book"] (importedModules PySem.Challenge.rw_answersby_k07_tables_built.row.prog.main.body) (fun s => xlAt Head7.view [] s && recOk PySem.Challenge.rw_answersby_k07_tables_built.row.records s) s.abs).2.2.2.2.2.2.1, (HeadRun.seenQ Head7.view [Str.ofString "KINDS", Str.ofString "PARTS", Str.ofString "MENUS", Str.ofString "Book"] (importedModules PySem.Challenge.rw_answersby_k07_tables_built.row.prog.main.body) (fun s => xlAt Head7.view [] s && recOk PySem.Challenge.rw_answersby_k07_tables_built.row.records s) s.abs).2.2.2.2.2.2.2.2)) (HeadRun.endF (HeadRun.stepQ (HeadRun.denQ HeadRun.tabQ) PySem.Challenge.rw_answersby_k07_tables_built.row.prog (w.withFollow "special-get-raises" true)) 14600 PySem.Challenge.rw_answersby_k07_tables_built.row.prog (w.withFollow "special-get-raises" true) os) = some (PySem.W.R.mapR (fun c => some c.withCmp.plainShape) (PySem.W.Fast.tw210736558901404530 Head7.view (PySem.W.Fast.tw821141287760084731 Head7.view [Str.ofString "KINDS", Str.ofString "PARTS", Str.ofString "MENUS", Str.ofString "Book"])), bltViewBooted, plainGoodD Head7.view [Str.ofString "KINDS", Str.ofString "PARTS", Str.ofString "MENUS", Str.ofString "Book"], clsGoodW Head7.view [Str.ofString "KINDS", Str.ofString "PARTS", Str.ofString "MENUS", Str.ofString "Book"]) := by
  intro w os
  kernel_rfl
set_option maxRecDepth 100000 in
set_option maxHeartbeats 0 in
theorem Hq.t1b : ∀ (w : World) (os : OsState), Option.map (fun s : SharedT => ((HeadRun.seenQ Head7.view [Str.ofString "KINDS", Str.ofString "PARTS", Str.ofString "MENUS", Str.ofString "Book"] (importedModules PySem.Challenge.rw_answersby_k07_tables_built.row.prog.main.body) (fun s => xlAt Head7.view [] s && recOk PySem.Challenge.rw_answersby_k07_tables_built.row.records s) s.abs).1, (HeadRun.seenQ Head7.view [Str.ofString "KINDS", Str.ofString "PARTS", Str.ofString "MENUS", Str.ofString "Book"] (importedModules PySem.Challenge.rw_answersby_k07_tables_built.row.prog.main.body) (fun s => xlAt Head7.view [] s && recOk PySem.Challenge.rw_answersby_k07_tables_built.row.records s) s.abs).2.2.2.2.1)) (HeadRun.endF (HeadRun.stepQ (HeadRun.denQ HeadRun.tabQ) PySem.Challenge.rw_answersby_k07_tables_built.row.prog (w.withFollow "special-get-raises" true)) 14600 PySem.Challenge.rw_answersby_k07_tables_built.row.prog (w.withFollow "special-get-raises" true) os) = some (expectedOf Head7.view, pinGoodD (drecsOf Head7.view)) := by
  intro w os
  kernel_rfl
set_option maxRecDepth 100000 in
set_option maxHeartbeats 0 in
theorem Hq.t2b : ∀ (w : World) (os : OsState), Option.map (fun s : SharedT => ((HeadRun.seenQ Head7.view [Str.ofString "KINDS", Str.ofString "PARTS", Str.ofString "MENUS", Str.ofString "Book"] (importedModules PySem.Challenge.rw_answersby_k07_tables_built.row.prog.main.body) (fun s => xlAt Head7.view [] s && recOk PySem.Challenge.rw_answersby_k07_tables_built.row.records s) s.abs).2.2.1, List.map (HeadRun.getT s) Head7.as_)) (HeadRun.endF (HeadRun.stepQ (HeadRun.denQ HeadRun.tabQ) PySem.Challenge.rw_answersby_k07_tables_built.row.prog (w.withFollow "special-get-raises" true)) 14600 PySem.Challenge.rw_answersby_k07_tables_built.row.prog (w.withFollow "special-get-raises" true) os) = some (true, List.map (fun x => some x.snd) (Head7.heap (w.withFollow "special-get-raises" true).params)) := by
  intro w os
  kernel_rfl
set_option maxRecDepth 100000 in
set_option maxHeartbeats 0 in
theorem Hq.t3b : ∀ (w : World) (os : OsState), Option.map (fun s : SharedT => ((HeadRun.seenQ Head7.view [Str.ofString "KINDS", Str.ofString "PARTS", Str.ofString "MENUS", Str.ofString "Book"] (importedModules PySem.Challenge.rw_answersby_k07_tables_built.row.prog.main.body) (fun s => xlAt Head7.view [] s && recOk PySem.Challenge.rw_answersby_k07_tables_built.row.records s) s.abs).2.2.2.1, HeadRun.looksF PySem.Challenge.rw_answersby_k07_tables_built.row.prog (boot_heap (w.withFollow "special-get-raises" true).params) s.abs)) (HeadRun.endF (HeadRun.stepQ (HeadRun.denQ HeadRun.tabQ) PySem.Challenge.rw_answersby_k07_tables_built.row.prog (w.withFollow "special-get-raises" true)) 14600 PySem.Challenge.rw_answersby_k07_tables_built.row.prog (w.withFollow "special-get-raises" true) os) = some (true, true) := by
  intro w os
  kernel_rfl
set_option maxRecDepth 100000 in
set_option maxHeartbeats 0 in
theorem Hq.t4b : ∀ (w : World) (os : OsState), Option.map (fun s : SharedT => (HeadRun.seenQ Head7.view [Str.ofString "KINDS", Str.ofString "PARTS", Str.ofString "MENUS", Str.ofString "Book"] (importedModules PySem.Challenge.rw_answersby_k07_tables_built.row.prog.main.body) (fun s => xlAt Head7.view [] s && recOk PySem.Challenge.rw_answersby_k07_tables_built.row.records s) s.abs).2.2.2.2.2.2.2.1) (HeadRun.endF (HeadRun.stepQ (HeadRun.denQ HeadRun.tabQ) PySem.Challenge.rw_answersby_k07_tables_built.row.prog (w.withFollow "special-get-raises" true)) 14600 PySem.Challenge.rw_answersby_k07_tables_built.row.prog (w.withFollow "special-get-raises" true) os) = some (wideGood Head7.view) := by
  intro w os
  kernel_rfl
theorem Head7.rb : ∀ (w : World) (os : OsState), Option.map (fun s : SharedT => (HeadRun.looksF PySem.Challenge.rw_answersby_k07_tables_built.row.prog (boot_heap (w.withFollow "special-get-raises" true).params) s.abs, HeadRun.seenQ Head7.view [Str.ofString "KINDS", Str.ofString "PARTS", Str.ofString "MENUS", Str.ofString "Book"] (importedModules PySem.Challenge.rw_answersby_k07_tables_built.row.prog.main.body) (fun s => xlAt Head7.view [] s && recOk PySem.Challenge.rw_answersby_k07_tables_built.row.records s) s.abs, List.map (HeadRun.getT s) Head7.as_)) (HeadRun.endF (HeadRun.stepQ (HeadRun.denQ HeadRun.tabQ) PySem.Challenge.rw_answersby_k07_tables_built.row.prog (w.withFollow "special-get-raises" true)) 14600 PySem.Challenge.rw_answersby_k07_tables_built.row.prog (w.withFollow "special-get-raises" true) os) = some (true, openGood Head7.view [Str.ofString "KINDS", Str.ofString "PARTS", Str.ofString "MENUS", Str.ofString "Book"], List.map (fun x => some x.snd) (Head7.heap (w.withFollow "special-get-raises" true).params)) :=
  fun w os => Hq.fin _ _ (fun s : SharedT => (HeadRun.seenQ Head7.view [Str.ofString "KINDS", Str.ofString "PARTS", Str.ofString "MENUS", Str.ofString "Book"] (importedModules PySem.Challenge.rw_answersby_k07_tables_built.row.prog.main.body) (fun s => xlAt Head7.view [] s && recOk PySem.Challenge.rw_answersby_k07_tables_built.row.records s) s.abs)) (Hq.good5 _ _) (Hq.t0b w os) (Hq.t1b w os) (Hq.t2b w os) (Hq.t3b w os) (Hq.t4b w os)
end
/-! repr of data; defs that are called where no container is being shown -/
namespace Gk
open PySem L2 PySem.Spec PyProof.Rows

/-! ### a def's promise, kept where no list, tuple or dict is being shown -/
structure FnG (P : Program) (w : World) (K : PySem.W.Frag) (mg : Str → Option Value) (base : Heap) (CX : CXT) (k : Nat) (f : Addr) (fd : FuncData) (ps : List Str) (sp : Sp) : Prop where
  len : ∀ vs H Q E, sp vs H Q E → vs.length = ps.length
  go : ∀ (A : Around), A.guards = some [] → ∀ (outer : List Env) (s : Shared) (H : Hp) (args : Args) (us : List Value) (vs : List V) (Q : VK) (E : XK),
    Room k A → Env0 P w K mg base A outer s H → BindsTo s fd args (ps.zip us) → Vals vs us → sp vs H Q E → codeAny (model P w) A (.call (.ref f) args) (CR CX outer P w H s Q E) s

section
variable {P : Program} {w : World} {K : PySem.W.Frag} {mg : Str → Option Value} {base : Heap} {CX : CXT} {j k : Nat} {f : Addr} {fd : FuncData} {ps : List Str} {sp : Sp}
theorem FnG.up (F : FnG P w K mg base CX j f fd ps sp) (h : j ≤ k) : FnG P w K mg base CX k f fd ps sp :=
  ⟨F.len, fun A g outer s H args us vs Q E hr => F.go A g outer s H args us vs Q E (hr.mono h)⟩
end

section
variable {X : Cx} {CX : CXT} {k : Nat} {f : Addr} {fd : FuncData} {ps : List Str} {sp : Sp} {dvs : List V} {ds : List Value} {E : XK} {x : Str} {p pos : Pos} {e : Expr} {es : List Expr} {t : TA}
theorem runG {pins : List (Addr × Obj)} {σ : L2.St} {H : Hp} {s : Shared} {Q : VK} {us : List Value} {vs : List V} (F : FnG X.prog X.w X.K X.mg X.base CX k f fd ps sp) (g : X.A.guards = some [])
    (hr : Room k X.A) (hb : Binds X.K fd ps ds) (hd : Vals dvs ds) (hx : Passes CX X E) (I : Inv X pins σ H s) (r : Vals vs us) (h : sp (vs ++ dvs) H Q E) :
    wpAny (model X.prog X.w) X.A (call (.ref f) us) (EP X pins σ Q) X.xe s := by
  have rr := r.append hd
  have lens : (us ++ ds).length = ps.length := (rr.length).symm.trans (F.len _ _ _ _ h)
  have body := F.go X.A g X.stack s H ⟨us, []⟩ (us ++ ds) (vs ++ dvs) Q E hr I.env0 (hb s us I.kIn lens) rr h
  refine wpAny_call (codeAny_mono body ?_)
  intro res s' hres
  match res, hres with
  | .error e, z => exact hx pins σ H s e s' I z
  | .ok (.ret u), z => exact I.after z
  | .ok .next, z => exact z.elim
  | .ok .brk, z => exact z.elim
  | .ok .cont, z => exact z.elim
theorem pe_callG (F : FnG X.prog X.w X.K X.mg X.base CX k f fd ps sp) (g : X.A.guards = some []) (hr : Room k X.A) (hg : Gl X x) (hm : X.mg x = some (.ref f))
    (hk : PySem.W.keepIn X.K (.ref f) = true) (hb : Binds X.K fd ps ds) (hd : Vals dvs ds) (hx : Passes CX X E) (ha : PA X (e :: es) t)
    (hdb : (x == ("__debug__" : Str)) = false := by decide)
    (he : starEach (e :: es) X.env = (false, eval e X.env) :: starEach es X.env := by rfl)
    (hpl : (backTo pos (starEach es X.env)).any (·.1) = false := by rfl) :
    PE X (.Call (.Name x p) (e :: es) [] pos) (tCall sp dvs E t) := by
  refine ⟨fun pins s σ H Q I h => wpAny_Call_Name_kw (ld_glob I hg hm ?_ hdb)⟩
  have args := ha.run pos pins s σ H _ I h
  refine PySem.W.callWith_K (h₀ := X.base) I.ok.mod.kin hk (thn args ?_) he hpl
  rintro us s1 ⟨vs, H1, I1, r, q⟩
  exact ⟨I1.kIn, runG F g hr hb hd hx I1 r q⟩
end

/-! ### a def of the text, and the law's own call -/
section
variable {CX : CXT} {P : Program} {w : World} {K : PySem.W.Frag} {mg : Str → Option Value} {base : Heap}
theorem defG {k : Nat} {f : Addr} {x qual : Str} {st : Stmt} {fd : FuncData} {N ps : List Str} {sp : Sp}
    (F : Fun K x qual st f fd) (S : FnScope N ps (defScope st)) (len : ∀ vs H Q E, sp vs H Q E → vs.length = ps.length)
    (inner : ∀ (cd : Value) (A : Around), A.guards = some [] → ∀ (outer : List Env) (s : Shared) (H : Hp) (vs : List V) (Q : VK) (E : XK),
      Room k (A.deeper (envOfC qual (defScope st) s.heap.objs.size f cd)) → sp vs H Q E →
      ∃ t, PSs (cxOf CX P w K mg base N qual (defScope st) f cd A outer s H E) (defBody st) t ∧ t { nx := fun _ H' => Q .non H', rt := Q } (start N vs) H) :
    FnG P w K mg base CX (k + 1) f fd ps sp := by
  obtain ⟨oc, od, kV, doc, pm, an, cd, ct, osl, rfl, lk, hcd⟩ := F.ex
  refine ⟨len, ?_⟩
  intro A g outer s H args us vs Q E hr e0 hb r hsp
  have kept : ∀ b o, base.get? b = some o → s.heap.get? b = some o := fun b o z => (e0.bs b o z).1
  have KX : K.In s.heap := e0.mod.kin.keeps kept
  have lim : s.heap.NoLimit := e0.mod.nolimit.keeps kept
  have slots : ∀ y ∈ ps.zip us, (defScope st).names.lookup y.1 = some .local ∨
      ((defScope st).names.lookup y.1 = some .cell ∧ ((cellsFrom (s.heap.objs.size + 1) (defScope st).names []).lookup y.1).isSome = true) := by
    rintro ⟨n, v⟩ hy
    have hp := S.par n (List.of_mem_zip hy).1
    exact hp.imp id fun q => ⟨q, PySem.W.cellsFrom_some _ _ _ (.inl q)⟩
  refine codeAny_call_function hr.depth (KX _ _ lk) rfl S.co S.gen rfl (PySem.W.codeRec_of KX hcd) (hb _ _ _ _ ?_)
  refine wpAny_newFunctionEnv_cells S.kind slots ?_
  rintro env rfl s1 x
  refine ⟨lim.keeps x.toInCall.keep, codeAny_func ?_⟩
  obtain ⟨t, ht, hq⟩ := inner cd A g outer s H vs Q E (hr.deeper _) hsp
  have I := inv_start (CX := CX) (mg := mg) (E := E) S hr.hd e0 (len _ _ _ _ hsp) r x
  refine wpAny_mono (ht.run [] s1 (start N vs) H _ I hq) ?_ fun _ _ z => z
  intro fl s' hs
  match fl, hs with
  | .ret u, ⟨v, σ', H', J, rv, q⟩ => exact ⟨v, H', J.os, J.bare, J.base, J.hok, rv, q⟩
  | .next, ⟨σ', H', J, q⟩ => exact ⟨V.non, H', J.os, J.bare, J.base, J.hok, rfl, q⟩
  | .brk, ⟨_, _, _, q⟩ => exact q.elim
  | .cont, ⟨_, _, _, q⟩ => exact q.elim
/-- no exception leaves the def -/
theorem defG0 {k : Nat} {f : Addr} {x qual : Str} {st : Stmt} {fd : FuncData} {N ps : List Str} {sp : Sp}
    (F : Fun K x qual st f fd) (S : FnScope N ps (defScope st)) (len : ∀ vs H Q E, sp vs H Q E → vs.length = ps.length)
    (inner : ∀ (cd : Value) (A : Around), A.guards = some [] → ∀ (outer : List Env) (s : Shared) (H : Hp) (vs : List V) (Q : VK) (E : XK),
      Room k (A.deeper (envOfC qual (defScope st) s.heap.objs.size f cd)) → sp vs H Q E →
      ∃ t, PSs (cxOf CX0 P w K mg base N qual (defScope st) f cd A outer s H E).nox (defBody st) t ∧ t { nx := fun _ H' => Q .non H', rt := Q } (start N vs) H) :
    FnG P w K mg base CX0 (k + 1) f fd ps sp :=
  defG F S len fun cd A g outer s H vs Q E hr h => let ⟨t, a, b⟩ := inner cd A g outer s H vs Q E hr h; ⟨t, a.nox, b⟩
end

/-! ### repr -/
section
variable {X : Cx}
def rRepr (K : PySem.W.Frag) : List V → Hp → VK → Prop := fun xs H Q =>
  ∃ v d, xs = [v] ∧ Dp K H v d ∧ d.showable = true ∧ d.hasDict = false ∧ d.depth ≤ 60 ∧ d.shown.length ≤ sizeLine ∧ Q (.str d.shown) H
theorem call_reprD (hg : X.A.guards = some []) (hu : X.A.units + 64 < cLine) : CallR X (.builtin "repr") (rRepr X.K) := by
  intro pins s σ H xs us Q I r h
  obtain ⟨v, d, rfl, hd, h1, h2, h3, h4, q⟩ := h
  obtain ⟨u, rfl, ru⟩ := vals1 r
  obtain ⟨as, rd⟩ := Dp.reads I d v u hd ru
  have out : ∀ h' u' tk, (∀ b o, s.heap.get? b = some o → h'.get? b = some o) → EP X pins σ Q (.str d.shown u') { s with heap := h', toks := tk } :=
    fun h' u' tk hk => ⟨.str d.shown, H, I.kept hk, ⟨u', rfl⟩, q⟩
  cases rd with
  | none => exact P.repr_of_none (by simpa only [PyData.shown] using out s.heap s.toks (s.toks + 1) fun _ _ z => z)
  | bool b => exact P.repr_of_bool (by simpa only [PyData.shown] using out s.heap s.toks (s.toks + 1) fun _ _ z => z)
  | int i t => exact P.repr_of_int (by simpa [PyData.showable] using h1) (by simpa only [PyData.shown] using out s.heap _ _ fun _ _ z => z)
  | str x t => exact P.repr_of_str (by simpa only [PyData.shown] using out s.heap _ _ fun _ _ z => z) (by simpa only [PyData.shown] using h4)
  | list a1 a2 a3 a4 => exact repr_of_reads' (.list a1 a2 a3 a4) h1 (fun z => by rw [h2] at z; cases z) hg (by omega) (fun _ _ z => z) out h4
  | tuple a1 a2 a3 a4 => exact repr_of_reads' (.tuple a1 a2 a3 a4) h1 (fun z => by rw [h2] at z; cases z) hg (by omega) (fun _ _ z => z) out h4
  | dict a1 a2 a3 a4 a5 => simp [PyData.hasDict] at h2
end
end Gk
/-! the law's own call, by a promise of the kind FnG -/
namespace Gk
open PySem L2 PySem.Spec PyProof.Rows
abbrev AllTrue (s₁ : Shared) (r : Result) (s' : Shared) : Prop := r = .ok (.ret (.bool true)) ∧ OldK s₁.heap s'.heap ∧ s'.os = s₁.os ∧ AllBare s'.gens
section
variable {P : Program} {w : World} {K : PySem.W.Frag} {mg mb : Str → Option Value} {k : Nat} {fa a : Addr} {fd : FuncData} {x : Str} {sp : Sp} {s₁ : Shared} {vs : List Value} {ns : List Int}
/-- what is hidden by H stands at a alone, and that is the script's list -/
structure Hid (K : PySem.W.Frag) (s₁ : Shared) (a : Addr) (vs : List Value) (H : Hp) : Prop where
  only : Only H
  at_a : ∀ b, H b ≠ none → b = a
  new : H a ≠ none → K.lookup a = none
  scr : s₁.heap.get? a = some { cls := .type "list", data := .seq vs.toArray }
theorem Hid.free {H : Hp} (h : Hid K s₁ a vs H) {b : Addr} {o : Obj} (e : s₁.heap.get? b = some o) (hd : ∀ z n, o.data ≠ .seq z n) : H b = none := by
  cases q : H b with
  | none => rfl
  | some u =>
    obtain rfl : b = a := h.at_a b (by simp [q])
    rw [h.scr] at e
    cases e
    exact absurd rfl (hd _ _)
theorem Hid.nsp {H : Hp} (h : Hid K s₁ a vs H) {b : Addr} {m : Str → Option Value} : s₁.heap.Ns b m → (hidT s₁.heap H).Ns b m := by
  rintro ⟨o, es, ep, e, d, r⟩
  exact ⟨o, es, ep, hidT_get e (h.free e fun z n q => by rw [d] at q; cases q), d, r⟩
theorem Hid.kin {H : Hp} (h : Hid K s₁ a vs H) (KX : K.In s₁.heap) : K.In (hidT s₁.heap H) := by
  intro b o e
  refine hidT_get (KX b o e) ?_
  cases q : H b with
  | none => rfl
  | some u =>
    obtain rfl : b = a := h.at_a b (by simp [q])
    rw [h.new (by simp [q])] at e
    cases e
theorem run_law {H : Hp} (h : Hid K s₁ a vs H) (KX : K.In s₁.heap) (hns : s₁.heap.Ns mainGlobals mg) (hb : s₁.heap.Ns builtinsNs mb) (hbb : ∀ x : Str, x ≠ "__name__" → mb x = bootBuiltins x) (hlim : s₁.heap.NoLimit)
    (hg : s₁.gens = #[]) (hr : Room k callerA) (F : ∀ base : Heap, K.In base → base.Ns mainGlobals mg → FnG P w K mg base CX0 k fa fd [x] sp)
    (hbind : ∀ (s : Shared) (u : Value), BindsTo s fd ⟨[u], []⟩ [(x, u)]) (hok : HOk P w H s₁.heap) (hsp : sp [.ref a] H (fun v _ => v = .bl true) fun _ _ _ => False) :
    codeAny (model P w) callerA (.call (.ref fa) ⟨[.ref a], []⟩) (AllTrue s₁) s₁ := by
  obtain ⟨mc, l1, l2⟩ := hlim
  have md : Mod K mg (hidT s₁.heap H) := ⟨h.kin KX, h.nsp hns, ⟨mb, h.nsp hb, hbb⟩, ⟨mc, h.nsp l1, l2⟩⟩
  have ev : Env0 P w K mg (hidT s₁.heap H) callerA [] s₁ H :=
    ⟨rfl, md, fun b o e => of_hidT e, Nat.le_of_eq (hidT_size _ _), trivial, fun b hb => (List.not_mem_nil hb).elim, hok, .of_eq hg⟩
  have go := (F _ (h.kin KX) (h.nsp hns)).go callerA rfl [] s₁ H ⟨[.ref a], []⟩ [.ref a] [.ref a] _ _ hr ev (hbind s₁ (.ref a)) (.cons rfl .nil) hsp
  refine codeAny_mono go ?_
  intro res s' hres
  match res, hres with
  | .error e, z => exact z.elim
  | .ok .next, z => exact z.elim
  | .ok .brk, z => exact z.elim
  | .ok .cont, z => exact z.elim
  | .ok (.ret u), ⟨v, H', os, bare, un, hok', rv, q⟩ =>
    obtain rfl : v = .bl true := q
    obtain rfl : u = Value.bool true := rv
    refine ⟨rfl, OldK.of_keep ?_, os, bare⟩
    intro b o e
    rcases h.only b with z | ⟨ob, xs, z⟩
    · exact un.keep b o e z (fun m => (List.not_mem_nil m).elim) (fun m => (List.not_mem_nil m).elim)
    · obtain ⟨e1, _⟩ := hok b _ z
      obtain ⟨e2, _⟩ := hok' b _ (un.frzs b ob _ z)
      rw [e] at e1
      cases e1
      exact e2
theorem law_callG (KX : K.In s₁.heap) (hns : s₁.heap.Ns mainGlobals mg) (hb : s₁.heap.Ns builtinsNs mb) (hbb : ∀ x : Str, x ≠ "__name__" → mb x = bootBuiltins x) (hlim : s₁.heap.NoLimit) (hg : s₁.gens = #[])
    (scr : s₁.heap.get? a = some { cls := .type "list", data := .seq vs.toArray }) (hi : IntsAre vs ns) (hl : ns.length ≤ sizeLine) (hr : Room k callerA)
    (F : ∀ base : Heap, K.In base → base.Ns mainGlobals mg → FnG P w K mg base CX0 k fa fd [x] sp) (hbind : ∀ (s : Shared) (u : Value), BindsTo s fd ⟨[u], []⟩ [(x, u)])
    (hsp : ∀ H : Hp, Only H → SqL K H a (ns.map V.int) → sp [.ref a] H (fun v _ => v = .bl true) fun _ _ _ => False) :
    codeAny (model P w) callerA (.call (.ref fa) ⟨[.ref a], []⟩) (AllTrue s₁) s₁ := by
  have rv := vals_ints hi
  cases hk : K.lookup a with
  | some o =>
    have e := KX a o hk
    rw [scr] at e
    cases e
    have on : Only (fun _ => none) := fun _ => .inl rfl
    refine run_law (H := fun _ => none) ⟨on, fun b z => absurd rfl z, fun z => absurd rfl z, scr⟩ KX hns hb hbb hlim hg hr F hbind (fun b u z => nomatch z) (hsp _ on ?_)
    exact .inr ⟨_, vs.toArray, _, hk, rfl, rfl, rfl, by rw [List.size_toArray, hi.length]; exact hl, by simpa using rv⟩
  | none =>
    let L : HO := .frz { cls := .type "list", data := .seq vs.toArray } (.lst (ns.map V.int))
    have la : (fun b => if b = a then some L else none : Hp) a = some L := if_pos rfl
    have on : Only (fun b => if b = a then some L else none) := by
      intro b
      by_cases hb : b = a
      · exact .inr ⟨_, _, if_pos hb⟩
      · exact .inl (if_neg hb)
    refine run_law ⟨on, fun b z => ?_, fun _ => hk, scr⟩ KX hns hb hbb hlim hg hr F hbind (fun b u z => ?_) (hsp _ on (.inl (.inr ⟨_, la⟩)))
    · by_cases hb : b = a
      · exact hb
      · exact absurd (if_neg hb) z
    · by_cases hb : b = a
      · subst hb
        have z' := la.symm.trans z
        cases z'
        exact ⟨scr, by rw [List.length_map]; exact hl, vs, _, rv, scr⟩
      · have z' := (if_neg hb).symm.trans z
        cases z'
end
theorem walkG {l : PySem.W.OpenLaw} {n k : Nat} {q : Program} {loose : List Str} {XP : (Str → Option Value) → Heap → Prop} {YP : World → Heap → Prop} {d : DefRec} {K : Params → PySem.W.Frag} {sp : World → Sp} {x : Str}
    (hn : l.most = some n) (hn2 : n ≤ sizeLine) (hdf : d.params.defaults = []) (hr : Room k callerA) (hY : ∀ (w : World) (h : Heap), YP w h → (K w.params).In h)
    (F : ∀ (w : World) (mg : Str → Option Value) (fa : Addr) (h : Heap), (K w.params).In h → h.Ns mainGlobals mg → mg d.name = some (.ref fa) →
      ∃ fd : FuncData, (∀ (s : Shared) (u : Value), BindsTo s fd ⟨[u], []⟩ [(x, u)]) ∧
        ∀ base : Heap, (K w.params).In base → base.Ns mainGlobals mg → FnG l.prog w (K w.params) mg base CX0 k fa fd [x] (sp w))
    (hsp : ∀ (w : World) (H : Hp) (a : Addr) (ns : List Int), ns.length ≤ n → Only H → SqL (K w.params) H a (ns.map V.int) → sp w [.ref a] H (fun v _ => v = .bl true) fun _ _ _ => False) :
    PySem.W.WalkO q loose XP YP l.row.toRowW d [] (fun f vs => PySem.call f vs) := by
  refine Att.attach_call hn hdf ?_
  intro w s₀ s₁ mg mb fa o pm cd doc a vs ns G Y ho hd hcd hmg hobj hints hlen hg
  obtain ⟨fd, hb, hF⟩ := F w mg fa _ (hY w _ Y) G.T.g hmg
  exact law_callG (hY w _ Y) G.T.g G.T.b G.T.builtins G.T.nolimit hg hobj hints (Nat.le_trans hlen hn2) hr hF hb fun H hO hS => hsp w H a ns hlen hO hS
end Gk
namespace Gk
open PySem L2 PySem.Spec PyProof.Rows
/-- a def of the module's top, by its name, with its promise -/
def CalG (P : Program) (w : World) (K : PySem.W.Frag) (mg : Str → Option Value) (base : Heap) (k : Nat) (x : Str) (sp : Sp) : Prop :=
  ∃ (f : Addr) (fd : FuncData) (ps : List Str), FnG P w K mg base CX0 k f fd ps sp ∧ mg x = some (.ref f) ∧ PySem.W.keepIn K (.ref f) = true ∧ Binds K fd ps []
/-- a def as the top has left it -/
def DefAt (K : PySem.W.Frag) (mg : Str → Option Value) (x : Str) (st : Stmt) (ps : List Str) : Prop :=
  ∃ (f : Addr) (fd : FuncData), mg x = some (.ref f) ∧ Fun K x x st f fd ∧ Binds K fd ps []
theorem defAt {K : PySem.W.Frag} {h : Heap} {mg : Str → Option Value} {x : Str} {st : Stmt} {ps : List Str} {f : Addr} {oc : Value} {od an : Option Addr} {osl : Array (Option Value)} {kV doc pm cdv ct : Value} (X : K.In h) (G : h.Ns mainGlobals mg)
    (hb : ∀ (kV doc pm : Value) (an : Option Addr) (cdv ct : Value) (us : List Value), us.length = ps.length → bindArgs (PySem.W.fnOf x x (defArgs st) (defBody st) (defScope st) .none kV doc pm an cdv ct) ⟨us, []⟩ = pure (ps.zip us))
    (a : PySem.W.nsIn K mainGlobals x = some (some (.ref f)))
    (l : K.lookup f = some ⟨oc, od, .func (PySem.W.fnOf x x (defArgs st) (defBody st) (defScope st) .none kV doc pm an cdv ct), osl⟩)
    (c : PySem.W.codeIn K cdv x = true) (k : PySem.W.keepIn K (.ref f) = true) : DefAt K mg x st ps :=
  ⟨f, _, PySem.W.mg_of X G a, fun_mk l c k, (fun_mk (st := st) l c k).binds hb⟩
section
variable {P : Program} {w : World} {K : PySem.W.Frag} {mg : Str → Option Value} {base : Heap}
/-- a def by its body -/
theorem DefAt.by {x : Str} {st : Stmt} {ps N : List Str} {k : Nat} {sp : Sp} (D : DefAt K mg x st ps) (S : FnScope N ps (defScope st)) (len : ∀ vs H Q E, sp vs H Q E → vs.length = ps.length)
    (inner : ∀ (f : Addr) (cd : Value) (A : Around), A.guards = some [] → ∀ (outer : List Env) (s : Shared) (H : Hp) (vs : List V) (Q : VK) (E : XK),
      Room k (A.deeper (envOfC x (defScope st) s.heap.objs.size f cd)) → sp vs H Q E →
      ∃ t, PSs (cxOf CX0 P w K mg base N x (defScope st) f cd A outer s H E).nox (defBody st) t ∧ t { nx := fun _ H' => Q .non H', rt := Q } (start N vs) H) :
    CalG P w K mg base (k + 1) x sp := by
  obtain ⟨f, fd, hm, F, hb⟩ := D
  exact ⟨f, fd, ps, defG0 F S len (inner f), hm, F.kp, hb⟩
end
section
variable {X : Cx} {k j : Nat} {sp : Sp} {x : Str} {p pos : Pos} {e : Expr} {es : List Expr} {t : TA}
theorem pe_cG (c : CalG X.prog X.w X.K X.mg X.base k x sp) (g : X.A.guards = some []) (hr : Room j X.A) (hk : k ≤ j) (ha : PA X (e :: es) t) (hg : Gl X x := by rfl)
    (hdb : (x == ("__debug__" : Str)) = false := by decide) (he : starEach (e :: es) X.env = (false, eval e X.env) :: starEach es X.env := by rfl)
    (hpl : (backTo pos (starEach es X.env)).any (·.1) = false := by rfl) : PE X (.Call (.Name x p) (e :: es) [] pos) (tCall sp [] E0 t) := by
  obtain ⟨f, fd, ps, F, hm, hkp, hb⟩ := c
  exact pe_callG F g (hr.mono hk) hg hm hkp hb .nil pass0 ha hdb he hpl
end
end Gk
/-! readings, one construct a lemma: what a term of the layer asks, from the value -/
namespace Rd
open PySem L2 PySem.Spec PyProof.Rows Gk
section
variable {K : PySem.W.Frag} {σ : L2.St} {H : Hp} {Q : VK} {QA : List V → Hp → Prop} {QB : Bool → Hp → Prop} {QH : Hp → Prop} {D : Ends} {i j : Int} {n : Nat} {v x y : V} {ta tb te : TE} {tt tu : TT} {t u : TS} {as ar : TA} {p q : Addr} {xs ys : List V} {z s : Str} {b c : Bool}
theorem var (h : σ[n]? = some (some v)) (k : Q v H) : tVar n σ H Q := ⟨v, h, k⟩
theorem cst (k : Q v H) : tC v σ H Q := k
theorem op {r : R2} (k : ta σ H fun x H1 => tb σ H1 fun y H2 => r x y H2 Q) : tOp r ta tb σ H Q := k
theorem un {r : V → Hp → VK → Prop} (k : ta σ H fun x H1 => r x H1 Q) : tUn r ta σ H Q := k
theorem i0 {g : Int → Int → V} (k : Q (g i j) H) : rI0 g (.int i) (.int j) H Q := ⟨i, j, rfl, rfl, k⟩
theorem ic {C : Int → Int → Prop} {g : Int → Int → V} (h : C i j) (k : Q (g i j) H) : rI C g (.int i) (.int j) H Q := ⟨i, j, rfl, rfl, h, k⟩
theorem u1 {g : Int → V} (k : Q (g i) H) : rU g (.int i) H Q := ⟨i, rfl, k⟩
theorem eq (h : scal x y = true) (k : Q (.bl (decide (x = y))) H) : rEq x y H Q := ⟨h, k⟩
theorem ne (h : scal x y = true) (k : Q (.bl (!decide (x = y))) H) : rNe x y H Q := ⟨h, k⟩
theorem ixL (h : SqL K H p xs) (a : atI xs i = some v) (k : Q v H) : rIxL K (.ref p) (.int i) H Q := ⟨p, xs, i, v, rfl, rfl, h, a, k⟩
theorem ixT (h : SqT K H p xs) (a : atI xs i = some v) (k : Q v H) : rIxT K (.ref p) (.int i) H Q := ⟨p, xs, i, v, rfl, rfl, h, a, k⟩
theorem ixS {m : Nat} (h : z.length ≤ sizeLine) (a : atI z.cps.toList i = some m) (k : Q (.str ⟨#[m]⟩) H) : rIxS (.str z) (.int i) H Q := ⟨z, i, m, rfl, rfl, h, a, k⟩
theorem setL {m : Nat} (h : H p = some (.lst xs)) (a : ixN xs.length i = some m) (k : QH (upd H p (.lst (xs.set m v)))) : rSetL (.ref p) (.int i) v H QH := ⟨p, xs, i, m, rfl, rfl, h, a, k⟩
theorem inL {neg : Bool} (h : SqL K H p xs) (hx : flatV x = true) (ha : xs.all flatV = true) (k : Q (.bl (if neg then !inV x xs else inV x xs)) H) : rIn K neg x (.ref p) H Q := ⟨p, xs, rfl, .inl h, hx, ha, k⟩
theorem slL {lo hi : Option Int} (h : SqL K H p xs) (k : ∀ q, H q = none → Q (.ref q) (upd H q (.lst (cutV xs lo hi)))) : rSlL K (.ref p) lo hi H Q := ⟨p, xs, rfl, h, k⟩
theorem slS {lo hi : Option Int} (h : z.length ≤ sizeLine) (k : Q (.str (cutS z lo hi)) H) : rSlS (.str z) lo hi H Q := ⟨z, rfl, h, k⟩
theorem cat (h : H p = some (.lst xs)) (h' : H q = some (.lst ys)) (l : xs.length + ys.length ≤ sizeLine) (k : ∀ r, H r = none → Q (.ref r) (upd H r (.lst (xs ++ ys)))) : rCat (.ref p) (.ref q) H Q := ⟨p, q, xs, ys, rfl, rfl, h, h', l, k⟩
theorem sl {r : V → Option Int → Option Int → Hp → VK → Prop} {tl th : TO} (k : te σ H fun x H1 => tl σ H1 fun l H2 => th σ H2 fun u H3 => r x l u H3 Q) : tSl r te tl th σ H Q := k
theorem noPart {QO : Option Int → Hp → Prop} (k : QO none H) : tNoPart σ H QO := k
theorem part {QO : Option Int → Hp → Prop} (k : te σ H fun x H1 => ∃ i, x = .int i ∧ QO (some i) H1) : tPart te σ H QO := k
theorem int_ {R : Int → Prop} (k : R i) : ∃ i', V.int i = .int i' ∧ R i' := ⟨i, rfl, k⟩
theorem bl_ {R : Bool → Prop} (k : R b) : ∃ c, V.bl b = .bl c ∧ R c := ⟨b, rfl, k⟩
theorem nil (k : QA [] H) : tNil σ H QA := k
theorem cons (k : te σ H fun x H1 => ar σ H1 fun xs H2 => QA (x :: xs) H2) : tCons te ar σ H QA := k
theorem cb {r : List V → Hp → VK → Prop} (k : as σ H fun vs H1 => r vs H1 Q) : tCB r as σ H Q := k
theorem call {sp : Sp} {dvs : List V} {E : XK} (k : as σ H fun vs H1 => sp (vs ++ dvs) H1 Q E) : tCall sp dvs E as σ H Q := k
theorem lst (k : as σ H fun xs H1 => xs.length ≤ sizeLine ∧ ∀ p, H1 p = none → Q (.ref p) (upd H1 p (.lst xs))) : tLst as σ H Q := k
theorem tup (k : as σ H fun xs H1 => xs.length ≤ sizeLine ∧ ∀ p, H1 p = none → Q (.ref p) (upd H1 p (.tup xs))) : tTup as σ H Q := k
theorem test (k : te σ H fun x H' => ∃ k, x = .bl k ∧ QB k H') : tTest te σ H QB := k
theorem tb_ (k : te σ H fun x H' => ∃ k, x = .bl k ∧ QB k H') : tB te σ H QB := k
theorem not_ (k : tt σ H fun c H1 => QB (!c) H1) : tNot tt σ H QB := k
theorem or_ (k : tt σ H fun c H1 => if c = true then QB true H1 else tu σ H1 QB) : tOr tt tu σ H QB := k
theorem and_ (k : tt σ H fun c H1 => if c = true then tu σ H1 QB else QB false H1) : tAnd tt tu σ H QB := k
theorem orV (k : ta σ H fun x H1 => ∃ c, x = .bl c ∧ if c = true then Q (.bl true) H1 else tb σ H1 Q) : tOrV ta tb σ H Q := k
theorem andV (k : ta σ H fun x H1 => ∃ c, x = .bl c ∧ if c = true then tb σ H1 Q else Q (.bl false) H1) : tAndV ta tb σ H Q := k
theorem notV (k : ta σ H fun x H1 => ∃ c, x = .bl c ∧ Q (.bl (!c)) H1) : tNotV ta σ H Q := k
theorem tif (k : tt σ H fun c H1 => if c = true then ta σ H1 Q else tb σ H1 Q) : tIf tt ta tb σ H Q := k
theorem yes (k : QB true H) : tYes σ H QB := k
theorem next (k : D.nx σ H) : tNext D σ H := k
theorem seq (k : t { D with nx := u D } σ H) : tSeq t u D σ H := k
theorem drop (k : te σ H fun _ H1 => D.nx σ H1) : tDrop te D σ H := k
theorem ret (k : te σ H D.rt) : tRet te D σ H := k
theorem retN (k : D.rt .non H) : tRetN D σ H := k
theorem ifs (k : tt σ H fun b H1 => if b = true then t D σ H1 else u D σ H1) : tIfS tt t u D σ H := k
theorem asg {g : TG} (k : te σ H fun x H1 => g x σ H1 D.nx) : tAsg te g D σ H := k
theorem gname {QS : L2.St → Hp → Prop} (k : QS (σ.set n (some v)) H) : gName n v σ H QS := k
theorem gsub {QS : L2.St → Hp → Prop} {st : V → V → V → Hp → (Hp → Prop) → Prop} (k : ta σ H fun o H1 => tb σ H1 fun i H2 => st o i v H2 fun H3 => QS σ H3) : gSub ta tb st v σ H QS := k
theorem par {m l : Nat} (k : as σ H fun vs H1 => ∃ v w, vs = [v, w] ∧ D.nx ((σ.set m (some v)).set l (some w)) H1) : tPar m l as D σ H := k
theorem bm {T : String} {r : V → List V → Hp → VK → Prop} (k : te σ H fun x H1 => tyV K T x H1 ∧ as σ H1 fun xs H2 => r x xs H2 Q) : tBM K T r te as σ H Q := k
theorem bm0 {T : String} {r : V → List V → Hp → VK → Prop} (k : te σ H fun x H1 => tyV K T x H1 ∧ r x [] H1 Q) : tBM0 K T r te σ H Q := k
theorem app (h : H p = some (.lst xs)) (l : xs.length < sizeLine) (k : Q .non (upd H p (.lst (xs ++ [v])))) : rAppend (.ref p) [v] H Q := ⟨p, xs, v, rfl, rfl, h, l, k⟩
theorem ty_list (h : H p = some (.lst xs)) : tyV K "list" (.ref p) H := .inl ⟨rfl, xs, SqL.of h⟩
theorem int1 {R : Int → Prop} {R2 : Bool → Prop} (k : R i) : (∃ j, [V.int i] = [.int j] ∧ R j) ∨ ∃ k, [V.int i] = [.bl k] ∧ R2 k := .inl ⟨i, rfl, k⟩
theorem intB {R : Int → Prop} {R2 : Bool → Prop} (k : R2 b) : (∃ j, [V.bl b] = [.int j] ∧ R j) ∨ ∃ k, [V.bl b] = [.bl k] ∧ R2 k := .inr ⟨b, rfl, k⟩
theorem two {R : Int → Int → Prop} (k : R i j) : ∃ i' j', [V.int i, .int j] = [.int i', .int j'] ∧ R i' j' := ⟨i, j, rfl, k⟩
theorem one {R : Int → Prop} (k : R i) : ∃ i', [V.int i] = [.int i'] ∧ R i' := ⟨i, rfl, k⟩
theorem lenL {R : List V → Prop} (h : SqL K H p xs) (k : R xs) : ∃ p' ys, [V.ref p] = [.ref p'] ∧ (SqL K H p' ys ∨ SqT K H p' ys) ∧ R ys := ⟨p, xs, rfl, .inl h, k⟩
theorem lenS {R : Str → Prop} (h : z.length ≤ sizeLine) (k : R z) : ∃ z', [V.str z] = [.str z'] ∧ z'.length ≤ sizeLine ∧ R z' := ⟨z, rfl, h, k⟩
theorem andr {R : Prop} (k : R) : x = x ∧ R := ⟨rfl, k⟩
theorem str_ {R : Str → Prop} (k : R z) : ∃ c, V.str z = .str c ∧ R c := ⟨z, rfl, k⟩
theorem dec {c A B : Prop} [Decidable c] (h1 : c → A) (h2 : ¬ c → B) : if decide c = true then A else B := by
  by_cases h : c
  · rw [decide_eq_true h]; exact h1 h
  · rw [decide_eq_false h, if_neg Bool.false_ne_true]; exact h2 h
theorem ndec {c A B : Prop} [Decidable c] (h1 : ¬ c → A) (h2 : c → B) : if (!decide c) = true then A else B := by
  by_cases h : c
  · rw [decide_eq_true h]; exact h2 h
  · rw [decide_eq_false h]; exact h1 h
theorem tt_ {A B : Prop} (h : A) : if true = true then A else B := h
theorem ff_ {A B : Prop} (h : B) : if false = true then A else B := iteF h
theorem bool {b : Bool} {A B : Prop} (h1 : b = true → A) (h2 : b = false → B) : if b = true then A else B := by
  cases b with
  | true => exact h1 rfl
  | false => rw [if_neg Bool.false_ne_true]; exact h2 rfl
theorem fm {i m : Int} (m0 : 0 < m) : 0 ≤ i.fmod m ∧ i.fmod m < m := by
  rw [Int.fmod_eq_emod_of_nonneg i (Int.le_of_lt m0)]
  exact ⟨Int.emod_nonneg i (by omega), Int.emod_lt_of_pos i m0⟩
theorem atN {α : Type} {xs : List α} {i : Int} {v : α} (h0 : 0 ≤ i) (h : xs[i.toNat]? = some v) : atI xs i = some v := by
  have e : ((i.toNat : Nat) : Int) = i := Int.toNat_of_nonneg h0
  rw [← e]
  exact atI_nat h
theorem at0 {α : Type} {xs : List α} {v : α} : atI (v :: xs) 0 = some v := atN (Int.le_refl 0) rfl
theorem at_int {ns : List Int} {i : Int} (h0 : 0 ≤ i) (h : i < ((ns.map V.int).length : Int)) : ∃ c, atI (ns.map V.int) i = some (.int c) := by
  rw [List.length_map] at h
  have hk : i.toNat < ns.length := by omega
  exact ⟨ns[i.toNat], atN h0 (by simp [hk])⟩
theorem sz {n : Nat} (h : n ≤ 100000) : n ≤ sizeLine := Nat.le_trans h (by decide)
theorem szl {n : Nat} (h : n < 100000) : n < sizeLine := Nat.lt_of_lt_of_le h (by decide)
end
section
variable {X : Cx}
def rLenK (K : PySem.W.Frag) : List V → Hp → VK → Prop := fun xs H Q => ∃ p ys, xs = [.ref p] ∧ (SqL K H p ys ∨ SqT K H p ys) ∧ Q (.int ys.length) H
theorem callLen : CallR X (.builtin "len") (rLenK X.K) := call_len_seq
def rListK (K : PySem.W.Frag) : List V → Hp → VK → Prop := fun xs H Q => ∃ p ys, xs = [.ref p] ∧ (SqL K H p ys ∨ SqT K H p ys) ∧ ∀ l, H l = none → Q (.ref l) (upd H l (.lst ys))
theorem callList : CallR X (.type "list") (rListK X.K) := call_list_of
def tTru (K : PySem.W.Frag) (ta : TE) : TT := fun σ H Q => ta σ H fun x H' => ∃ k, TruV K x H' k ∧ Q k H'
theorem ptTru {K : PySem.W.Frag} {e : Expr} {ta : TE} (h : X.K = K) (p : PT X e fun σ H Q => ta σ H fun x H' => ∃ k, TruV X.K x H' k ∧ Q k H') : PT X e (tTru K ta) := by
  subst h
  exact p
variable {K : PySem.W.Frag} {σ : L2.St} {H : Hp} {Q : VK} {QB : Bool → Hp → Prop} {p : Addr} {xs : List V} {ta : TE}
theorem lenK (h : SqL K H p xs) (k : Q (.int xs.length) H) : rLenK K [.ref p] H Q := ⟨p, xs, rfl, .inl h, k⟩
theorem lenT (h : SqT K H p xs) (k : Q (.int xs.length) H) : rLenK K [.ref p] H Q := ⟨p, xs, rfl, .inr h, k⟩
theorem listK (h : SqL K H p xs) (k : ∀ l, H l = none → Q (.ref l) (upd H l (.lst xs))) : rListK K [.ref p] H Q := ⟨p, xs, rfl, .inl h, k⟩
theorem tru (k : ta σ H fun x H' => ∃ k, TruV K x H' k ∧ QB k H') : tTru K ta σ H QB := k
theorem truL {R : Bool → Prop} (h : SqL K H p xs) (k : R (!xs.isEmpty)) : ∃ k, TruV K (.ref p) H k ∧ R k := ⟨_, .inl ⟨xs, h, rfl⟩, k⟩
theorem any_ {bs : List Bool} (h : SqL K H p (bs.map V.bl)) (k : Q (.bl (bs.any id)) H) : rAny K [.ref p] H Q := ⟨p, bs, rfl, h, k⟩
theorem all_ {bs : List Bool} (h : SqL K H p (bs.map V.bl)) (k : Q (.bl (bs.all id)) H) : rAll K [.ref p] H Q := ⟨p, bs, rfl, h, k⟩
theorem repr_ {v : V} {d : PyData} (h : Dp K H v d) (h1 : d.showable = true) (h2 : d.hasDict = false) (h3 : d.depth ≤ 60) (h4 : d.shown.length ≤ sizeLine) (k : Q (.str d.shown) H) : rRepr K [v] H Q := ⟨v, d, rfl, h, h1, h2, h3, h4, k⟩
theorem eqD {x y : V} {d e : PyData} (hd : Dp K H x d) (he : Dp K H y e) (h1 : SeqAt.shaped d = true) (h2 : SeqAt.shaped e = true) (k : Q (.bl (PyData.eqv d e)) H) : rEqD K x y H Q := ⟨d, e, hd, he, h1, h2, k⟩
theorem neD {x y : V} {d e : PyData} (hd : Dp K H x d) (he : Dp K H y e) (h1 : SeqAt.shaped d = true) (h2 : SeqAt.shaped e = true) (k : Q (.bl (!PyData.eqv d e)) H) : rNeD K x y H Q := ⟨d, e, hd, he, h1, h2, k⟩
end
end Rd
set_option Elab.async false
set_option linter.all false
set_option maxRecDepth 100000
set_option maxHeartbeats 8000000
open PySem L2 Gk
local macro_rules | `(tactic| walk_at "look") => `(tactic| first
  | assumption
  | exact upd_same
  | exact SqL.of (by assumption)
  | exact SqL.of upd_same)
local macro_rules | `(tactic| walk_at "cond") => `(tactic| first | decide | (show _ ∨ _; right; split <;> decide) | (show _ ∧ _; constructor <;> omega) | (show _ ∨ _; left; constructor <;> omega) | (show _ ∨ _; right; constructor <;> omega) | (show _ ≠ _; omega) | (show _ < _; omega))
local macro_rules | `(tactic| walk_at "rd") => `(tactic| (with_reducible first
  | refine Rd.var rfl ?_ | refine Rd.cst ?_ | refine Rd.op ?_ | refine Rd.un ?_ | refine Rd.i0 ?_ | refine Rd.u1 ?_ | refine Rd.cons ?_ | refine Rd.nil ?_
  | refine Rd.seq ?_ | refine Rd.ifs ?_ | refine Rd.asg ?_ | refine Rd.gname ?_ | refine Rd.gsub ?_ | refine Rd.ret ?_ | refine Rd.retN ?_ | refine Rd.drop ?_ | refine Rd.next ?_
  | refine Rd.test ?_ | refine Rd.tb_ ?_ | refine Rd.not_ ?_ | refine Rd.or_ ?_ | refine Rd.and_ ?_ | refine Rd.orV ?_ | refine Rd.andV ?_ | refine Rd.notV ?_ | refine Rd.tif ?_ | refine Rd.yes ?_
  | refine Rd.cb ?_ | refine Rd.call ?_ | refine Rd.sl ?_ | refine Rd.noPart ?_ | refine Rd.part ?_ | refine Rd.int_ ?_ | refine Rd.bl_ ?_
  | refine Rd.eq rfl ?_ | refine Rd.ne rfl ?_ | refine Rd.lst ?_ | refine Rd.tup ?_ | refine Rd.par ?_ | refine Rd.bm ?_ | refine Rd.bm0 ?_
  | refine Rd.int1 ?_ | refine Rd.intB ?_ | refine Rd.two ?_ | refine Rd.one ?_ | refine Rd.andr ?_ | refine Rd.str_ ?_
  | (refine Rd.ic ?k1 ?_; (case k1 => with_unfolding_all walk_at "cond"))
  | (refine' Rd.ixL ?k1 ?k2 ?_; (case k1 => with_unfolding_all walk_at "look"); (case k2 => with_unfolding_all (first | rfl | exact Rd.at0)))
  | (refine' Rd.setL ?k1 ?k2 ?_; (case k1 => with_unfolding_all walk_at "look"); (case k2 => with_unfolding_all rfl))
  | (refine' Rd.lenL ?k1 ?_; (case k1 => with_unfolding_all walk_at "look"))
  | (refine' Rd.lenK ?k1 ?_; (case k1 => with_unfolding_all walk_at "look"))
  | refine Rd.tru ?_ | (refine' Rd.truL ?k1 ?_; (case k1 => with_unfolding_all walk_at "look"))))
namespace Rd
open PySem.Spec PyProof.Rows
section
variable {K : PySem.W.Frag} {σ : L2.St} {H H' : Hp} {α β : Type}
theorem sNew {p : Addr} {o : HO} (hp : H p = none) : Same H (upd H p o) := fun b u e => by
  rw [upd_ne (ne_of_none e hp)]
  exact e
theorem sMut {p : Addr} {o : HO} (h : Same H H') (hp : H p = none) : Same H (upd H' p o) := fun b u e => by
  rw [upd_ne (ne_of_none e hp)]
  exact h b u e
theorem pair_get {F : α → β → Prop} : ∀ {as : List α} {bs : List β} {i : Nat} {b : β}, Paired F as bs → bs[i]? = some b → ∃ a, as[i]? = some a ∧ F a b
  | _, _, i, b, .nil, h => by simp at h
  | a :: as, c :: bs, 0, b, .cons h hs, e => by
    obtain rfl : c = b := by simpa using e
    exact ⟨a, rfl, h⟩
  | a :: as, c :: bs, i + 1, b, .cons h hs, e => by
    have := pair_get hs (i := i) (b := b) (by simpa using e)
    simpa using this
theorem pair_len {F : α → β → Prop} : ∀ {as : List α} {bs : List β}, Paired F as bs → as.length = bs.length
  | _, _, .nil => rfl
  | _, _, .cons _ t => by simp [pair_len t]
theorem pair_imp {F G : α → β → Prop} (f : ∀ a b, F a b → G a b) : ∀ {as : List α} {bs : List β}, Paired F as bs → Paired G as bs
  | _, _, .nil => .nil
  | _, _, .cons h t => .cons (f _ _ h) (pair_imp f t)
theorem pair_map {f : α → V} : ∀ {as : List α} {ys : List V}, Paired (fun a y => y = f a) as ys → ys = as.map f
  | _, _, .nil => rfl
  | _, _, .cons h t => by rw [h, pair_map t]; rfl
/-- a relation of what is meant to a value in a heap that stays true as the heap grows -/
def Stays (B : β → V → Hp → Prop) : Prop := ∀ b x H H', Same H H' → B b x H → B b x H'
theorem take_succ {xs : List α} {i : Nat} {x : α} (h : xs[i]? = some x) : xs.take (i + 1) = xs.take i ++ [x] := by
  rw [List.take_succ, h]
  rfl
theorem sUpd {D : Addr} {o : HO} (s : Same H H') : Same (upd H D o) (upd H' D o) := fun b u e => by
  by_cases hb : b = D
  · subst hb; rw [upd_same] at e ⊢; exact e
  · rw [upd_ne hb] at e ⊢; exact s b u e
theorem upd_id {D : Addr} {o : HO} (h : H D = some o) : upd H D o = H := by
  funext b
  by_cases hb : b = D
  · subst hb; rw [upd_same, h]
  · rw [upd_ne hb]
/-- what holds of y in the heap behind, whatever the list in the making (which the heap ahead, H, does not know, and H1 does) holds -/
def Off (H H1 H2 : Hp) (B : V → Hp → Prop) (y : V) : Prop := ∀ D o, H D = none → H1 D ≠ none → B y (L2.upd H2 D o)
theorem off_old {H1 H2 : Hp} {B : V → Hp → Prop} {y : V} (hB : ∀ x H H', Same H H' → B x H → B x H') (s : Same H H2) (h : B y H) : Off H H1 H2 B y :=
  fun D o hD _ => hB _ _ _ (sMut s hD) h
theorem off_any {H1 H2 : Hp} {B : V → Prop} {y : V} (h : B y) : Off H H1 H2 (fun y _ => B y) y := fun D o hD _ => h
/-- a comprehension over a list of things -/
theorem lcL {tl te : TE} {tt : TT} {vs : List Nat} {j : Nat} {Q : VK} {a : Addr} {xs : List V} {bs : List α} (A : α → V → Hp → Prop) (B : β → V → Hp → Prop) (f : α → Bool) (g : α → β)
    (htl : ∀ R : V → Hp → Prop, R (.ref a) H → tl σ H R) (hl : SqL K H a xs) (hA : Stays A) (hB : Stays B) (pr : Paired (fun b x => A b x H) bs xs) (hz : xs.length ≤ 10000)
    (hw : ∀ x, wipe ((wipe σ vs).set j (some x)) vs = wipe σ vs)
    (turn : ∀ b x H1 (R : Bool → Hp → Prop), b ∈ bs → A b x H → A b x H1 → Same H H1 → (∀ H2, Same H1 H2 → R (f b) H2) → tt ((wipe σ vs).set j (some x)) H1 R)
    (elem : ∀ b x H1 (R : VK), b ∈ bs → f b = true → A b x H → A b x H1 → Same H H1 → (∀ y H2, Same H1 H2 → Off H H1 H2 (B (g b)) y → R y H2) → te ((wipe σ vs).set j (some x)) H1 R)
    (fin : ∀ D ys H1, H D = none → Same H H1 → H1 D = some (.lst ys) → Paired (fun c y => B c y H1) ((bs.filter f).map g) ys → Q (.ref D) H1) :
    tLc (iList K tl) (gName j) tt te vs σ H Q := by
  have hlen := pair_len pr
  refine htl _ ⟨a, rfl, ⟨xs, hl⟩, fun D hD => ?_⟩
  refine lc_list (K := K) (a := a) (xs := xs) (fun i H1 => ∃ ys, H1 D = some (.lst ys) ∧ ys.length ≤ i ∧ Same H H1 ∧ ∀ o, Paired (fun c y => B c y (upd H1 D o)) (((bs.take i).filter f).map g) ys) ?_ ?_ ?_ ?_
  · exact ⟨[], upd_same, Nat.le_refl _, sNew hD, fun _ => .nil⟩
  · rintro i H1 hi ⟨ys, _, _, s, _⟩
    exact s.seq hl
  · rintro i x H1 hx ⟨ys, hd, hy, s, pq⟩
    have hi : i < xs.length := (List.getElem?_eq_some_iff.mp hx).1
    obtain ⟨b, hb, hab⟩ := pair_get pr hx
    have mem : b ∈ bs := List.mem_of_getElem? hb
    have tk : bs.take (i + 1) = bs.take i ++ [b] := take_succ hb
    show wipe ((wipe σ vs).set j (some x)) vs = wipe σ vs ∧ _
    refine ⟨hw x, turn b x H1 _ mem hab (hA _ _ _ _ s hab) s fun H2 s2 => ?_⟩
    cases hf : f b with
    | false =>
      rw [if_neg Bool.false_ne_true]
      refine ⟨ys, s2 _ _ hd, by omega, s.trans s2, fun o => ?_⟩
      rw [tk, List.filter_append, List.filter_cons_of_neg (by simp [hf]), List.filter_nil, List.append_nil]
      exact pair_imp (fun c y => hB c y _ _ (sUpd s2)) (pq o)
    | true =>
      rw [if_pos rfl]
      refine elem b x H2 _ mem hf hab (hA _ _ _ _ (s.trans s2) hab) (s.trans s2) fun y H3 s3 hy3 => ?_
      have hd3 := s3 _ _ (s2 _ _ hd)
      have s4 : Same H H3 := (s.trans s2).trans s3
      refine ⟨ys, hd3, szl (by omega), ys ++ [y], upd_same, by rw [List.length_append]; simp; omega, sMut s4 hD, fun o => ?_⟩
      rw [tk, List.filter_append, List.filter_cons_of_pos (by simp [hf]), List.filter_nil, List.map_append, upd_upd]
      exact (pair_imp (fun c z h => hB c z _ _ (sUpd (s2.trans s3)) h) (pq o)).snoc (hy3 D o hD (by rw [s2 _ _ hd]; simp))
  · rintro H1 ⟨ys, hd, hy, s, pq⟩
    refine fin D ys H1 hD s hd ?_
    have pq := pq (.lst ys)
    rw [← hlen, List.take_length, upd_id hd] at pq
    exact pq
end
end Rd
namespace Rd
open PySem.Spec PyProof.Rows
section
variable {K : PySem.W.Frag} {σ : L2.St} {H H' : Hp} {Q : VK} {D : Ends} {z : Str}
/-! ### comprehensions and loops over ranges -/
def LcGo (J : It) (g : TG) (tt : TT) (te : TE) (vs : List Nat) (σ : L2.St) (Q : VK) (H1 : Hp) : Prop := ∀ D, H1 D = none → ∃ W : Nat → Nat → Hp → Prop, (∃ m, W 0 m (upd H1 D (.lst []))) ∧ ∀ i m H, W i m H →
  (J.stop i H ∧ Q (.ref D) H) ∨ (J.go i H ∧ ∃ Nx : Hp → Prop, (∀ H', Nx H' → ∃ m', m' < m ∧ W (i + 1) m' H') ∧ ∀ x H', J.yld i H x H' → g x (wipe σ vs) H' fun σ2 H2 => wipe σ2 vs = wipe σ vs ∧ tt σ2 H2 fun b H3 =>
    if b = true then te σ2 H3 fun y H4 => ∃ acc, H4 D = some (.lst acc) ∧ acc.length < sizeLine ∧ Nx (upd H4 D (.lst (acc ++ [y]))) else Nx H3)
theorem lcR {ta : TA} {g : TG} {tt : TT} {te : TE} {vs : List Nat} (k : ta σ H fun xs H1 => ∃ j : Int, xs = [.int j] ∧ -(2 ^ 62) ≤ j ∧ j < 2 ^ 62 ∧ LcGo (Itr 0 j.toNat) g tt te vs σ Q H1) : tLc (iRng1 ta) g tt te vs σ H Q := k
theorem rng {i : Int} {R : Prop} (h0 : 0 ≤ i) (h1 : i ≤ 100000) (k : R) : -(2 ^ 62) ≤ i ∧ i < 2 ^ 62 ∧ R := ⟨by omega, by omega, k⟩
/-- no test; each turn adds one thing -/
theorem goR {n j : Nat} {te : TE} {vs : List Nat} (Pv : Addr → Nat → List V → Hp → Prop) (h0 : ∀ D, H D = none → Pv D 0 [] (upd H D (.lst []))) (hw : ∀ x, wipe ((wipe σ vs).set j (some x)) vs = wipe σ vs) (hn : n ≤ 100000)
    (turn : ∀ D i acc H1, H D = none → i < n → acc.length = i → H1 D = some (.lst acc) → Pv D i acc H1 → ∀ R : VK, (∀ y H2, H2 D = some (.lst acc) → Pv D (i + 1) (acc ++ [y]) (upd H2 D (.lst (acc ++ [y]))) → R y H2) → te ((wipe σ vs).set j (some (.int (i : Int)))) H1 R)
    (fin : ∀ D acc H1, H D = none → acc.length = n → H1 D = some (.lst acc) → Pv D n acc H1 → Q (.ref D) H1) : LcGo (Itr 0 n) (gName j) tYes te vs σ Q H := by
  intro D hD
  refine lc_range (lo := 0) (n := n) (fun i H1 => ∃ acc, acc.length = i ∧ H1 D = some (.lst acc) ∧ Pv D i acc H1) ⟨[], rfl, upd_same, h0 D hD⟩ ?_ ?_
  · rintro i H1 hi ⟨acc, ha, hd, p⟩
    have e0 : (0 : Int) + (i : Int) = (i : Int) := Int.zero_add _
    rw [e0]
    refine ⟨hw _, ?_⟩
    refine turn D i acc H1 hD hi ha hd p _ fun y H2 h1 h2 => ?_
    exact ⟨acc, h1, szl (by omega), acc ++ [y], by simp [ha], upd_same, h2⟩
  · rintro H1 ⟨acc, ha, hd, p⟩
    exact fin D acc H1 hD ha hd p
def ForGo (J : It) (g : TG) (tb : TS) (D : Ends) (σ : L2.St) (H1 : Hp) : Prop := ∃ W : Nat → Nat → L2.St → Hp → Prop, (∃ m, W 0 m σ H1) ∧ ∀ i m σ H, W i m σ H →
  (J.stop i H ∧ D.nx σ H) ∨ (J.go i H ∧ ∃ N : L2.St → Hp → Prop, (∀ σ' H', N σ' H' → ∃ m', m' < m ∧ W (i + 1) m' σ' H') ∧ ∀ x H', J.yld i H x H' → g x σ H' fun σ2 H2 => tb { D with nx := N, ct := N, bk := D.nx } σ2 H2)
theorem forR {ta : TA} {g : TG} {tb : TS} (k : ta σ H fun xs H1 => ∃ j : Int, xs = [.int j] ∧ -(2 ^ 62) ≤ j ∧ j < 2 ^ 62 ∧ ForGo (Itr 0 j.toNat) g tb D σ H1) : tFor (iRng1 ta) g tb D σ H := k
theorem forGo {n j : Nat} {tb : TS} (Pv : Nat → L2.St → Hp → Prop) (h0 : Pv 0 σ H)
    (turn : ∀ i σ1 H1, i < n → Pv i σ1 H1 → tb { D with nx := Pv (i + 1), ct := Pv (i + 1), bk := D.nx } (σ1.set j (some (.int (i : Int)))) H1) (fin : ∀ σ1 H1, Pv n σ1 H1 → D.nx σ1 H1) : ForGo (Itr 0 n) (gName j) tb D σ H :=
  for_range (lo := 0) (n := n) Pv h0 (fun i σ1 H1 hi p => by
    show tb _ (σ1.set j (some (.int (0 + (i : Int))))) H1
    rw [Int.zero_add]
    exact turn i σ1 H1 hi p) fin
theorem adds {a b : Str} {R : Str → Str → Prop} (h : a.length + b.length ≤ 100000) (k : R a b) : ∃ i j, V.str a = .str i ∧ V.str b = .str j ∧ i.length + j.length ≤ sizeLine ∧ R i j := ⟨a, b, rfl, rfl, sz h, k⟩
theorem gtup {n : Nat} {t : TGs} {a : Addr} {xs : List V} {QS : L2.St → Hp → Prop} (h : SqT K H a xs) (hl : xs.length = n) (k : t xs σ H QS) : gTup K n t (.ref a) σ H QS := ⟨a, xs, rfl, h, hl, k⟩
theorem gcons {v : V} {r : List V} {t : TG} {u : TGs} {QS : L2.St → Hp → Prop} (k : t v σ H fun σ' H' => u r σ' H' QS) : gCons t u (v :: r) σ H QS := ⟨v, r, rfl, k⟩
theorem gnil {QS : L2.St → Hp → Prop} (k : QS σ H) : gNil [] σ H QS := ⟨rfl, k⟩
theorem cut {t u : TS} (Mid : L2.St → Hp → Prop) (h1 : t { D with nx := Mid } σ H) (h2 : ∀ σ' H', Mid σ' H' → u D σ' H') : C8.tCut t u D σ H := ⟨Mid, h1, h2⟩
/-- a method of a text -/
theorem m1 {r : V → List V → Hp → VK → Prop} {to te : TE} (k : to σ H fun x H1 => (∃ a, x = .str a) ∧ te σ H1 fun y H2 => r x [y] H2 Q) : tM1 r to te σ H Q := k
theorem isStr {R : Prop} (k : R) : (∃ a, V.str z = .str a) ∧ R := ⟨⟨z, rfl⟩, k⟩
end
end Rd
namespace W6
open L2 TL
/-! ### texts with a bound -/
structure W (n : Nat) (w : Str) : Prop where
  len : w.length ≤ n
  low : ∀ c ∈ tl w, c < 1000
theorem tl_len (w : Str) : (tl w).length = w.length := by show w.cps.toList.length = w.cps.size; simp
theorem W.app {n m : Nat} {a b : Str} (ha : W n a) (hb : W m b) : W (n + m) (a ++ b) := by
  have e : tl (a ++ b) = tl a ++ tl b := by show (a.cps ++ b.cps).toList = _; simp
  refine ⟨?_, fun c hc => ?_⟩
  · rw [← tl_len, e, List.length_append, tl_len, tl_len]
    exact Nat.add_le_add ha.len hb.len
  · rw [e, List.mem_append] at hc
    exact hc.elim (ha.low c) (hb.low c)
theorem W.cut {n : Nat} {a : Str} (ha : W n a) (lo hi : Option Int) : W n (cutS a lo hi) :=
  ⟨Nat.le_trans (cutS_length a lo hi) ha.len, fun c hc => ha.low c (by
    have hc : c ∈ ((a.cps.toList.drop (HT.sIx a.length 0 lo)).take (HT.sIx a.length a.length hi - HT.sIx a.length 0 lo)) := by simpa [cutS] using hc
    exact List.mem_of_mem_drop (List.mem_of_mem_take hc))⟩
theorem joinL_nil : ∀ ps : List (List Nat), joinL [] ps = ps.flatten
  | [] => rfl
  | [p] => by simp [joinL]
  | p :: q :: r => by rw [joinL, joinL_nil (q :: r)]; simp
theorem W.join {cs : List Str} (h : ∀ c ∈ cs, W 1 c) : W cs.length (Txt.join "" cs) := by
  have e : tl (Txt.join "" cs) = (cs.map tl).flatten := by
    rw [join_eq, tl_join]
    exact joinL_nil _
  refine ⟨?_, fun c hc => ?_⟩
  · rw [← tl_len, e]
    clear e
    induction cs with
    | nil => simp
    | cons a cs ih =>
      rw [List.map_cons, List.flatten_cons, List.length_append, List.length_cons, tl_len]
      have := ih fun c hc => h c (List.mem_cons_of_mem _ hc)
      have := (h a List.mem_cons_self).len
      omega
  · rw [e, List.mem_flatten] at hc
    obtain ⟨l, hl, hc⟩ := hc
    obtain ⟨s, hs, rfl⟩ := List.mem_map.mp hl
    exact (h s hs).low c hc
theorem W.mono {n m : Nat} {a : Str} (h : W n a) (l : n ≤ m) : W m a := ⟨Nat.le_trans h.len l, h.low⟩
theorem W.sum {cs : List Str} (h : ∀ c ∈ cs, W 1 c) : (cs.map (·.length)).sum ≤ cs.length := by
  induction cs with
  | nil => exact Nat.le_refl _
  | cons a cs ih =>
    rw [List.map_cons, List.sum_cons, List.length_cons]
    have := ih fun c hc => h c (List.mem_cons_of_mem _ hc)
    have := (h a List.mem_cons_self).len
    omega
theorem W.sign {n : Nat} {z : Str} {i : Int} (h : W n z) (h0 : 0 ≤ i) (h1 : i < (z.length : Int)) : ∃ c, atI z.cps.toList i = some c ∧ W 1 ⟨#[c]⟩ := by
  have l : i.toNat < z.cps.toList.length := by
    have e : z.cps.toList.length = z.length := tl_len z
    omega
  refine ⟨z.cps.toList[i.toNat], Rd.atN h0 (List.getElem?_eq_getElem l), Nat.le_refl _, fun c hc => ?_⟩
  have e : c = z.cps.toList[i.toNat] := by simpa using hc
  rw [e]
  exact h.low _ (List.getElem_mem l)
end W6
local macro_rules | `(tactic| walk_at "look") => `(tactic| first
  | assumption
  | exact upd_same
  | exact SqL.of (by assumption)
  | exact SqL.of upd_same)
local macro_rules | `(tactic| walk_at "cond") => `(tactic| first | decide | (show _ ∨ _; right; split <;> decide) | (show _ ∧ _; constructor <;> omega) | (show _ ∨ _; left; constructor <;> omega) | (show _ ∨ _; right; constructor <;> omega) | (show _ ≠ _; omega) | (show _ < _; omega))
local macro_rules | `(tactic| walk_at "rd") => `(tactic| (with_reducible first
  | refine Rd.var rfl ?_ | refine Rd.cst ?_ | refine Rd.op ?_ | refine Rd.un ?_ | refine Rd.i0 ?_ | refine Rd.u1 ?_ | refine Rd.cons ?_ | refine Rd.nil ?_
  | refine Rd.seq ?_ | refine Rd.ifs ?_ | refine Rd.asg ?_ | refine Rd.gname ?_ | refine Rd.gsub ?_ | refine Rd.ret ?_ | refine Rd.retN ?_ | refine Rd.drop ?_ | refine Rd.next ?_
  | refine Rd.test ?_ | refine Rd.tb_ ?_ | refine Rd.not_ ?_ | refine Rd.or_ ?_ | refine Rd.and_ ?_ | refine Rd.orV ?_ | refine Rd.andV ?_ | refine Rd.notV ?_ | refine Rd.tif ?_ | refine Rd.yes ?_
  | refine Rd.cb ?_ | refine Rd.call ?_ | refine Rd.sl ?_ | refine Rd.noPart ?_ | refine Rd.part ?_ | refine Rd.int_ ?_ | refine Rd.bl_ ?_
  | refine Rd.eq rfl ?_ | refine Rd.ne rfl ?_ | refine Rd.lst ?_ | refine Rd.tup ?_ | refine Rd.par ?_ | refine Rd.bm ?_ | refine Rd.bm0 ?_ | refine Rd.m1 ?_ | refine Rd.isStr ?_ | refine Rd.lcR ?_ | refine Rd.forR ?_ | refine Rd.gcons ?_ | refine Rd.gnil ?_
  | refine Rd.int1 ?_ | refine Rd.intB ?_ | refine Rd.two ?_ | refine Rd.one ?_ | refine Rd.andr ?_ | refine Rd.str_ ?_
  | (refine Rd.ic ?k1 ?_; (case k1 => with_unfolding_all walk_at "cond"))
  | (refine' Rd.ixL ?k1 ?k2 ?_; (case k1 => with_unfolding_all walk_at "look"); (case k2 => with_unfolding_all (first | rfl | exact Rd.at0)))
  | (refine' Rd.setL ?k1 ?k2 ?_; (case k1 => with_unfolding_all walk_at "look"); (case k2 => with_unfolding_all rfl))
  | (refine' Rd.lenL ?k1 ?_; (case k1 => with_unfolding_all walk_at "look"))
  | (refine' Rd.lenK ?k1 ?_; (case k1 => with_unfolding_all walk_at "look"))
  | refine Rd.tru ?_ | (refine' Rd.truL ?k1 ?_; (case k1 => with_unfolding_all walk_at "look"))))

namespace Ex
open PySem.Spec PyProof.Rows
/-! ### an own error with one field, f: def __init__(self, f): self.f = f -/
def spInit (C : Addr) (f : Str) : Sp := fun vs H Q _ => ∃ (a : Addr) (v : V), vs = [.ref a, v] ∧ H a = some (exo a C none) ∧ ∀ dx, H dx = none → dx ≠ a → Q .non (upd (upd H dx (exd dx [(f, v)])) a (exo a C (some dx)))
structure ErrC (K : PySem.W.Frag) (mg : Str → Option Value) (x f : Str) (C : Addr) : Prop where
  t : OexC K C
  xf : XfC K C
  ic : ExcC K C
  no : PySem.W.findIn K (.ref C) f = some none
  g : mg x = some (.ref C)
  te : PySem.W.exmOne K (.ref C) (.ref C) = some true
/-- its __init__ as a def that keeps its promise -/
def InitOk (P : Program) (w : World) (K : PySem.W.Frag) (mg : Str → Option Value) (base : Heap) (f : Str) (C : Addr) : Prop :=
  ∃ (fI : Addr) (fd : FuncData), PySem.W.findIn K (.ref C) "__init__" = some (some (.ref fI)) ∧ PySem.W.typeIn K (.ref fI) = some (.type "function") ∧ FnOk P w K mg base CX0 1 fI fd ["self", f] (spInit C f) ∧ Binds K fd ["self", f] []
theorem made_heap {H : Hp} {a d : Addr} {f : Str} {v : V} {C : Addr} (ha : H a = none) (hda : d ≠ a) :
    upd (L2.del (upd (upd (upd H a (exo a C none)) d (exd d [(f, v)])) a (exo a C (some d))) a) d (.xd [(f, v)]) = upd H d (.xd [(f, v)]) := by
  funext b
  by_cases hb : b = d
  · subst hb; rw [upd_same, upd_same]
  · rw [upd_ne hb, upd_ne hb]
    by_cases hba : b = a
    · subst hba; rw [del_same, ha]
    · rw [del_ne hba, upd_ne hba, upd_ne hb, upd_ne hba]
section
variable {X : Cx} {σ : L2.St} {H : Hp}
theorem pmkE {x f : Str} {C : Addr} {k : Nat} {e : Expr} {es : List Expr} {p pos : Pos} {ta : TA} (T : ErrC X.K X.mg x f C) (M : InitOk X.prog X.w X.K X.mg X.base f C) (hr : Room k X.A) (hk : 2 ≤ k) (ha : PA X (e :: es) ta) (hg : Gl X x := by rfl)
    (hdb : (x == ("__debug__" : Str)) = false := by decide) (he : starEach (e :: es) X.env = (false, eval e X.env) :: starEach es X.env := by rfl) (hpl : (backTo pos (starEach es X.env)).any (·.1) = false := by rfl) :
    PMk X (.Call (.Name x p) (e :: es) [] pos) (tMkO C (spInit C f) [] ta) := by
  obtain ⟨fI, fd, iC, tI, F, hb⟩ := M
  exact pmk_oex T.t iC tI F (hr.mono hk) hb .nil pass0 hg T.g ha hdb he hpl
theorem mk {C : Addr} {sp : Sp} {dvs : List V} {ta : TA} {Q : XK} (k : ta σ H fun vs H1 => vs.length ≤ 1000 ∧ ∀ a, H1 a = none → sp (.ref a :: (vs ++ dvs)) (upd H1 a (exo a C none)) (fun v H2 => v = .non ∧ ∃ (d : Addr) (fs : List (Str × V)), H2 a = some (exo a C (some d)) ∧ H2 d = some (exd d fs) ∧ H1 d = none ∧ Q (.ref C) (some d) (upd (L2.del (H2) a) d (.xd fs))) (fun _ _ _ => False)) :
    tMkO C sp dvs ta σ H Q := k
theorem made {C : Addr} {f : Str} {v : V} {Q : XK} (h : ∀ d, H d = none → Q (.ref C) (some d) (upd H d (.xd [(f, v)]))) :
    [v].length ≤ 1000 ∧ ∀ a, H a = none → spInit C f (.ref a :: ([v] ++ [])) (upd H a (exo a C none)) (fun u H2 => u = .non ∧ ∃ (d : Addr) (fs : List (Str × V)), H2 a = some (exo a C (some d)) ∧ H2 d = some (exd d fs) ∧ H d = none ∧ Q (.ref C) (some d) (upd (L2.del H2 a) d (.xd fs))) (fun _ _ _ => False) := by
  refine ⟨by simp, fun a ha => ⟨a, v, rfl, upd_same, fun d hd hda => ⟨rfl, d, [(f, v)], upd_same, ?_, ?_, ?_⟩⟩⟩
  · rw [upd_ne hda, upd_same]
  · rw [upd_ne hda] at hd; exact hd
  · rw [upd_ne hda] at hd
    rw [made_heap ha hda]
    exact h d hd
end
/-! ### defs that may raise -/
def CalX (P : Program) (w : World) (K : PySem.W.Frag) (mg : Str → Option Value) (base : Heap) (k : Nat) (x : Str) (sp : Sp) : Prop :=
  ∃ (f : Addr) (fd : FuncData) (ps : List Str), FnG P w K mg base (L2.CX P w) k f fd ps sp ∧ mg x = some (.ref f) ∧ PySem.W.keepIn K (.ref f) = true ∧ Binds K fd ps []
section
variable {P : Program} {w : World} {K : PySem.W.Frag} {mg : Str → Option Value} {base : Heap}
theorem byX {x : Str} {st : Stmt} {ps N : List Str} {k : Nat} {sp : Sp} (D : DefAt K mg x st ps) (S : FnScope N ps (defScope st)) (len : ∀ vs H Q E, sp vs H Q E → vs.length = ps.length)
    (inner : ∀ (f : Addr) (cd : Value) (A : Around), A.guards = some [] → ∀ (outer : List Env) (s : Shared) (H : Hp) (vs : List V) (Q : VK) (E : XK),
      Room k (A.deeper (envOfC x (defScope st) s.heap.objs.size f cd)) → sp vs H Q E →
      ∃ t, PSs (cxOf (L2.CX P w) P w K mg base N x (defScope st) f cd A outer s H E) (defBody st) t ∧ t { nx := fun _ H' => Q .non H', rt := Q } (start N vs) H) :
    CalX P w K mg base (k + 1) x sp := by
  obtain ⟨f, fd, hm, F, hb⟩ := D
  exact ⟨f, fd, ps, defG F S len (inner f), hm, F.kp, hb⟩
end
section
variable {X : Cx} {k j : Nat} {sp : Sp} {x : Str} {p pos : Pos} {e : Expr} {es : List Expr} {t : TA}
/-- called in a def that lets the same out -/
theorem pe_x {E : XK} (c : CalX X.prog X.w X.K X.mg X.base k x sp) (g : X.A.guards = some []) (hr : Room j X.A) (hk : k ≤ j) (tk : Takes X fun cls d _ H => E cls d H) (ha : PA X (e :: es) t) (hg : Gl X x := by rfl)
    (hdb : (x == ("__debug__" : Str)) = false := by decide) (he : starEach (e :: es) X.env = (false, eval e X.env) :: starEach es X.env := by rfl)
    (hpl : (backTo pos (starEach es X.env)).any (·.1) = false := by rfl) : PE X (.Call (.Name x p) (e :: es) [] pos) (tCall sp [] E t) := by
  obtain ⟨f, fd, ps, F, hm, hkp, hb⟩ := c
  exact pe_callG F g (hr.mono hk) hg hm hkp hb .nil (passes_call tk fun _ _ _ _ h => h) ha hdb he hpl
/-- called where nothing is raised -/
theorem pe_x0 (c : CalX X.prog X.w X.K X.mg X.base k x sp) (g : X.A.guards = some []) (hr : Room j X.A) (hk : k ≤ j) (ha : PA X (e :: es) t) (hg : Gl X x := by rfl)
    (hdb : (x == ("__debug__" : Str)) = false := by decide) (he : starEach (e :: es) X.env = (false, eval e X.env) :: starEach es X.env := by rfl)
    (hpl : (backTo pos (starEach es X.env)).any (·.1) = false := by rfl) : PE X (.Call (.Name x p) (e :: es) [] pos) (tCall sp [] E0 t) := by
  obtain ⟨f, fd, ps, F, hm, hkp, hb⟩ := c
  refine pe_callG F g (hr.mono hk) hg hm hkp hb .nil (fun pins σ H s u s' I z => ?_) ha hdb he hpl
  obtain ⟨_, _, _, _, _, _, _, _, _, _, _, _, z⟩ := z
  exact z.elim
/-- called in a try -/
theorem pe_xS {W : WX} (c : CalX X.prog X.w X.K X.mg X.base k x sp) (g : X.A.guards = some []) (hr : Room j X.A) (hk : k ≤ j) (tk : Takes X W) (ha : PA X (e :: es) t) (hg : Gl X x := by rfl)
    (hdb : (x == ("__debug__" : Str)) = false := by decide) (he : starEach (e :: es) X.env = (false, eval e X.env) :: starEach es X.env := by rfl)
    (hpl : (backTo pos (starEach es X.env)).any (·.1) = false := by rfl) : PE X (.Call (.Name x p) (e :: es) [] pos) (tCallS sp (WE W) t) := by
  obtain ⟨f, fd, ps, F, hm, hkp, hb⟩ := c
  refine ⟨fun pins s σ H Q I h => wpAny_Call_Name_kw (ld_glob I hg hm ?_ hdb)⟩
  refine PySem.W.callWith_K (h₀ := X.base) I.ok.mod.kin hkp (thn (ha.run pos pins s σ H _ I h) ?_) he hpl
  rintro us s1 ⟨vs, H1, I1, r, q⟩
  refine ⟨I1.kIn, ?_⟩
  have lens : us.length = ps.length := (r.length).symm.trans (F.len _ _ _ _ q)
  have body := F.go X.A g X.stack s1 H1 ⟨us, []⟩ us vs Q (WE W σ) (hr.mono hk) I1.env0 (by simpa using hb s1 us I1.kIn (by simpa using lens)) r q
  refine wpAny_call (codeAny_mono body ?_)
  intro res s' hres
  match res, hres with
  | .error e, z => exact passAt tk σ pins H1 s1 e s' I1 z
  | .ok (.ret u), z => exact I1.after z
  | .ok .next, z => exact z.elim
  | .ok .brk, z => exact z.elim
  | .ok .cont, z => exact z.elim
end
end Ex
namespace PySem.W
open PySem PySem.Calls PyProof.Rows
theorem clsIn_obj {K : Frag} {D : Addr} (h : hasDictIn K D = true) : ∃ c d cd sl, K.lookup D = some ⟨c, d, .cls cd, sl⟩ := by
  obtain ⟨cd, hc, _⟩ := any_some h
  unfold clsIn at hc
  split at hc
  · rename_i c d cd' sl ho
    exact ⟨c, d, cd', sl, ho⟩
  · cases hc
/-- an instance of an own exception class, with whatever dict, as isinstance asks it -/
theorem kitxD {K : Frag} {x D : Addr} {ox : Obj} {od : Option Obj} (C : L2.ExcC K D) : KitX K (.ref x) (.ref D) (fun h => InstAt h x ox D od) where
  ty := fun _ _ _ I => I.type
  it := fun _ _ X _ => by
    obtain ⟨c, d, cd, sl, ho⟩ := clsIn_obj C.hd
    intro A' Q' E' s' k q
    unfold isType loadHead
    exact wpAny_bind (wpAny_loadPart (k _ _ (X _ _ ho)) (wpAny_pure q))
  ne := fun h tp dd its n sl X htp => by
    obtain ⟨c, d, cd, sl', ho⟩ := clsIn_obj C.hd
    cases e : (Value.ref D == .ref tp) with
    | false => rfl
    | true =>
      obtain rfl : D = tp := Value.ref.inj (beq_iff_eq.mp e)
      have z := (X _ _ ho).symm.trans htp
      cases z
  ca := fun X I k => kx_classE X I C.hg C.hk C.hs (findObj_dataE (by obtain ⟨cd, hc, _⟩ := any_some C.hd; rw [hc]; rfl) C.ha C.hn C.ht) C.hm k
end PySem.W
namespace Ex
open PySem.Spec PyProof.Rows
/-- isinstance(e, c), e the exception that the suite holds, with its dict -/
def rIsD (K : PySem.W.Frag) (C a : Addr) (cls : Value) (d : Option Addr) : List V → Hp → VK → Prop := fun xs H Q => ∃ (c : V) (cv : Value) (b : Bool) (dd : Addr) (fs : List (Str × V)), xs = [.ref a, c] ∧ ClsV c cv ∧ cls = .ref C ∧ d = some dd ∧ H dd = some (.xd fs) ∧ PySem.W.kitOne K (.ref C) cv = some b ∧ Q (.bl b) H
theorem call_isD {X : Cx} {a C : Addr} {oe : Obj} {cls : Value} {d : Option Addr} {pn : List (Addr × Obj)} (T : ExcC X.K C) (hz : Zc cls d oe) (hf : ∃ vs, oe.data = .fields vs) : CallR (X.suite a ((a, oe) :: pn)) (.builtin "isinstance") (rIsD X.K C a cls d) := by
  intro pins s σ H xs us Q I r h
  obtain ⟨c, cv, b, dd, fs, rfl, kc, ec, ed, ea, e, q⟩ := h
  obtain ⟨u, t, rfl, ru, rt⟩ := vals2 r
  obtain rfl : u = Value.ref a := ru
  obtain rfl := kc.eq rt
  subst ec ed
  obtain ⟨hget, _⟩ := I.pin (a, oe) (List.mem_append.mpr (.inl List.mem_cons_self))
  obtain ⟨vs, hv⟩ := hf
  have hx : ObjOk X.prog X.w H s.heap dd (.xd fs) := I.hok dd _ ea
  obtain ⟨mA, hns, hr⟩ := hx
  obtain ⟨od, ho, hl⟩ := lookIn_ns hns
  have J : PySem.W.InstAt s.heap a oe C (some od) := ⟨hget, hz.1, by unfold PySem.W.notCls; rw [hv] <;> rfl, by rw [hz.2]; exact ho⟩
  exact PySem.W.kia_one (PySem.W.kitxD T) I.kIn J e (fun z => nomatch z) fun tk => ⟨.bl b, H, I.kept (t' := tk) fun _ _ z => z, rfl, q⟩
end Ex
namespace Gk
open PySem.Spec PyProof.Rows
section
variable {X : Cx}
def rReprX (K : PySem.W.Frag) : List V → Hp → VK → Prop := fun xs H Q => rRepr K xs H Q ∨ ∃ p, xs = [.ref p] ∧ H p = some (.dK []) ∧ Q (.str "{}") H
theorem call_reprX (hg : X.A.guards = some []) (hu : X.A.units + 64 < cLine) : CallR X (.builtin "repr") (rReprX X.K) := by
  intro pins s σ H xs us Q I r h
  rcases h with h | ⟨p, rfl, hp, q⟩
  · exact call_reprD hg hu pins s σ H xs us Q I r h
  · obtain ⟨u, rfl, ru⟩ := vals1 r
    obtain rfl : u = Value.ref p := ru
    obtain ⟨_, ns, vs, kv, dof⟩ := dk_of I.hok hp
    obtain rfl : vs = [] := by cases kv; rfl
    obtain ⟨o, es, ep, h1, h2, h3, _, h4, _⟩ := dof
    have he : es.toList = [] := by
      cases hz : es.toList with
      | nil => rfl
      | cons a l => rw [hz] at h4; cases h4
    have rd : Reads s.heap (.ref p) (.dict []) (p :: [] ++ []) := .dict h1 h2.1 h3 (by rw [he]; exact .nil) (by rw [he]; exact .nil)
    have e : (PyData.dict []).shown = "{}" := by decide +kernel
    have out : ∀ h' u' tk, (∀ b o, s.heap.get? b = some o → h'.get? b = some o) → EP X pins σ Q (.str (PyData.dict []).shown u') { s with heap := h', toks := tk } :=
      fun h' u' tk hk => ⟨.str "{}", H, I.kept hk, ⟨u', by rw [e]⟩, q⟩
    refine repr_of_reads' rd (by rfl) (fun _ m => ?_) hg (by show _ + (PyData.depth (.dict []) + 1) < _; have : PyData.depth (.dict []) = 1 := rfl; omega) (fun _ _ z => z) out (by rw [e]; decide +kernel)
    have : sysModules = p := by simpa using m
    rw [← this] at ns
    simp at ns
end
end Gk
namespace Gk
open PySem.Spec PyProof.Rows
section
variable {X : Cx} {k j : Nat} {sp : Sp} {x : Str} {p pos : Pos}
/-- a def without arguments -/
theorem pe_cG0 (c : CalG X.prog X.w X.K X.mg X.base k x sp) (g : X.A.guards = some []) (hr : Room j X.A) (hk : k ≤ j) (hg : Gl X x := by rfl) (hdb : (x == ("__debug__" : Str)) = false := by decide) :
    PE X (.Call (.Name x p) [] [] pos) (tCall sp [] E0 tNil) := by
  obtain ⟨f, fd, ps, F, hm, hkp, hb⟩ := c
  refine ⟨fun pins s σ H Q I h => wpAny_Call_Name_kw (ld_glob I hg hm ?_ hdb)⟩
  exact PySem.W.callWith_K0 I.kIn hkp (runG (us := []) F g (hr.mono hk) hb .nil pass0 I .nil h)
end
end Gk
namespace Ob
open PySem.Spec PyProof.Rows
/-! ### own classes: defs that keep their promise where no container is being shown -/
section
variable {X : Cx} {CX : CXT} {k : Nat} {f C : Addr} {fd : FuncData} {ps : List Str} {sp : Sp} {E : XK}
/-- nothing is raised there -/
theorem px0 : Passes (L2.CX X.prog X.w) X E0 := fun pins σ H s u s' I z => by
  obtain ⟨_, _, _, _, _, _, _, _, _, _, _, _, z⟩ := z
  exact z.elim
/-- the same goes out -/
theorem pxE {E : XK} (tk : Takes X fun cls d _ H => E cls d H) : Passes (L2.CX X.prog X.w) X E := passes_call tk fun _ _ _ _ h => h
theorem flow {pins : List (Addr × Obj)} {σ : L2.St} {H : Hp} {s : Shared} {Q : VK} {r : Result} {s' : Shared} (hx : Passes CX X E) (I : Inv X pins σ H s) (h : CR CX X.stack X.prog X.w H s Q E r s') : wants (EP X pins σ Q) X.xe r s' := by
  match r, h with
  | .error e, z => exact hx pins σ H s e s' I z
  | .ok (.ret u), z => exact I.after z
  | .ok .next, z => exact z.elim
  | .ok .brk, z => exact z.elim
  | .ok .cont, z => exact z.elim
/-- the call of such a def, A somewhere at this body or one step further in -/
theorem goG {A : Around} {H : Hp} {s : Shared} {Q : VK} {us : List Value} {vs : List V} (F : FnG X.prog X.w X.K X.mg X.base CX k f fd ps sp) (g : A.guards = some []) (hr : Room k A)
    (e0 : Env0 X.prog X.w X.K X.mg X.base A X.stack s H) (kn : X.K.In s.heap) (hb : Binds X.K fd ps []) (r : Vals vs us) (h : sp vs H Q E) :
    codeAny (model X.prog X.w) A (.call (.ref f) ⟨us, []⟩) (CR CX X.stack X.prog X.w H s Q E) s := by
  have lens : (us ++ []).length = ps.length := by rw [List.append_nil]; exact (r.length).symm.trans (F.len _ _ _ _ h)
  have b := hb s us kn lens
  rw [List.append_nil] at b
  exact F.go A g X.stack s H ⟨us, []⟩ us vs Q E hr e0 b r h
/-- a method m of the class at C -/
def MCal (P : Program) (w : World) (K : PySem.W.Frag) (mg : Str → Option Value) (base : Heap) (CX : CXT) (C : Addr) (k : Nat) (m : Str) (sp : Sp) : Prop :=
  ∃ (f : Addr) (fd : FuncData) (ps : List Str), FnG P w K mg base CX k f fd ps sp ∧ Meth K C m f ∧ Binds K fd ps []
section
variable {j : Nat} {m : Str} {o e : Expr} {es : List Expr} {apos pos : Pos} {ta : TE} {t : TA}
theorem meth {pl : Sem Bool} (he : PE X o ta) (c : L2.Cls X.K C) (M : MCal X.prog X.w X.K X.mg X.base CX C k m sp) (g : X.A.guards = some []) (hr : Room j X.A) (hk : k ≤ j) (hx : Passes CX X E) (ha : PA X (e :: es) t)
    (hst : starEach (e :: es) X.env = (false, eval e X.env) :: starEach es X.env := by rfl) (hpl : (backTo pos (starEach es X.env)).any (·.1) = false := by rfl)
    (ht : eval (.Call (.Attribute o m apos) (e :: es) [] pos) X.env = (do
      let ov ← eval o X.env
      standAt apos.atName
      let (f, first) ← holding [ov] (getMethod ov m pl)
      callWith pos f first (backTo pos (starEach (e :: es) X.env)) (backToKw pos (keywordEach [] X.env))) := by rfl) : PE X (.Call (.Attribute o m apos) (e :: es) [] pos) (tMeth C m sp [] E ta t) := by
  obtain ⟨f, fd, ps, F, hm, hb⟩ := M
  refine ⟨fun pins s σ H Q I h => PySem.W.methodCall_KW (pl := pl) (thn (he.run pins s σ H _ I h) fun u s1 ⟨x, H1, I1, rx, a, dx, fs, ex, ea, l, q⟩ => ?_) ht⟩
  subst ex
  obtain rfl : u = Value.ref a := rx
  refine getmeth_ok I1 ea c hm l (PySem.W.callWith_K (first := [.ref a]) (h₀ := X.base) I.ok.mod.kin hm.kp (thn (ha.run pos pins s1 σ H1 _ I1 q) fun us s2 ⟨vs, H2, I2, r, q2⟩ => ⟨I2.kIn, wpAny_call ?_⟩) hst hpl)
  have q2 : sp (V.ref a :: (vs ++ [])) H2 Q E := q2
  rw [List.append_nil] at q2
  exact codeAny_mono (goG F g (hr.mono hk) I2.env0 I2.kIn hb (.cons (show RelV (.ref a) (.ref a) from rfl) r) q2) fun r s' z => flow hx I2 z
theorem meth0 {pl : Sem Bool} (he : PE X o ta) (c : L2.Cls X.K C) (M : MCal X.prog X.w X.K X.mg X.base CX C k m sp) (g : X.A.guards = some []) (hr : Room j X.A) (hk : k ≤ j) (hx : Passes CX X E)
    (ht : eval (.Call (.Attribute o m apos) [] [] pos) X.env = (do
      let ov ← eval o X.env
      standAt apos.atName
      let (f, first) ← holding [ov] (getMethod ov m pl)
      callWith pos f first (backTo pos (starEach [] X.env)) (backToKw pos (keywordEach [] X.env))) := by rfl) : PE X (.Call (.Attribute o m apos) [] [] pos) (tMeth C m sp [] E ta tNil) := by
  obtain ⟨f, fd, ps, F, hm, hb⟩ := M
  refine ⟨fun pins s σ H Q I h => PySem.W.methodCall_KW (pl := pl) (thn (he.run pins s σ H _ I h) fun u s1 ⟨x, H1, I1, rx, a, dx, fs, ex, ea, l, q⟩ => ?_) ht⟩
  subst ex
  obtain rfl : u = Value.ref a := rx
  refine getmeth_ok I1 ea c hm l (PySem.W.callWith_K0 (first := [.ref a]) I1.kIn hm.kp (wpAny_call ?_))
  exact codeAny_mono (goG F g (hr.mono hk) I1.env0 I1.kIn hb (.cons (show RelV (.ref a) (.ref a) from rfl) .nil) q) fun r s' z => flow hx I1 z
end
/-- C() -/
def MkCal (P : Program) (w : World) (K : PySem.W.Frag) (mg : Str → Option Value) (base : Heap) (CX : CXT) (C : Addr) (k : Nat) (x : Str) (sp : Sp) : Prop :=
  ∃ (f : Addr) (fd : FuncData) (ps : List Str), FnG P w K mg base CX k f fd ps sp ∧ Mk K C f ∧ Binds K fd ps [] ∧ mg x = some (.ref C)
theorem guards_make {A : Around} {us : List Value} {kw : List (Str × Value)} : (A.under (.builtin "type.__call__" ⟨.ref C :: us, kw⟩)).guards = A.guards := by
  first
  | rfl
  | simp [Around.under, Code.isGuard, guardIds]
theorem runMk {pins : List (Addr × Obj)} {σ : L2.St} {H : Hp} {s : Shared} {Q : VK} {us : List Value} {vs : List V} (M : Mk X.K C f) (F : FnG X.prog X.w X.K X.mg X.base CX k f fd ps sp) (g : X.A.guards = some []) (hr : Room (k + 1) X.A) (hb : Binds X.K fd ps [])
    (hx : Passes CX X E) (I : Inv X pins σ H s) (r : Vals vs us)
    (h : ∀ x dx, H x = none → H dx = none → dx ≠ x → sp (.ref x :: (vs ++ [])) (upd (upd H dx (.own x)) x (.ins C dx [])) (fun v H2 => v = .non ∧ Q (.ref x) H2) E) :
    wpAny (model X.prog X.w) X.A (call (.ref C) us) (EP X pins σ Q) X.xe s := by
  have hq := h (s.heap.objs.size + 1) s.heap.objs.size (I.hok.fresh (Nat.le_succ _)) (I.hok.fresh (Nat.le_refl _)) (Nat.ne_of_lt (Nat.lt_succ_self _))
  rw [List.append_nil] at hq
  have I2 := Inv.made (C := C) I
  have run := goG F (A := X.A.under (.builtin "type.__call__" ⟨.ref C :: us, []⟩)) (guards_make.trans g) (hr.make C us []) (I2.env0.make C us []) I2.kIn hb (.cons (show RelV (.ref (s.heap.objs.size + 1)) (.ref (s.heap.objs.size + 1)) from rfl) r) hq
  refine wpAny_call (make_map (f := f) I.kIn M.makes M.init (beq_iff_eq.mp M.fn) (codeAny_mono run fun r s' hq' => ?_))
  match r, hq' with
  | .error e, z => exact hx pins σ _ _ e s' I2 z
  | .ok .next, z => exact z.elim
  | .ok .brk, z => exact z.elim
  | .ok .cont, z => exact z.elim
  | .ok (.ret u), z =>
    obtain ⟨v, H', I3, rv, ev, q3⟩ := I2.after z
    subst ev
    exact ⟨rv, ⟨V.ref (s.heap.objs.size + 1), H', I3, rfl, q3⟩⟩
section
variable {j : Nat} {x : Str} {e : Expr} {es : List Expr} {p pos : Pos} {t : TA}
theorem make (M : MkCal X.prog X.w X.K X.mg X.base CX C k x sp) (gd : X.A.guards = some []) (hr : Room j X.A) (hk : k + 1 ≤ j) (hx : Passes CX X E) (ha : PA X (e :: es) t) (hg : Gl X x := by rfl)
    (hdb : (x == ("__debug__" : Str)) = false := by decide) (he : starEach (e :: es) X.env = (false, eval e X.env) :: starEach es X.env := by rfl) (hpl : (backTo pos (starEach es X.env)).any (·.1) = false := by rfl) :
    PE X (.Call (.Name x p) (e :: es) [] pos) (tMake C sp [] E t) := by
  obtain ⟨f, fd, ps, F, M, hb, hm⟩ := M
  refine ⟨fun pins s σ H Q I h => wpAny_Call_Name_kw (ld_glob I hg hm ?_ hdb)⟩
  exact PySem.W.callWith_K (h₀ := X.base) I.ok.mod.kin M.kp (thn (ha.run pos pins s σ H _ I h) fun us s1 ⟨vs, H1, I1, r, q⟩ => ⟨I1.kIn, runMk M F gd (hr.mono hk) hb hx I1 r q⟩) he hpl
theorem make0 (M : MkCal X.prog X.w X.K X.mg X.base CX C k x sp) (gd : X.A.guards = some []) (hr : Room j X.A) (hk : k + 1 ≤ j) (hx : Passes CX X E) (hg : Gl X x := by rfl)
    (hdb : (x == ("__debug__" : Str)) = false := by decide) : PE X (.Call (.Name x p) [] [] pos) (tMake C sp [] E tNil) := by
  obtain ⟨f, fd, ps, F, M, hb, hm⟩ := M
  refine ⟨fun pins s σ H Q I h => wpAny_Call_Name_kw (ld_glob I hg hm ?_ hdb)⟩
  exact PySem.W.callWith_K0 I.kIn M.kp (runMk (us := []) M F gd (hr.mono hk) hb hx I .nil h)
end
/-- a property, read -/
def PCal (P : Program) (w : World) (K : PySem.W.Frag) (mg : Str → Option Value) (base : Heap) (CX : CXT) (C : Addr) (k : Nat) (m : Str) (sp : Sp) : Prop :=
  ∃ (p f : Addr) (fd : FuncData) (ps : List Str), FnG P w K mg base CX k f fd ps sp ∧ PropOf K C m p f ∧ Binds K fd ps []
theorem prop {m : Str} {e : Expr} {pos : Pos} {ta : TE} {j : Nat} (he : PE X e ta) (c : L2.Cls X.K C) (M : PCal X.prog X.w X.K X.mg X.base CX C k m sp) (g : X.A.guards = some []) (hr : Room j X.A) (hk : k + 1 ≤ j) (hx : Passes CX X.nox E)
    (hab : attributeBase e m X.env (eval e X.env) = eval e X.env := by rfl) : PE X (.Attribute e m pos) (tProp C sp [] E ta) := by
  obtain ⟨p, f, fd, ps, F, hp, hb⟩ := M
  refine ⟨fun pins s σ H Q I h => attr_of hab (thn (he.run pins s σ H _ I h) fun u s1 ⟨x, H1, I1, rx, a, dx, fs, ex, ea, q⟩ => ?_)⟩
  subst ex
  obtain rfl : u = Value.ref a := rx
  obtain ⟨mA, O, _, _, _, _⟩ := ins_get I1.hok ea
  obtain ⟨od, J, _⟩ := O.look
  obtain ⟨rest, hrec⟩ := hp.rec_
  have I3 := I1.tok (s1.toks + 1)
  have hc : (PySem.W.clsIn X.K C).isSome = true := by
    obtain ⟨cd, hc, _⟩ := PySem.W.any_some c.hd
    rw [hc]
    rfl
  refine PySem.W.get_bind I1.kIn J (PySem.W.plainGet_of (c.get m)).1 (PySem.W.findObj_data hc hp.at_ hp.get hp.tak) (PySem.W.plainGet_of (c.get m)).2 (wpAny_call (PySem.W.prop_get (s := { s1 with toks := s1.toks + 1 }) I1.kIn hrec ?_))
  refine codeAny_mono (goG F (A := X.A.in1) g (hr.mono hk).in1 I3.env0.in1 I3.kIn hb (.cons (show RelV (.ref a) (.ref a) from rfl) .nil) q) fun r s' z => ?_
  match r, z with
  | .error er, z => exact (show False from hx pins σ H1 { s1 with toks := s1.toks + 1 } er s' (I3.wish _) z).elim
  | .ok .next, z => exact z.elim
  | .ok .brk, z => exact z.elim
  | .ok .cont, z => exact z.elim
  | .ok (.ret u), z =>
    obtain ⟨v, H', I4, rv, q3⟩ := I3.after z
    show wpAny _ _ (handedOut u) _ _ _
    rw [PySem.W.handedOut_of (handed_of rv)]
    exact wpAny_pure ⟨v, H', I4, rv, q3⟩
/-! ### static methods, read off the class -/
structure CSta (K : PySem.W.Frag) (C : Addr) (mc : Value) (m : Str) (p g : Addr) : Prop where
  rd : PySem.W.readsIn K C mc = true
  ga : PySem.W.specialIn K (.ref C) "__getattribute__" = some (some (.builtin "type.__getattribute__"))
  at_ : PySem.W.findCls K (.ref C) mc m = some (.get (.builtin "staticmethod.__get__") (.ref p) .none (.ref C))
  rc : ∃ rest, PySem.W.recIn K p "staticmethod" = some (.ref g :: rest)
  kp : PySem.W.keepIn K (.ref g) = true
def SCal (P : Program) (w : World) (K : PySem.W.Frag) (mg : Str → Option Value) (base : Heap) (CX : CXT) (C : Addr) (k : Nat) (m : Str) (sp : Sp) : Prop :=
  ∃ (p f : Addr) (fd : FuncData) (ps : List Str) (mc : Value), FnG P w K mg base CX k f fd ps sp ∧ CSta K C mc m p f ∧ Binds K fd ps []
def tStat (C : Addr) (sp : Sp) (E : XK) (ta : TE) : TE := fun σ H Q => ta σ H fun x H1 => x = .ref C ∧ sp [] H1 Q E
theorem stat0 {m : Str} {o : Expr} {apos pos : Pos} {ta : TE} {j : Nat} {pl : Sem Bool} (he : PE X o ta) (M : SCal X.prog X.w X.K X.mg X.base CX C k m sp) (g : X.A.guards = some []) (hr : Room j X.A) (hk : k ≤ j) (hx : Passes CX X E)
    (ht : eval (.Call (.Attribute o m apos) [] [] pos) X.env = (do
      let ov ← eval o X.env
      standAt apos.atName
      let (f, first) ← holding [ov] (getMethod ov m pl)
      callWith pos f first (backTo pos (starEach [] X.env)) (backToKw pos (keywordEach [] X.env))) := by rfl) : PE X (.Call (.Attribute o m apos) [] [] pos) (tStat C sp E ta) := by
  obtain ⟨p, f, fd, ps, mc, F, cs, hb⟩ := M
  obtain ⟨rest, hp⟩ := cs.rc
  refine ⟨fun pins s σ H Q I h => PySem.W.methodCall_KW (pl := pl) (thn (he.run pins s σ H _ I h) fun u s1 ⟨x, H1, I1, rx, ex, q⟩ => ?_) ht⟩
  subst ex
  obtain rfl : u = Value.ref C := rx
  have I2 := I1.tok (s1.toks + 1)
  refine PySem.W.method_cls I1.kIn cs.ga (PySem.W.cls_bind I1.kIn cs.rd cs.at_ (wpAny_call (PySem.W.sm_get (s := { s1 with toks := s1.toks + 1 }) I1.kIn hp (PySem.W.handed_on rfl ?_))))
  refine PySem.W.callWith_K0 (first := []) I2.kIn cs.kp (wpAny_call ?_)
  exact codeAny_mono (goG F g (hr.mono hk) I2.env0 I2.kIn hb .nil q) fun r s' z => flow hx I2 z
end
end Ob
/-! special methods of own classes, called by signs: x[k], x[k] = v, len(x), ==, != -/
namespace Ow
open PySem.Spec PyProof.Rows PySem.W
/-- the method m of the class at C is the def at g -/
structure SpM (K : Frag) (C : Addr) (m : Str) (g : Addr) : Prop where
  at_ : findIn K (.ref C) m = some (some (.ref g))
  fn : typeIn K (.ref g) = some (.type "function")
/-- instances of the class at C are no deques -/
def NoDq (K : Frag) (C : Addr) : Prop := subIn K (.ref C) (.type "collections.deque") = some false
section
variable {prog : Program} {w : World} {A : Around} {E : Value → Shared → Prop} {s : Shared} {a C g : Addr} {K : Frag} {m : Str} {o : Obj}
theorem special (hk : K.In s.heap) (ho : s.heap.get? a = some o) (hc : o.cls = .ref C) (h : SpM K C m g) {args : List Value} {Q : Option Value → Shared → Prop}
    (k : wpAny (model prog w) A (call (.ref g) (.ref a :: args)) (fun v => Q (some v)) E s) : wpAny (model prog w) A (callSpecial? (.ref a) m args) Q E s := by
  unfold callSpecial? specialOf
  refine wpAny_bind (wpAny_bind (wpAny_typeOf_ref ho ?_))
  rw [hc]
  refine looks_findIn (M := model prog w) hk h.at_ A _ E s (fun _ _ e => e) ?_
  refine wpAny_holding ?_
  refine wpAny_bind (bind_fn (M := model prog w) hk (.ref a) h.fn A _ E s (fun _ _ e => e) ?_)
  exact wpAny_bind (wpAny_mono k (fun v s' q => wpAny_pure q) fun _ _ z => z)
theorem seqKey (hk : K.In s.heap) (ho : s.heap.get? a = some o) (hc : o.cls = .ref C) (hd : NoDq K C) {i : Value} {Q : Value → Shared → Prop} (q : Q i s) : wpAny (model prog w) A (sequenceKey (.ref a) i m) Q E s := by
  unfold sequenceKey
  refine wpAny_bind (wpAny_typeOf_ref ho ?_)
  rw [hc]
  show wpAny _ _ (List.anyM (fun n => isSubtype (.ref C) (.type n)) ["collections.deque"] >>= _) _ _ _
  refine wpAny_bind ?_
  show wpAny _ _ (isSubtype (.ref C) (.type "collections.deque") >>= _) _ _ _
  refine wpAny_bind (looks_subIn (M := model prog w) hk hd A _ E s (fun _ _ e => e) ?_)
  exact wpAny_pure (wpAny_pure q)
theorem get_own (hk : K.In s.heap) (ho : s.heap.get? a = some o) (hc : o.cls = .ref C) (hd : NoDq K C) (h : SpM K C "__getitem__" g) {i : Value} {Q : Value → Shared → Prop}
    (k : wpAny (model prog w) A (call (.ref g) [.ref a, i]) Q E s) : wpAny (model prog w) A (getItem (.ref a) i) Q E s := by
  unfold getItem
  refine wpAny_holding ?_
  refine wpAny_bind (seqKey hk ho hc hd ?_)
  refine wpAny_bind (special hk ho hc h ?_)
  exact wpAny_mono k (fun v s' q => wpAny_pure q) fun _ _ z => z
theorem set_own (hk : K.In s.heap) (ho : s.heap.get? a = some o) (hc : o.cls = .ref C) (hd : NoDq K C) (h : SpM K C "__setitem__" g) {i v : Value} {Q : Unit → Shared → Prop}
    (k : wpAny (model prog w) A (call (.ref g) [.ref a, i, v]) (fun _ => Q ()) E s) : wpAny (model prog w) A (setItem (.ref a) i v) Q E s := by
  unfold setItem
  refine wpAny_holding ?_
  refine wpAny_bind (seqKey hk ho hc hd ?_)
  refine wpAny_bind (special hk ho hc h ?_)
  exact wpAny_mono k (fun v s' q => wpAny_pure q) fun _ _ z => z
end
section
open L2
variable {X : Cx} {CX : CXT} {k : Nat} {g C : Addr} {fd : FuncData} {ps : List Str} {sp : Sp} {E : XK}
/-- a def called one step further in (by a built-in) -/
theorem runG1 {dvs : List V} {ds : List Value} {pins : List (Addr × Obj)} {σ : L2.St} {H : Hp} {s : Shared} {Q : VK} {us : List Value} {vs : List V} (F : FnG X.prog X.w X.K X.mg X.base CX k g fd ps sp) (gd : X.A.guards = some []) (hr : Room (k + 1) X.A)
    (hb : Binds X.K fd ps ds) (hd : Vals dvs ds) (hx : Passes CX X E) (I : Inv X pins σ H s) (r : Vals vs us) (h : sp (vs ++ dvs) H Q E) : wpAny (model X.prog X.w) X.A.in1 (call (.ref g) us) (EP X pins σ Q) X.xe s := by
  have rr := r.append hd
  have lens := (rr.length).symm.trans (F.len (vs ++ dvs) H Q E h)
  have body := F.go X.A.in1 gd X.stack s H ⟨us, []⟩ (us ++ ds) (vs ++ dvs) Q E hr.in1 I.env0.in1 (hb s us I.kIn lens) rr h
  refine wpAny_call (codeAny_mono body ?_)
  intro res s' hres
  match res, hres with
  | .error e, z => exact hx pins σ H s e s' I z
  | .ok (.ret u), z => exact I.after z
  | .ok .next, z => exact z.elim
  | .ok .brk, z => exact z.elim
  | .ok .cont, z => exact z.elim
/-- what a method called by a sign asks of its class -/
structure SpC (K : Frag) (C : Addr) (m : Str) (g : Addr) : Prop where
  sp : SpM K C m g
  dq : NoDq K C
  fi : fnIn K g = true
theorem instAt {pins : List (Addr × Obj)} {σ : L2.St} {H : Hp} {s : Shared} (I : Inv X pins σ H s) {a dx : Addr} {fs : List (Str × V)} (ha : H a = some (.ins C dx fs)) : ∃ od, W.InstAt s.heap a (W.instObj C dx) C (some od) := by
  obtain ⟨_, _, _, ho, mA, hns, _⟩ := I.hok a _ ha
  obtain ⟨od, hd, _⟩ := lookIn_ns hns
  exact ⟨od, ho, rfl, rfl, hd⟩
def tGetO (C : Addr) (sp : Sp) (E : XK) (ta tb : TE) : TE := fun σ H Q => ta σ H fun x H1 => tb σ H1 fun y H2 => ∃ a dx fs, x = .ref a ∧ H2 a = some (.ins C dx fs) ∧ sp [.ref a, y] H2 Q E
theorem pe_getO {a b : Expr} {ta tb : TE} {pos : Pos} (S : SpC X.K C "__getitem__" g) (F : FnG X.prog X.w X.K X.mg X.base CX k g fd ps sp) (gd : X.A.guards = some []) (hr : Room (k + 1) X.A) (hb : Binds X.K fd ps []) (hx : Passes CX X E) (ha : PE X a ta) (hb' : PE X b tb)
    (hs : ∀ (o i : Value), subscripted b true o i = runValue (.builtin "lifetime.subscript" ⟨[o, i], []⟩)) : PE X (.Subscript a b pos) (tGetO C sp E ta tb) := by
  refine ⟨fun pins s σ H Q I h => Subscript_ (binT ha hb' I h fun v u s2 x y H2 I2 rx ry q => ?_)⟩
  obtain ⟨p, dx, fs, rfl, hp, q⟩ := q
  obtain rfl : v = Value.ref p := rx
  obtain ⟨m, fr⟩ := I2.fr
  obtain ⟨od, J⟩ := instAt I2 hp
  have isf : isFn X.K (.ref g) = true := by show (typeIn X.K (.ref g) == some (.type "function")) = true; rw [S.sp.fn] <;> rfl
  exact sub_K fr I2.ok.mod.kin J S.sp.at_ S.fi isf (runG1 (dvs := []) F gd hr hb .nil hx I2 (.cons (show RelV (.ref p) (.ref p) from rfl) (.cons ry .nil)) q) (hs _ _)
def rSetO (C : Addr) (sp : Sp) (E : XK) : TSet := fun o i v H Q => ∃ a dx fs, o = .ref a ∧ H a = some (.ins C dx fs) ∧ sp [.ref a, i, v] H (fun _ H' => Q H') E
theorem set_ownR (S : SpC X.K C "__setitem__" g) (F : FnG X.prog X.w X.K X.mg X.base CX k g fd ps sp) (gd : X.A.guards = some []) (hr : Room k X.A) (hb : Binds X.K fd ps []) (hx : Passes CX X E) : PSet X (rSetO C sp E) := by
  intro pins s σ H o i v ov iv u Q I ro ri rv h
  obtain ⟨p, dx, fs, rfl, hp, q⟩ := h
  obtain rfl : ov = Value.ref p := ro
  obtain ⟨_, _, _, ho, _⟩ := I.hok p _ hp
  refine set_own I.kIn ho rfl S.dq S.sp ?_
  refine wpAny_mono (runG (dvs := []) F gd hr hb .nil hx I (.cons (show RelV (.ref p) (.ref p) from rfl) (.cons ri (.cons rv .nil))) q) ?_ (fun _ _ z => z)
  rintro r s' ⟨w, H', I', _, q'⟩
  exact ⟨H', I', q'⟩
end
end Ow
namespace Rd
open PySem.Spec PyProof.Rows
section
variable {K : PySem.W.Frag} {σ : L2.St} {H H' : Hp} {α β : Type}
theorem tupS {a : Addr} {xs : List V} (s : Same H H') (h : SqT K H a xs) : SqT K H' a xs := h.imp (fun r => r.imp (s _ _) (fun ⟨o, e⟩ => ⟨o, s _ _ e⟩)) id
theorem lcW {tl te : TE} {g : TG} {tt : TT} {vs : List Nat} {Q : VK} (k : tl σ H fun x H1 => tLc (iTup K (tC x)) g tt te vs σ H1 Q) : tLc (iTup K tl) g tt te vs σ H Q := k
/-- a comprehension over a tuple of things -/
theorem lcT {tl te : TE} {tt : TT} {vs : List Nat} {j : Nat} {Q : VK} {a : Addr} {xs : List V} {bs : List α} (A : α → V → Hp → Prop) (B : β → V → Hp → Prop) (f : α → Bool) (g : α → β)
    (htl : ∀ R : V → Hp → Prop, R (.ref a) H → tl σ H R) (hl : SqT K H a xs) (hA : Stays A) (hB : Stays B) (pr : Paired (fun b x => A b x H) bs xs) (hz : xs.length ≤ 10000)
    (hw : ∀ x, wipe ((wipe σ vs).set j (some x)) vs = wipe σ vs)
    (turn : ∀ b x H1 (R : Bool → Hp → Prop), b ∈ bs → A b x H → A b x H1 → Same H H1 → (∀ H2, Same H1 H2 → R (f b) H2) → tt ((wipe σ vs).set j (some x)) H1 R)
    (elem : ∀ b x H1 (R : VK), b ∈ bs → f b = true → A b x H → A b x H1 → Same H H1 → (∀ y H2, Same H1 H2 → Off H H1 H2 (B (g b)) y → R y H2) → te ((wipe σ vs).set j (some x)) H1 R)
    (fin : ∀ D ys H1, H D = none → Same H H1 → H1 D = some (.lst ys) → Paired (fun c y => B c y H1) ((bs.filter f).map g) ys → Q (.ref D) H1) :
    tLc (iTup K tl) (gName j) tt te vs σ H Q := by
  have hlen := pair_len pr
  refine htl _ ⟨a, rfl, ⟨xs, hl⟩, fun D hD => ?_⟩
  refine lc_tup (K := K) (a := a) (xs := xs) (fun i H1 => ∃ ys, H1 D = some (.lst ys) ∧ ys.length ≤ i ∧ Same H H1 ∧ ∀ o, Paired (fun c y => B c y (upd H1 D o)) (((bs.take i).filter f).map g) ys) ?_ ?_ ?_ ?_
  · exact ⟨[], upd_same, Nat.le_refl _, sNew hD, fun _ => .nil⟩
  · rintro i H1 hi ⟨ys, _, _, s, _⟩
    exact tupS s hl
  · rintro i x H1 hx ⟨ys, hd, hy, s, pq⟩
    have hi : i < xs.length := (List.getElem?_eq_some_iff.mp hx).1
    obtain ⟨b, hb, hab⟩ := pair_get pr hx
    have mem : b ∈ bs := List.mem_of_getElem? hb
    have tk : bs.take (i + 1) = bs.take i ++ [b] := take_succ hb
    show wipe ((wipe σ vs).set j (some x)) vs = wipe σ vs ∧ _
    refine ⟨hw x, turn b x H1 _ mem hab (hA _ _ _ _ s hab) s fun H2 s2 => ?_⟩
    cases hf : f b with
    | false =>
      rw [if_neg Bool.false_ne_true]
      refine ⟨ys, s2 _ _ hd, by omega, s.trans s2, fun o => ?_⟩
      rw [tk, List.filter_append, List.filter_cons_of_neg (by simp [hf]), List.filter_nil, List.append_nil]
      exact pair_imp (fun c y => hB c y _ _ (sUpd s2)) (pq o)
    | true =>
      rw [if_pos rfl]
      refine elem b x H2 _ mem hf hab (hA _ _ _ _ (s.trans s2) hab) (s.trans s2) fun y H3 s3 hy3 => ?_
      have hd3 := s3 _ _ (s2 _ _ hd)
      have s4 : Same H H3 := (s.trans s2).trans s3
      refine ⟨ys, hd3, szl (by omega), ys ++ [y], upd_same, by rw [List.length_append]; simp; omega, sMut s4 hD, fun o => ?_⟩
      rw [tk, List.filter_append, List.filter_cons_of_pos (by simp [hf]), List.filter_nil, List.map_append, upd_upd]
      exact (pair_imp (fun c z h => hB c z _ _ (sUpd (s2.trans s3)) h) (pq o)).snoc (hy3 D o hD (by rw [s2 _ _ hd]; simp))
  · rintro H1 ⟨ys, hd, hy, s, pq⟩
    refine fin D ys H1 hD s hd ?_
    have pq := pq (.lst ys)
    rw [← hlen, List.take_length, upd_id hd] at pq
    exact pq
end
end Rd
namespace Dt
open PyProof.Rows W6
def dS (r : List Str) : PyData := .list (r.map PyData.str)
def dR (rows : List (List Str)) : PyData := .list (rows.map dS)
def dO : Option (List Str) → PyData
  | none => .none
  | some l => dS l
/-- texts as the laws make them -/
structure Ts (r : List Str) : Prop where
  n : r.length ≤ 100
  w : ∀ w ∈ r, W 100 w
structure Rs (rows : List (List Str)) : Prop where
  n : rows.length ≤ 100
  r : ∀ r ∈ rows, Ts r
theorem strOk_of {n : Nat} {w : Str} (h : W n w) : PyData.strOk w = true := by
  unfold PyData.strOk
  rw [Array.all_eq_true']
  intro c hc
  have := h.low c (by simpa using hc)
  exact decide_eq_true (by omega)
theorem lay_strs : ∀ {r : List Str}, (∀ w ∈ r, W 100 w) → PyData.canLayAll0 (r.map PyData.str) = true
  | [], _ => rfl
  | a :: r, h => by
    have := strOk_of (h a (by simp))
    simp [PyData.canLayAll0, PyData.canLay0, this, lay_strs (r := r) fun w hw => h w (by simp [hw])]
theorem lay_rows : ∀ {rows : List (List Str)}, (∀ r ∈ rows, Ts r) → PyData.canLayAll0 (rows.map dS) = true
  | [], _ => rfl
  | a :: r, h => by
    have := lay_strs (h a (by simp)).w
    simp [PyData.canLayAll0, PyData.canLay0, dS, this]
    exact lay_rows (rows := r) fun w hw => h w (by simp [hw])
theorem dep_strs : ∀ r : List Str, PyData.depthAll (r.map PyData.str) ≤ 1
  | [] => by simp [PyData.depthAll]
  | a :: r => by simp [PyData.depthAll, PyData.depth]; exact dep_strs r
theorem dep_rows : ∀ rows : List (List Str), PyData.depthAll (rows.map dS) ≤ 2
  | [] => by simp [PyData.depthAll]
  | a :: r => by
    have := dep_rows r
    have := dep_strs a
    simp [PyData.depthAll, PyData.depth, dS]
    omega
theorem shaped_dS {r : List Str} (h : ∀ w ∈ r, W 100 w) : SeqAt.shaped (dS r) = true := by
  have := dep_strs r
  simp [SeqAt.shaped, dS, PyData.canLay0, lay_strs h, PyData.depth]
  omega
theorem shaped_dR {r : List (List Str)} (h : ∀ x ∈ r, Ts x) : SeqAt.shaped (dR r) = true := by
  have := dep_rows r
  simp [SeqAt.shaped, dR, PyData.canLay0, lay_rows h, PyData.depth]
  omega
theorem shaped_dO {o : Option (List Str)} (h : ∀ l, o = some l → ∀ w ∈ l, W 100 w) : SeqAt.shaped (dO o) = true := by
  cases o with
  | none => rfl
  | some l => exact shaped_dS (h l rfl)
theorem show_strs : ∀ r : List Str, PyData.showableAll (r.map PyData.str) = true
  | [] => rfl
  | a :: r => by simp [PyData.showableAll, PyData.showable, show_strs r]
theorem show_rows : ∀ rows : List (List Str), PyData.showableAll (rows.map dS) = true
  | [] => rfl
  | a :: r => by simp [PyData.showableAll, PyData.showable, dS, show_strs]; exact show_rows r
theorem nodict_strs : ∀ r : List Str, PyData.hasDictAll (r.map PyData.str) = false
  | [] => rfl
  | a :: r => by simp [PyData.hasDictAll, PyData.hasDict, nodict_strs r]
theorem nodict_rows : ∀ rows : List (List Str), PyData.hasDictAll (rows.map dS) = false
  | [] => rfl
  | a :: r => by simp [PyData.hasDictAll, PyData.hasDict, dS, nodict_strs]; exact nodict_rows r
theorem show_dR (r : List (List Str)) : (dR r).showable = true := by simp [dR, PyData.showable, show_rows]
theorem nodict_dR (r : List (List Str)) : (dR r).hasDict = false := by simp [dR, PyData.hasDict, nodict_rows]
theorem deep_dR (r : List (List Str)) : (dR r).depth ≤ 60 := by
  have := dep_rows r
  simp [dR, PyData.depth]
  omega
theorem show_dO (o : Option (List Str)) : (dO o).showable = true := by
  cases o with
  | none => rfl
  | some l => simp [dO, dS, PyData.showable, show_strs]
theorem nodict_dO (o : Option (List Str)) : (dO o).hasDict = false := by
  cases o with
  | none => rfl
  | some l => simp [dO, dS, PyData.hasDict, nodict_strs]
theorem deep_dO (o : Option (List Str)) : (dO o).depth ≤ 60 := by
  cases o with
  | none => simp [dO, PyData.depth]
  | some l =>
    have := dep_strs l
    simp [dO, dS, PyData.depth]
    omega
theorem from_le : ∀ (ts : List Str) (k : Nat) (acc : Str), (textFrom k acc ts).length ≤ acc.length + (ts.map fun t => t.length + 2).sum
  | [], k, acc => Nat.le_refl _
  | t :: r, k, acc => by
    have ih := from_le r (k + 1) (acc ++ (if k > 0 then ", " else "" : String) ++ t)
    have e : (acc ++ (if k > 0 then ", " else "" : String) ++ t).length ≤ acc.length + 2 + t.length := by
      rw [strLen_append, strLen_append]
      have : (Str.ofString (if k > 0 then ", " else "")).length ≤ 2 := by split <;> decide +kernel
      omega
    rw [List.map_cons, List.sum_cons]
    show (textFrom (k + 1) _ r).length ≤ _
    omega
theorem list_le {ts : List Str} {m : Nat} (h : ∀ t ∈ ts, t.length + 2 ≤ m) : (listText ts).length ≤ 2 + ts.length * m := by
  have s : ∀ l : List Str, (∀ t ∈ l, t.length + 2 ≤ m) → (l.map fun t => t.length + 2).sum ≤ l.length * m := by
    intro l
    induction l with
    | nil => intro _; simp
    | cons a l ih =>
      intro h
      have h1 := h a (by simp)
      have h2 := ih fun t ht => h t (by simp [ht])
      simp only [List.map_cons, List.sum_cons, List.length_cons, Nat.succ_mul]
      omega
  have a := from_le ts 0 "["
  have b := s ts h
  have e : (listText ts).length = (textFrom 0 "[" ts).length + 1 := by
    unfold listText
    rw [strLen_append]
    rfl
  have e1 : Str.length "[" = 1 := by decide +kernel
  omega
theorem shownAll_map : ∀ ds : List PyData, PyData.shownAll ds = ds.map PyData.shown
  | [] => rfl
  | d :: ds => by rw [PyData.shownAll, shownAll_map ds]; rfl
theorem shown_str {w : Str} (h : W 100 w) : (PyData.shown (.str w)).length ≤ 1002 := by
  have := StrLaws.reprText_len w fun c hc => Nat.lt_of_lt_of_le (h.low c hc) (by decide)
  have := h.len
  rw [PyData.shown]
  omega
theorem shown_dS {r : List Str} (h : Ts r) : (dS r).shown.length ≤ 100402 := by
  unfold dS
  rw [PyData.shown, shownAll_map]
  have := list_le (ts := (r.map PyData.str).map PyData.shown) (m := 1004) (by
    intro t ht
    simp only [List.map_map, List.mem_map, Function.comp] at ht
    obtain ⟨w, hw, rfl⟩ := ht
    have := shown_str (h.w w hw)
    omega)
  rw [List.length_map, List.length_map] at this
  have := h.n
  omega
theorem shown_dR {rows : List (List Str)} (h : Rs rows) : (dR rows).shown.length ≤ sizeLine := by
  unfold dR
  rw [PyData.shown, shownAll_map]
  have := list_le (ts := (rows.map dS).map PyData.shown) (m := 100404) (by
    intro t ht
    simp only [List.map_map, List.mem_map, Function.comp] at ht
    obtain ⟨w, hw, rfl⟩ := ht
    have := shown_dS (h.r w hw)
    omega)
  rw [List.length_map, List.length_map] at this
  have := h.n
  have e : sizeLine = 16777216 := sizeLine_eq
  omega
theorem eqv_strs : ∀ a b : List Str, PyData.eqvAll (a.map PyData.str) (b.map PyData.str) = decide (a = b)
  | [], [] => rfl
  | [], _ :: _ => by simp [PyData.eqvAll]
  | _ :: _, [] => by simp [PyData.eqvAll]
  | x :: a, y :: b => by
    have ih := eqv_strs a b
    simp only [List.map_cons, PyData.eqvAll, PyData.eqv, ih]
    by_cases e : x = y
    · subst e; simp
    · simp [e]
theorem eqv_dS (a b : List Str) : PyData.eqv (dS a) (dS b) = decide (a = b) := by
  show PyData.eqv (.list _) (.list _) = _
  rw [PyData.eqv, eqv_strs]
theorem eqv_rows : ∀ a b : List (List Str), PyData.eqvAll (a.map dS) (b.map dS) = decide (a = b)
  | [], [] => rfl
  | [], _ :: _ => by simp [PyData.eqvAll]
  | _ :: _, [] => by simp [PyData.eqvAll]
  | x :: a, y :: b => by
    have ih := eqv_rows a b
    simp only [List.map_cons, PyData.eqvAll, eqv_dS, ih]
    by_cases e : x = y
    · subst e; simp
    · simp [e]
theorem eqv_dR (a b : List (List Str)) : PyData.eqv (dR a) (dR b) = decide (a = b) := by
  show PyData.eqv (.list _) (.list _) = _
  rw [PyData.eqv, eqv_rows]
theorem eqv_dO (a b : Option (List Str)) : PyData.eqv (dO a) (dO b) = decide (a = b) := by
  cases a with
  | none =>
    cases b with
    | none => rfl
    | some l => show PyData.eqv .none (.list _) = _; simp [PyData.eqv]
  | some k =>
    cases b with
    | none => show PyData.eqv (.list _) .none = _; simp [PyData.eqv]
    | some l => rw [show dO (some k) = dS k from rfl, show dO (some l) = dS l from rfl, eqv_dS]; simp
section
variable {K : PySem.W.Frag} {H : Hp}
theorem dp_strs : ∀ r : List Str, DpAll K H (r.map V.str) (r.map PyData.str)
  | [] => .nil
  | a :: r => .cons (.str a) (dp_strs r)
theorem dp_S {p : Addr} {r : List Str} (h : SqL K H p (r.map V.str)) : Dp K H (.ref p) (dS r) := .lst h (dp_strs r)
end
theorem shown_dO {o : Option (List Str)} (h : ∀ l, o = some l → Ts l) : (dO o).shown.length ≤ sizeLine := by
  cases o with
  | none => show (PyData.shown .none).length ≤ _; rw [PyData.shown]; exact Nat.le_trans (by decide +kernel : Str.length "None" ≤ 4) (by decide)
  | some l => exact Nat.le_trans (shown_dS (h l rfl)) (by decide)
end Dt
/-! == and != of an instance of an own class, by its own __eq__, and len by its own __len__ -/
namespace Ob
open PySem.Spec PyProof.Rows
section
variable {prog : Program} {w : World} {A : Around} {E : Value → Shared → Prop} {s : Shared} {K : PySem.W.Frag} {x C f L : Addr} {tb b : Value} {h₀ : Heap} {m : Str → Option Value} {ox : Obj} {od : Option Obj}
/-- the outcome of == as != asks it -/
def NeBack (Q : Value → Shared → Prop) (v : Value) (s' : Shared) : Prop := ∃ c : Bool, v = .bool c ∧ Q (.bool (!c)) s'
theorem ne_entry {Q : Fin → Shared → Prop} (hu : A.units < cLine) (X : K.In s.heap) (I : PySem.W.InstAt s.heap x ox C od) (hs : PySem.W.findIn K (.ref C) "__eq__" = some (some (.ref f))) (hf : PySem.W.isFn K (.ref f) = true)
    (h : wpAny (model prog w) A (call (.ref f) [.ref x, b]) (fun v s' => ∃ c : Bool, v = .bool c ∧ Q (.done (.ret (.bool (!c)))) s') E s) : wpAny (model prog w) A (Builtin.«object.__ne__» ⟨[.ref x, b], []⟩) Q E s := by
  unfold Builtin.«object.__ne__»
  refine wpAny_bind (wpAny_pure (wpAny_bind (wpAny_cRoomFor hu ?_)))
  refine wpAny_bind (PySem.W.ifBound_K X I hs hf (wpAny_mono h (fun v s' z => ?_) fun _ _ e => e))
  obtain ⟨c, rfl, q⟩ := z
  show wpAny _ _ (truthy (.bool c) >>= fun r => ret (.bool (!r))) _ _ _
  exact wpAny_bind (wpAny_truthy_bool (wpAny_pure q))
theorem ne_call {Q : Value → Shared → Prop} (hu : A.units + 1 < cLine) (X : K.In s.heap) (I : PySem.W.InstAt s.heap x ox C od) (hs : PySem.W.findIn K (.ref C) "__eq__" = some (some (.ref f))) (hf : PySem.W.isFn K (.ref f) = true) (hm : PySem.W.mroIn K C (.type "object") = some true)
    (h : wpAny (model prog w) A.in1 (call (.ref f) [.ref x, b]) (NeBack Q) E s) : wpAny (model prog w) A (call (.builtin "object.__ne__") [.ref x, b]) Q E s := by
  have sub : PySem.W.Looks (model prog w) s.heap (isInstance (.ref x) (.type "object")) true := I.type.andThen (PySem.W.looks_mroIn X hm)
  refine wpAny_call (codeAny_call_builtin F.cmp_object.ne.plain F.cmpEntry_ne (PySem.W.check_slot F.cmpKind_ne F.cmpSplit_ne sub (F.cmpArgs_ne _ _) ?_))
  exact ne_entry (A := A.in1) hu X I hs hf (wpAny_mono h (fun v s' z => z) fun _ _ e => e)
theorem ne_K {Q : Value → Shared → Prop} (hu : A.units + 1 < cLine) (X : K.In s.heap) (I : PySem.W.InstAt s.heap x ox C od) (hb : PySem.W.Looks (model prog w) s.heap (typeOf b) tb) (hn : PySem.W.notFirst K C tb = true)
    (hne : PySem.W.findIn K (.ref C) "__ne__" = some (some (.builtin "object.__ne__"))) (hs : PySem.W.findIn K (.ref C) "__eq__" = some (some (.ref f))) (hf : PySem.W.isFn K (.ref f) = true) (hm : PySem.W.mroIn K C (.type "object") = some true)
    (h : wpAny (model prog w) A.in1 (call (.ref f) [.ref x, b]) (NeBack Q) E s) : wpAny (model prog w) A (richCompare .NotEq (.ref x) b) Q E s := by
  have bnd : wpAny (model prog w) A (callSpecialIfBound? (.ref x) "__ne__" [b]) (fun r s' => ∃ c : Bool, r = some (.bool (!c)) ∧ Q (.bool (!c)) s') E s := by
    simp only [callSpecialIfBound?, bindSpecialIfBound?]
    refine wpAny_holding (wpAny_bind (wpAny_bind (wpAny_bind (I.type.here ((PySem.W.looks_findIn X hne).here ?_)))))
    simp only [F.cmp_object.ne.bind]
    refine wpAny_bind (wpAny_askSetting (wpAny_ite ?_))
    have fin : wpAny (model prog w) A (call (.builtin "object.__ne__") ([.ref x] ++ [b]) >>= fun v => pure (some v)) (fun r s' => ∃ c : Bool, r = some (.bool (!c)) ∧ Q (.bool (!c)) s') E s :=
      wpAny_bind (ne_call hu X I hs hf hm (wpAny_mono h (fun v s' ⟨c, e, q⟩ => ⟨c, e, wpAny_pure ⟨c, rfl, q⟩⟩) fun _ _ e => e))
    split
    · exact wpAny_bind (wpAny_pure (wpAny_pure fin))
    · exact wpAny_tryCatch (wpAny_bind (wpAny_pure (wpAny_pure fin)))
  have one : wpAny (model prog w) A (tryCompare (.ref x) "__ne__" b) (fun r s' => ∃ c : Bool, r = some (.bool (!c)) ∧ Q (.bool (!c)) s') E s := by
    unfold tryCompare
    refine wpAny_bind (wpAny_mono bnd (fun r s' z => ?_) fun _ _ e => e)
    obtain ⟨c, rfl, q⟩ := z
    exact wpAny_pure ⟨c, rfl, q⟩
  have hu0 : A.units < cLine := Nat.lt_of_succ_lt hu
  unfold richCompare
  simp only [oneThing_ref]
  refine wpAny_holding (wpAny_bind (wpAny_cRoomFor hu0 (wpAny_bind (I.type.here (wpAny_bind (hb.here ?_))))))
  split
  · rename_i q
    have e : PySem.W.subIn K tb (.ref C) = some false := (Bool.or_eq_true_iff.mp hn).elim (fun e => by rw [beq_iff_eq.mp e] at q; simp at q) (fun e => beq_iff_eq.mp e)
    refine wpAny_bind ((PySem.W.looks_subIn X e).here ?_)
    simp only [Bool.false_eq_true, if_false]
    refine wpAny_bind (wpAny_mono one (fun r s' z => ?_) fun _ _ e => e)
    obtain ⟨c, rfl, hq⟩ := z
    exact wpAny_pure hq
  · refine wpAny_bind (wpAny_pure ?_)
    simp only [Bool.false_eq_true, if_false]
    refine wpAny_bind (wpAny_mono one (fun r s' z => ?_) fun _ _ e => e)
    obtain ⟨c, rfl, hq⟩ := z
    exact wpAny_pure hq
end
section
variable {X : Cx} {CX : CXT} {k j : Nat} {C : Addr} {sp : Sp} {E : XK}
/-- the own == of the class at C -/
def EqCal (P : Program) (w : World) (K : PySem.W.Frag) (mg : Str → Option Value) (base : Heap) (CX : CXT) (C : Addr) (k : Nat) (sp : Sp) : Prop :=
  ∃ (f : Addr) (fd : FuncData) (ps : List Str), FnG P w K mg base CX k f fd ps sp ∧ PySem.W.findIn K (.ref C) "__eq__" = some (some (.ref f)) ∧ PySem.W.isFn K (.ref f) = true ∧ Binds K fd ps []
/-- what it promises must be a truth value -/
def rEqO (K : PySem.W.Frag) (C : Addr) (sp : Sp) (neg : Bool) : R2 := fun x y H Q => ∃ (a dx : Addr) (fs : List (Str × V)) (t : Value), x = .ref a ∧ H a = some (.ins C dx fs) ∧ TyX K H y t ∧ PySem.W.notFirst K C t = true ∧
  sp [.ref a, y] H (fun v H' => ∃ c : Bool, v = .bl c ∧ Q (.bl (if neg = true then !c else c)) H') E0
theorem op_eqO (M : EqCal X.prog X.w X.K X.mg X.base CX C k sp) (g : X.A.guards = some []) (hr : Room j X.A) (hk : k ≤ j) (hx : Passes CX X E0) : OpR X (compareOp .Eq) (rEqO X.K C sp false) := by
  obtain ⟨f, fd, ps, F, hs, hf, hb⟩ := M
  intro pins s σ H x y v u Q I rx ry h
  obtain ⟨a, dx, fs, t, rfl, ha, ty, hn, q⟩ := h
  obtain rfl : v = Value.ref a := rx
  obtain ⟨od, J⟩ := Ow.instAt I ha
  obtain ⟨m, hF⟩ := I.fr
  obtain ⟨Pk, Z, pk, _⟩ := kit_of I ry ty
  refine PySem.W.cmp_K (op := .Eq) (tb := t) hr.units0 hF I.ok.mod.kin J (Z.ty _ _ I.kIn pk) hn hs hf (wpAny_call (codeAny_mono (goG F g (hr.mono hk) I.env0 I.kIn hb (.cons (show RelV (.ref a) (.ref a) from rfl) (.cons ry .nil)) q) fun r s' z => ?_))
  match r, z with
  | .error er, z => exact hx pins σ H s er s' I z
  | .ok .next, z => exact z.elim
  | .ok .brk, z => exact z.elim
  | .ok .cont, z => exact z.elim
  | .ok (.ret u'), z =>
    obtain ⟨v, H', I', rv, c, rfl, q'⟩ := I.after z
    obtain rfl : u' = Value.bool c := rv
    exact ⟨.bl c, H', I', rfl, q'⟩
theorem op_neO (M : EqCal X.prog X.w X.K X.mg X.base CX C k sp) (hne : PySem.W.findIn X.K (.ref C) "__ne__" = some (some (.builtin "object.__ne__"))) (hm : PySem.W.mroIn X.K C (.type "object") = some true)
    (g : X.A.guards = some []) (hr : Room j X.A) (hk : k + 1 ≤ j) (hx : Passes CX X E0) : OpR X (compareOp .NotEq) (rEqO X.K C sp true) := by
  obtain ⟨f, fd, ps, F, hs, hf, hb⟩ := M
  intro pins s σ H x y v u Q I rx ry h
  obtain ⟨a, dx, fs, t, rfl, ha, ty, hn, q⟩ := h
  obtain rfl : v = Value.ref a := rx
  obtain ⟨od, J⟩ := Ow.instAt I ha
  obtain ⟨Pk, Z, pk, _⟩ := kit_of I ry ty
  refine ne_K (tb := t) (by have := hr.un; omega) I.kIn J (Z.ty _ _ I.kIn pk) hn hne hs hf hm (wpAny_call (codeAny_mono (goG F (A := X.A.in1) g (hr.mono hk).in1 I.env0.in1 I.kIn hb (.cons (show RelV (.ref a) (.ref a) from rfl) (.cons ry .nil)) q) fun r s' z => ?_))
  match r, z with
  | .error er, z => exact hx pins σ H s er s' I z
  | .ok .next, z => exact z.elim
  | .ok .brk, z => exact z.elim
  | .ok .cont, z => exact z.elim
  | .ok (.ret u'), z =>
    obtain ⟨v, H', I', rv, c, rfl, q'⟩ := I.after z
    obtain rfl : u' = Value.bool c := rv
    exact ⟨c, rfl, .bl (!c), H', I', rfl, q'⟩
/-- the own len -/
def LenCal (P : Program) (w : World) (K : PySem.W.Frag) (mg : Str → Option Value) (base : Heap) (CX : CXT) (C : Addr) (k : Nat) (sp : Sp) : Prop :=
  ∃ (f : Addr) (fd : FuncData) (ps : List Str), FnG P w K mg base CX k f fd ps sp ∧ PySem.W.findIn K (.ref C) "__len__" = some (some (.ref f)) ∧ PySem.W.isFn K (.ref f) = true ∧ Binds K fd ps []
def rLenO (C : Addr) (sp : Sp) : List V → Hp → VK → Prop := fun xs H Q => ∃ (a dx : Addr) (fs : List (Str × V)), xs = [.ref a] ∧ H a = some (.ins C dx fs) ∧ sp [.ref a] H (fun v H' => ∃ n : Int, v = .int n ∧ 0 ≤ n ∧ n < 2 ^ 63 ∧ Q (.int n) H') E0
theorem call_lenO (M : LenCal X.prog X.w X.K X.mg X.base CX C k sp) (g : X.A.guards = some []) (hr : Room j X.A) (hk : k + 1 ≤ j) (hx : Passes CX X E0) : CallR X (.builtin "len") (rLenO C sp) := by
  obtain ⟨f, fd, ps, F, hs, hf, hb⟩ := M
  intro pins s σ H xs us Q I r h
  obtain ⟨a, dx, fs, rfl, ha, q⟩ := h
  obtain ⟨u, rfl, ru⟩ := vals1 r
  obtain rfl : u = Value.ref a := ru
  obtain ⟨od, J⟩ := Ow.instAt I ha
  obtain ⟨m, hF⟩ := I.fr
  refine PySem.W.len_K hF I.ok.mod.kin J hs hf (wpAny_call (codeAny_mono (goG F (A := X.A.in1) g (hr.mono hk).in1 I.env0.in1 I.kIn hb (.cons (show RelV (.ref a) (.ref a) from rfl) .nil) q) fun r s' z => ?_))
  match r, z with
  | .error er, z => exact hx pins σ H s er s' I z
  | .ok .next, z => exact z.elim
  | .ok .brk, z => exact z.elim
  | .ok .cont, z => exact z.elim
  | .ok (.ret u'), z =>
    obtain ⟨v, H', I', rv, n, rfl, h0, h1, q'⟩ := I.after z
    obtain ⟨t, rfl⟩ := (show ∃ t, u' = Value.int n t from rv)
    exact ⟨⟨h0, h1⟩, .int n, H', I'.tok _, ⟨_, rfl⟩, q'⟩
end
end Ob
/-! == and != of dicts whose values are data, or dicts again: both outcomes -/
namespace Ob
open PySem.Spec PyProof.Rows
section
variable {prog : Program} {w : World} {Ky : Type} [DecidableEq Ky] {knd : KeyKind prog w Ky} {A : Around} {s : Shared} {a b : Addr} {ka kb : List (Ky × Value)} {r : Bool}
theorem neP_dicts (ha : (a == sysModules) = false) (hb : (b == sysModules) = false) (da : s.heap.DictOf knd a ka) (db : s.heap.DictOf knd b kb) (hu : A.units < cLine) (hits : ka.length = kb.length → PySem.W.KeqHitsP prog w A.in1 s kb ka r)
    (E Q : Value → Shared → Prop) (h : Q (.bool (!(ka.length == kb.length && r))) s) : wpAny (model prog w) A (richCompare .NotEq (.ref a) (.ref b)) Q E s := by
  refine wpAny_richCompare_same_room (op := .NotEq) da.typeIs db.typeIs PySem.F.slot_dict_ne ?_ hu
  refine wpAny_call_entry PySem.F.slot_dict_ne da.typeIs PySem.F.entry_dict_ne ?_ (PySem.F.args_dict_ne_2 _ _)
  show wpAny _ _ (Builtin.Dict.dictSlotArgs "__ne__" ⟨[.ref a, .ref b], []⟩ >>= fun p => _) _ _ s
  unfold Builtin.Dict.dictSlotArgs
  refine wpAny_bind (wpAny_bind (wpAny_notOrdered_dict da.typeIs (show wpAny _ _ (pure (Value.ref a, Value.ref b)) _ _ s from wpAny_pure ?_)))
  refine wpAny_bind (wpAny_isInstance (T := "dict") db.typeIs PySem.F.sub_dict_dict ?_)
  rw [show (!true) = false from rfl, if_neg Bool.false_ne_true]
  refine wpAny_bind (wpAny_pure (wpAny_bind (wpAny_pure (wpAny_bind (PySem.W.samePairsP ha hb da db hits ?_)))))
  exact wpAny_pure ⟨_, rfl, (fun x => nomatch x), by simpa using h⟩
end
/-- what the values under the keys of ks say, one after another, by those in ls -/
inductive HitF (F : V → V → Bool → Prop) (ls : List (Key × V)) : List (Key × V) → Bool → Prop
  | nil : HitF F ls [] true
  | miss {k : Key} {v : V} {r : List (Key × V)} : valV ls k = none → HitF F ls ((k, v) :: r) false
  | hit {k : Key} {v y : V} {r : List (Key × V)} {e b : Bool} : valV ls k = some y → F v y e → HitF F ls r b → HitF F ls ((k, v) :: r) (e && b)
def EqB (K : PySem.W.Frag) (H : Hp) : Nat → V → V → Bool → Prop
  | 0 => fun x y b => ∃ d e, Dp K H x d ∧ Dp K H y e ∧ SeqAt.shaped d = true ∧ SeqAt.shaped e = true ∧ b = PyData.eqv d e
  | n + 1 => fun x y b => (∃ d e, Dp K H x d ∧ Dp K H y e ∧ SeqAt.shaped d = true ∧ SeqAt.shaped e = true ∧ b = PyData.eqv d e) ∨
      ∃ a c ks ls r, x = .ref a ∧ y = .ref c ∧ a ≠ c ∧ H a = some (.dK ks) ∧ H c = some (.dK ls) ∧ HitF (EqB K H n) ls ks r ∧ b = (ks.length == ls.length && r)
theorem hitF_run {P : Program} {w : World} {A : Around} {s : Shared} {F : V → V → Bool → Prop} (ih : ∀ x y b v u, F x y b → RelV x v → RelV y u → SeqAt.EqP P w A s v u b) {ls : List (Key × V)} {vb : List (Key × Value)} (rb : KV ls vb) :
    ∀ {ks : List (Key × V)} {va : List (Key × Value)} {r : Bool}, KV ks va → HitF F ls ks r → PySem.W.KeqHitsP P w A s vb va r
  | [], _, _, .nil, .nil => .nil
  | (k, v) :: ks, (k', u) :: va, _, .cons h t, z => by
    obtain ⟨h1, h2⟩ := h
    obtain rfl : k = k' := h1
    have lk : RelO (valV ls k) (valueAt vb k) := rb.val k
    cases z with
    | miss hn =>
      rw [hn] at lk
      exact .miss (RelO.none_of lk)
    | hit hy hf hr =>
      rw [hy] at lk
      obtain ⟨y', ey, ry⟩ := lk.some_of
      exact .hit ey (ih _ _ _ _ _ hf h2 ry) (hitF_run ih rb t hr)
section
variable {X : Cx} {pins : List (Addr × Obj)} {σ : L2.St} {H : Hp} {s : Shared}
theorem eqB_run (I : Inv X pins σ H s) : ∀ (n : Nat) (A : Around), A.units + n + 66 < cLine → ∀ (x y : V) (b : Bool) (v u : Value), EqB X.K H n x y b → RelV x v → RelV y u → SeqAt.EqP X.prog X.w A s v u b := by
  have dat : ∀ (A : Around), A.units + 64 < cLine → ∀ (x y : V) (b : Bool) (v u : Value), (∃ d e, Dp X.K H x d ∧ Dp X.K H y e ∧ SeqAt.shaped d = true ∧ SeqAt.shaped e = true ∧ b = PyData.eqv d e) → RelV x v → RelV y u → SeqAt.EqP X.prog X.w A s v u b := by
    rintro A hu x y b v u ⟨d, e, hd, he, sd, se, rfl⟩ rx ry
    obtain ⟨as, r1⟩ := Dp.reads I d x v hd rx
    obtain ⟨bs, r2⟩ := Dp.reads I e y u he ry
    exact (SeqAt.eqAt_reads d e A s v u as bs r1 r2 (SeqAt.canLay_of_shaped sd) (SeqAt.canLay_of_shaped se) (SeqAt.room_of_shaped sd hu)).eqP
  intro n
  induction n with
  | zero => exact fun A hu x y b v u h rx ry => dat A (by omega) x y b v u h rx ry
  | succ n ih =>
    intro A hu x y b v u h rx ry
    rcases h with h | ⟨a, c, ks, ls, r, rfl, rfl, ne, ha, hc, hf, rfl⟩
    · exact dat A (by omega) x y b v u h rx ry
    · obtain rfl : v = Value.ref a := rx
      obtain rfl : u = Value.ref c := ry
      obtain ⟨_, ya, va, ra, da⟩ := (show ObjOk X.prog X.w H s.heap a (.dK ks) from I.hok a _ ha)
      obtain ⟨_, yb, vb, rb, db⟩ := (show ObjOk X.prog X.w H s.heap c (.dK ls) from I.hok c _ hc)
      have hit := hitF_run (ih A.in1 (by show A.units + 1 + n + 66 < cLine; omega)) rb ra hf
      have e1 : va.length = ks.length := (Paired.length ra).symm
      have e2 : vb.length = ls.length := (Paired.length rb).symm
      exact SeqAt.eqP_refs ne fun E Q q => PySem.W.rcP_dicts ya yb da db (by omega) (fun _ => hit) E Q (by rw [e1, e2]; exact q)
end
section
variable {X : Cx}
def rEqX (K : PySem.W.Frag) (neg : Bool) : R2 := fun x y H Q => ∃ a c ks ls r, x = .ref a ∧ y = .ref c ∧ H a = some (.dK ks) ∧ H c = some (.dK ls) ∧ HitF (EqB K H 2) ls ks r ∧ Q (.bl (if neg = true then !(ks.length == ls.length && r) else ks.length == ls.length && r)) H
theorem op_eqX (hu : X.A.units + 80 < cLine) : OpR X (compareOp .Eq) (rEqX X.K false) := by
  intro pins s σ H x y v u Q I rx ry h
  obtain ⟨a, c, ks, ls, r, rfl, rfl, ha, hc, hf, q⟩ := h
  obtain rfl : v = Value.ref a := rx
  obtain rfl : u = Value.ref c := ry
  obtain ⟨_, ya, va, ra, da⟩ := (show ObjOk X.prog X.w H s.heap a (.dK ks) from I.hok a _ ha)
  obtain ⟨_, yb, vb, rb, db⟩ := (show ObjOk X.prog X.w H s.heap c (.dK ls) from I.hok c _ hc)
  have hit := hitF_run (eqB_run I 2 X.A.in1 (by show X.A.units + 1 + 2 + 66 < cLine; omega)) rb ra hf
  have e1 : va.length = ks.length := (Paired.length ra).symm
  have e2 : vb.length = ls.length := (Paired.length rb).symm
  exact PySem.W.rcP_dicts ya yb da db (by omega) (fun _ => hit) _ _ ⟨_, H, I, (by rw [e1, e2]; rfl), q⟩
theorem op_neX (hu : X.A.units + 80 < cLine) : OpR X (compareOp .NotEq) (rEqX X.K true) := by
  intro pins s σ H x y v u Q I rx ry h
  obtain ⟨a, c, ks, ls, r, rfl, rfl, ha, hc, hf, q⟩ := h
  obtain rfl : v = Value.ref a := rx
  obtain rfl : u = Value.ref c := ry
  obtain ⟨_, ya, va, ra, da⟩ := (show ObjOk X.prog X.w H s.heap a (.dK ks) from I.hok a _ ha)
  obtain ⟨_, yb, vb, rb, db⟩ := (show ObjOk X.prog X.w H s.heap c (.dK ls) from I.hok c _ hc)
  have hit := hitF_run (eqB_run I 2 X.A.in1 (by show X.A.units + 1 + 2 + 66 < cLine; omega)) rb ra hf
  have e1 : va.length = ks.length := (Paired.length ra).symm
  have e2 : vb.length = ls.length := (Paired.length rb).symm
  exact neP_dicts ya yb da db (by omega) (fun _ => hit) _ _ ⟨_, H, I, (by rw [e1, e2]; rfl), q⟩
end
end Ob
/-! len(set(t)) of a tuple of texts: how many different ones -/
namespace Ss
open PySem.Spec PyProof.Rows
/-- how many different texts are among the first i -/
def dcN (xs : List Str) : Nat → Nat
  | 0 => 0
  | i + 1 => if (xs.take i).any (· == xs.getD i Str.empty) = true then dcN xs i else dcN xs i + 1
theorem dcN_le (xs : List Str) : ∀ i, dcN xs i ≤ i
  | 0 => Nat.le_refl _
  | i + 1 => by
    have := dcN_le xs i
    show (if (xs.take i).any (· == xs.getD i Str.empty) = true then dcN xs i else dcN xs i + 1) ≤ i + 1
    split <;> omega
theorem any_eq {xs : List Str} {x : Str} : xs.any (· == x) = true ↔ x ∈ xs := by
  rw [List.any_eq_true]
  exact ⟨fun ⟨y, m, e⟩ => by rw [← beq_iff_eq.mp e]; exact m, fun m => ⟨x, m, beq_self_eq_true x⟩⟩
theorem getD_at {xs : List Str} {i : Nat} (h : i < xs.length) : xs.getD i Str.empty = xs[i] := by
  rw [List.getD_eq_getElem?_getD, List.getElem?_eq_getElem h] <;> rfl
theorem dcN_nodup {xs : List Str} (nd : xs.Nodup) : ∀ i, i ≤ xs.length → dcN xs i = i
  | 0, _ => rfl
  | i + 1, h => by
    show (if (xs.take i).any (· == xs.getD i Str.empty) = true then dcN xs i else dcN xs i + 1) = i + 1
    have hi : i < xs.length := h
    have ne : ¬ (xs.take i).any (· == xs.getD i Str.empty) = true := fun z => by
      rw [any_eq, getD_at hi] at z
      obtain ⟨j, hj, e⟩ := List.mem_iff_getElem.mp z
      rw [List.getElem_take] at e
      rw [List.length_take] at hj
      have := (List.getElem_inj nd).mp e
      omega
    rw [if_neg ne, dcN_nodup nd i (Nat.le_of_lt hi)]
theorem nodup_dcN {xs : List Str} : ∀ i, i ≤ xs.length → dcN xs i = i → (xs.take i).Nodup
  | 0, _, _ => by simp
  | i + 1, h, e => by
    have hi : i < xs.length := h
    have e' : (if (xs.take i).any (· == xs.getD i Str.empty) = true then dcN xs i else dcN xs i + 1) = i + 1 := e
    have le := dcN_le xs i
    by_cases c : (xs.take i).any (· == xs.getD i Str.empty) = true
    · rw [if_pos c] at e'; omega
    · rw [if_neg c] at e'
      have ih := nodup_dcN i (Nat.le_of_lt hi) (by omega)
      have nm : xs[i] ∉ xs.take i := fun z => c (by rw [any_eq, getD_at hi]; exact z)
      rw [List.take_add_one, List.getElem?_eq_getElem hi]
      rw [List.nodup_append]
      refine ⟨ih, by simp, fun a ha b hb z => ?_⟩
      have hb : b = xs[i] := by simpa using hb
      subst z hb
      exact nm ha
theorem dc_iff {xs : List Str} : dcN xs xs.length = xs.length ↔ xs.Nodup := by
  refine ⟨fun e => ?_, fun nd => dcN_nodup nd _ (Nat.le_refl _)⟩
  have := nodup_dcN xs.length (Nat.le_refl _) e
  rwa [List.take_length] at this
section
variable {P : Program} {w : World} {A : Around} {E : Value → Shared → Prop} {s : Shared}
theorem upd_texts {I : Addr} {fp wr : List Addr} {G : Array GenState → Array GenState → Prop} {n : Nat} {Pv : Nat → Value → Prop} {St : Nat → Shared → Prop} {R : Result → Shared → Prop} (W : WalksS P w A.in1 I fp wr G n Pv St) (S : Addr) (hSf : S ∉ fp)
    (xs : List Str) (hn : n ≤ xs.length) (hb : n + 1 < scanBound) (hval : ∀ i v, Pv i v → ∃ t, v = .str (xs.getD i Str.empty) t) : ∀ (k i : Nat) (s : Shared), n - i = k → i ≤ n → St i s → s.heap.SetOf (PySem.strKind P w) S (fun z => (xs.take i).any (· == z)) (dcN xs i) →
      (∀ s', Moved (S :: wr) G s s' → s'.heap.SetOf (PySem.strKind P w) S (fun z => (xs.take n).any (· == z)) (dcN xs n) → R (.ok (.ret .none)) s') → codeAny (model P w) A (.builtin "set.update.loop" ⟨[.ref S, .ref I], []⟩) R s := by
  have hSw : S ∉ wr := fun h => hSf (W.sub _ h)
  have more : ∀ b ∈ wr, b ∈ S :: wr := fun b hb => List.mem_cons_of_mem _ hb
  have stay : ∀ {s1 s2 : Shared} {G' : Array GenState → Array GenState → Prop} {p : Str → Bool} {c : Nat}, Moved wr G' s1 s2 → s1.heap.SetOf (PySem.strKind P w) S p c → s2.heap.SetOf (PySem.strKind P w) S p c := fun hm ⟨o, es, ep, t, ho, rest⟩ => ⟨o, es, ep, t, hm.heap S _ hSw ho, rest⟩
  intro k
  induction k with
  | zero =>
    intro i s hk hi hst hS hR
    obtain rfl : i = n := by omega
    refine codeAny_builtin F.entry_set_update_loop ?_
    rw [Around.under_plainId F.plain_set_update_loop _]
    exact (show wpAny _ A.in1 (pyNext (.ref I) >>= _) _ _ s from wpAny_bind (W.done s _ _ hst fun s' hm => (show wpAny _ A.in1 (ret Value.none) _ _ s' from wpAny_pure (hR s' (hm.mono more) (stay hm hS)))))
  | succ k ih =>
    intro i s hk hi hst hS hR
    have hlt : i < n := by omega
    refine codeAny_builtin F.entry_set_update_loop ?_
    rw [Around.under_plainId F.plain_set_update_loop _]
    refine (show wpAny _ A.in1 (pyNext (.ref I) >>= _) _ _ s from wpAny_bind (W.item i s _ _ hlt hst fun v s' hP hst' hm => ?_))
    obtain ⟨t, rfl⟩ := hval i v hP
    have hS1 := stay hm hS
    refine (show wpAny _ A.in1 (holding [Value.str (xs.getD i Str.empty) t] (setAdd S (.str (xs.getD i Str.empty) t)) >>= _) _ _ s' from wpAny_bind (wpAny_holding ?_))
    unfold setAdd
    refine wpAny_holding (wpAny_bind ((PySem.strKind P w).pyHash (k := xs.getD i Str.empty) (strKind_is _ _ _ _) ?_))
    have hle := dcN_le xs i
    refine wpAny_setAddHashed_of (knd := PySem.strKind P w) (s := { s' with toks := s'.toks + 1 }) (strKind_is _ _ _ _) rfl hS1 (by omega) fun h' hsb hS2 => ?_
    have hS3 : h'.SetOf (PySem.strKind P w) S (fun z => (xs.take (i + 1)).any (· == z)) (dcN xs (i + 1)) := by
      refine SetOf_congr hS2 (fun z => ?_) rfl
      have hx : i < xs.length := by omega
      show ((xs.take i).any (· == z) || decide (z = xs.getD i Str.empty)) = (xs.take (i + 1)).any (· == z)
      rw [List.take_add_one, List.getElem?_eq_getElem hx, getD_at hx, List.any_append]
      congr 1
      show decide (z = xs[i]) = ((xs[i] == z) || false)
      rw [Bool.or_false, Bool.eq_iff_iff, decide_eq_true_iff, beq_iff_eq]
      exact eq_comm
    refine wpAny_pure ⟨plainId_quiet F.plain_set_update_loop _, ih (i + 1) _ (by omega) hlt (W.frame _ s' _ _ hst' (Nat.le_succ _) fun b hb o e => ?_) hS3 fun s'' hm2 hS4 => ?_⟩
    · exact (hsb.2 b (fun h : b = S => hSf (by rw [← h]; exact hb))).trans e
    · refine hR s'' (Moved.trans W.gtrans ((hm.mono more).then_heap (Nat.le_succ _) fun b o hb e => ?_) hm2) hS4
      exact (hsb.2 b (fun h : b = S => hb (by rw [h]; exact List.mem_cons_self))).trans e
abbrev setO (led : Bool) : Obj := { cls := .type "set", dict := none, data := .set #[] 0 (.fresh 0 0 led) }
set_option maxHeartbeats 8000000 in
theorem set_texts {l : Addr} {items : Array Value} {xs : List Str} {Q : Value → Shared → Prop} (hh : A.handled = none) (hl : s.heap.IsTuple l items) (hi : StrsAre items.toList xs) (hb : xs.length + 1 < scanBound)
    (h : ∀ (h' : Heap) (tk : Nat), h'.SetOf (PySem.strKind P w) s.heap.objs.size (fun z => xs.any (· == z)) (dcN xs xs.length) → (∀ b o, b < s.heap.objs.size → s.heap.get? b = some o → h'.get? b = some o) → Q (.ref s.heap.objs.size) { s with heap := h', toks := tk }) :
    wpAny (model P w) A (call (.type "set") [.ref l]) Q E s := by
  obtain ⟨c, tl, hmro⟩ := F.called_set.mro
  have hmade := F.called_set.made; have hsub := F.called_set.sub
  refine wpAny_call (codeAny_of_tree (show wpAny _ _ (callAny (.type "set") _) _ _ _ from wpAny_pure ⟨Code.quiet_builtin _ (by decide +kernel), codeAny_builtin F.entry_type_call ?_⟩))
  rw [Around.under_plain (weight_type_call_type "set" [.ref l] []) rfl]
  have h1 := F.called_set.notType; have h2 := F.called_set.canCreate; have hct := F.typeCall_set_1 (.ref l)
  repeat (any_goals (first | assumption | wp_step))
  have hsz : xs.length = items.size := by rw [← StrsAre.len_eq hi, Array.length_toList]
  refine codeAny_mono (code_set_new_1 (.ref l) (E := E) (Q₁ := fun obj s₁ => ∃ led : Bool, obj = .ref s.heap.objs.size ∧ s₁ = { s with heap := s.heap.push (setO led) }) fun led => ⟨led, rfl, rfl⟩) fun r s₁ hr => ?_
  match r, hr with
  | .error e, hr => exact hr
  | .ok .next, hr => exact hr.elim
  | .ok .brk, hr => exact hr.elim
  | .ok .cont, hr => exact hr.elim
  | .ok (.ret obj), hr =>
    obtain ⟨led, rfl, rfl⟩ := hr
    have hS : (s.heap.push (setO led)).get? s.heap.objs.size = some (setO led) := Heap.get?_push_size _ rfl
    have hT : Shared.TypeIs { s with heap := s.heap.push (setO led) } (.ref s.heap.objs.size) "set" := ⟨_, hS, rfl⟩
    have hli := F.called_set.init.lookup; have hbi := F.called_set.init.bind (.ref s.heap.objs.size)
    repeat (any_goals (first | assumption | wp_step))
    refine codeAny_mono (codeAny_call_builtin (R := wants (fun r s₂ => r = .none ∧ ∃ h' tk, s₂ = { s with heap := h', toks := tk } ∧ h'.SetOf (PySem.strKind P w) s.heap.objs.size (fun z => xs.any (· == z)) (dcN xs xs.length) ∧ (∀ b o, b < s.heap.objs.size → s.heap.get? b = some o → h'.get? b = some o)) E)
      F.called_set.init.plain F.entry_set_init (check_set_init_1 hT ?_)) fun r₂ s₂ hr₂ => ?_
    · obtain ⟨⟨ocls, odict, odata, oslots⟩, hol, hcl, nl, hdl⟩ := hl
      simp only at hcl hdl
      subst hcl hdl
      have hol' : (s.heap.push (setO led)).get? l = some { cls := .type "tuple", dict := odict, data := .seq items nl, slots := oslots } := Heap.get?_push_of_some _ hol
      have hsls := F.sub_tuple_set; have hslf := F.sub_tuple_frozenset; have hne : (Value.type "tuple" == Value.type "dict") = false := by decide
      have hl1 : (s.heap.push (setO led)).IsTuple l items := ⟨_, hol', rfl, nl, rfl⟩
      unfold Builtin.«set.__init__» noKeywords Builtin.Frozenset.updateFrom
      generalize hPI : pyIter = PI
      wp_walk
      subst hPI
      refine wpAny_pyIter_tuple hl1 (wpAny_bind (wpAny_runValue ?_))
      have hlS : l < s.heap.objs.size := Heap.lt_size hol
      have pz : (s.heap.push (setO led)).objs.size = s.heap.objs.size + 1 := Heap.size_push ..
      have hh3 : A.in1.in1.in1.handled = none := by simp [hh]
      have hneI : l ≠ (s.heap.push (setO led)).objs.size := by rw [Heap.size_push]; exact Nat.ne_of_lt (Nat.lt_succ_of_lt hlS)
      have hSf : s.heap.objs.size ∉ [(s.heap.push (setO led)).objs.size, l] := by
        rw [Heap.size_push]; simp only [List.mem_cons, List.not_mem_nil, or_false, not_or]
        exact ⟨Nat.ne_of_lt (Nat.lt_succ_self _), Nat.ne_of_gt hlS⟩
      have hval : ∀ (i : Nat) (v : Value), items[i]? = some v → ∃ t, v = .str (xs.getD i Str.empty) t := fun i v hv => SS.strs_at hi i v (by rw [Array.getElem?_toList]; exact hv)
      refine upd_texts ((Walks.tuple hh3 _ l hneI items).toS) s.heap.objs.size hSf xs (by omega) (by omega) hval (items.size - 0) 0 _ (by omega) (Nat.zero_le _) ⟨⟨_, Heap.get?_push_size _ rfl, rfl, rfl⟩, (hl1.push _)⟩ ?hS0 ?hR
      case hS0 =>
        have hget : ((s.heap.push (setO led)).push { cls := .type "tuple_iterator", data := .fields #[.ref l, .int 0 0] }).get? s.heap.objs.size = some (setO led) := Heap.get?_push_of_some _ hS
        exact SetOf_congr ((setObjOf_fresh (knd := PySem.strKind P w) led).setOf hget (by unfold scanBound; omega)) (fun _ => rfl) rfl
      case hR =>
        intro s' hm hS'
        obtain ⟨h', g', d', tk', os'⟩ := s'
        obtain rfl : g' = s.gens := hm.gens
        obtain rfl : d' = s.drawn := hm.drawn
        obtain rfl : os' = s.os := hm.os
        refine (show wpAny _ _ _ _ _ _ from wpAny_pure (show wpAny _ _ (ret Value.none) _ _ _ from wpAny_pure ⟨rfl, h', tk', rfl, ?_, fun b o hb e => ?_⟩))
        · rw [← hsz, List.take_length] at hS'
          exact hS'
        · refine hm.heap b o ?_ (Heap.get?_push_of_some _ (Heap.get?_push_of_some _ e))
          rw [Heap.size_push]; simp only [List.mem_cons, List.not_mem_nil, or_false, not_or]
          exact ⟨Nat.ne_of_lt hb, Nat.ne_of_lt (Nat.lt_succ_of_lt hb)⟩
    · match r₂, hr₂ with
      | .error e, hr₂ => exact hr₂
      | .ok .next, hr₂ => exact hr₂.elim
      | .ok .brk, hr₂ => exact hr₂.elim
      | .ok .cont, hr₂ => exact hr₂.elim
      | .ok (.ret r), hr₂ =>
        obtain ⟨rfl, h', tk, rfl, hS', hk'⟩ := hr₂
        repeat (any_goals (first | assumption | wp_step))
        exact h _ _ hS' hk'
end
section
variable {X : Cx}
def tLenSetT (K : PySem.W.Frag) (ta : TE) : TE := fun σ H Q => ta σ H fun x H1 => ∃ (l : Addr) (xs : List Str), x = .ref l ∧ SqT K H1 l (xs.map V.str) ∧ xs.length ≤ 1000 ∧ Q (.int (dcN xs xs.length : Nat)) H1
theorem pe_lenSetT {a : Expr} {ta : TE} {p p2 q pos : Pos} (hc : X.calm = true) (hm : X.mg "len" = none) (hm2 : X.mg "set" = none) (ha : PE X a ta) (hg : Gl X "len" := by rfl) (hg2 : Gl X "set" := by rfl)
    (na : starEach [a] X.env = (false, eval a X.env) :: starEach [] X.env := by rfl) : PE X (.Call (.Name "len" p) [.Call (.Name "set" p2) [a] [] q] [] pos) (tLenSetT X.K ta) := by
  refine ⟨fun pins s σ H Q I h => Call_ (ld_blt I hg hm boot_len (callWith_builtin1 (args_cons ?_ rfl) rfl rfl))⟩
  refine Call_ (ld_blt I hg2 hm2 boot_set (callWith_type1 (args_cons (thn (ha.run pins s σ H _ I h) fun v s1 ⟨x, H1, I1, r1, q1⟩ => args_nil ?_) na) na rfl))
  obtain ⟨l, xs, rfl, hq, hl, q1⟩ := q1
  cases r1
  obtain ⟨its, r, pl, hz⟩ := I1.tuple hq
  have sb : (1000 : Nat) + 1 < scanBound := by decide +kernel
  refine set_texts (I1.ok.hd hc) pl (by simpa using strsAre_of r) (by omega) fun h' tk hS hk => args_nil ?_
  obtain ⟨o, es, ep, t, ho, hex, hd, _, _, _, hf, hn⟩ := hS
  have I2 : Inv X pins σ H1 { s1 with heap := h', toks := tk } := I1.kept fun b o e => hk b o (Heap.lt_size e) e
  have le := dcN_le xs xs.length
  exact call_len_set ho hex hd hf (by rw [hn] <;> omega) ⟨.int (dcN xs xs.length : Nat), H1, I2.tok _, ⟨_, by rw [hn]⟩, q1⟩
end
end Ss
/-! a, *b = t : a target with a star, the value a tuple -/
namespace Sr
open PySem PySem.Spec PySem.Calls PyProof.Rows PySem.W
section
variable {prog : Program} {w : World} {A : Around} {E : Value → Shared → Prop} {s : Shared}
theorem star_tup {a : Addr} {us : Array Value} {n i : Nat} {Q : List Value → Shared → Prop} (ha : IsTup s.heap a us) (hh : A.handled = none) (hi : i < n) (hn : n ≤ us.size + 1) (hz : us.size ≤ 16384)
    (q : ∀ (g : Heap) (tk : Nat), (∀ b o, s.heap.get? b = some o → g.get? b = some o) → Q (us.toList.take i ++ [.ref g.objs.size] ++ (us.toList.drop i).drop (us.size + 1 - n)) { s with heap := g.push { cls := .type "list", data := .seq ((us.toList.drop i).take (us.size + 1 - n)).toArray }, toks := tk }) :
    wpAny (model prog w) A (unpackItems (.ref a) n (some i)) Q E s := by
  obtain ⟨oa, eoa, _⟩ := id ha
  have lt_a := Heap.lt_size eoa
  have ne_a : a ≠ s.heap.objs.size := Nat.ne_of_lt lt_a
  unfold unpackItems notIterableAtAll
  refine wpAny_bind (wpAny_bind (wpAny_specialOf ha.typeIs slot_tuple_iter.lookup (wpAny_pure ?_)))
  refine wpAny_bind (wpAny_holding (iter_tuple ha ?_))
  refine wpAny_bind (wpAny_holding (draw_tuple ne_a i 0 _ _ ⟨_, Heap.get?_push_size _ rfl, rfl, rfl⟩ (ha.push _) (by omega) fun g1 it1 keep1 => ?_))
  have ha1 : IsTup g1 a us := (ha.push _).extBut keep1.extBut ne_a
  rw [Nat.zero_add] at it1
  obtain ⟨o1, eo1, _⟩ := id it1
  obtain ⟨o2, eo2, _⟩ := id ha1
  rw [List.drop_zero]
  have len1 : (us.toList.take i).length = i := by
    rw [List.length_take, Array.length_toList]
    omega
  rw [if_neg (show ¬ (us.toList.take i).length < i by omega)]
  refine wpAny_bind (wpAny_holding (kun_collect (s := { s with heap := g1 }) (T := "tuple_iterator") (.inr (.inr (.inr rfl))) (Walks.tuple (A := A.in1) hh s.heap.objs.size a ne_a us) (fun j u st => st.1.typeIs) (k := i) (by omega) ⟨it1, ha1⟩ (Heap.lt_size eo1) (Heap.lt_size eo2)
    (fun g2 tk keep2 => ?_) (by rw [sizeLine_eq]; omega)))
  have len2 : (us.toList.drop i).length = us.size - i := by
    rw [List.length_drop, Array.length_toList]
  have mid : (us.toList.drop i).length - (n - 1 - i) = us.size + 1 - n := by omega
  show wpAny _ _ (if (us.toList.drop i).length < n - 1 - i then _ else _) _ _ _
  rw [if_neg (by omega)]
  show wpAny _ _ (newList ((us.toList.drop i).take ((us.toList.drop i).length - (n - 1 - i))) >>= fun d => pure (us.toList.take i ++ [d] ++ (us.toList.drop i).drop ((us.toList.drop i).length - (n - 1 - i)))) _ _ _
  rw [mid]
  refine wpAny_bind (wpAny_newList (s := { s with heap := g2, toks := tk }) (wpAny_pure (q g2 tk fun b o e => ?_)) ?_)
  · have hb : b ≠ s.heap.objs.size := Nat.ne_of_lt (Heap.lt_size e)
    exact keep2 b o hb (keep1.extBut b o hb (Heap.get?_push_of_some _ e))
  · rw [List.length_take, len2, sizeLine_eq]
    omega
end
section
open L2
variable {X : Cx} {pos : Pos}
def gStar (K : Frag) (n i : Nat) (t : TGs) : TG := fun v τ G Q => ∃ a xs, v = .ref a ∧ SqT K G a xs ∧ i < n ∧ n ≤ xs.length + 1 ∧ xs.length ≤ 10000 ∧
  ∀ D, G D = none → t (xs.take i ++ [.ref D] ++ (xs.drop i).drop (xs.length + 1 - n)) τ (upd G D (.lst ((xs.drop i).take (xs.length + 1 - n)))) Q
theorem pg_star {es es0 : List Expr} {k n i : Nat} {t : TGs} (hc : X.calm = true) (h : PGs X es0 t) (he : (assignEach es X.env).map (·.2) = (assignEach es0 X.env).map (·.2) := by rfl) (hn : (assignEach es X.env).length = n := by rfl)
    (hi : (assignEach es X.env).findIdx? (·.1) = some i := by rfl) : PG X (.Tuple es k pos) (gStar X.K n i t) := by
  refine ⟨fun pins s τ G v u Q I r hw => ?_⟩
  obtain ⟨a, xs, rfl, hq, h1, h2, h3, hw⟩ := hw
  cases r
  obtain ⟨us, rv, ht, hz⟩ := I.tuple hq
  have len := rv.length
  have sz : us.toArray.size = xs.length := by rw [List.size_toArray]; exact len.symm
  rw [assign_Tuple]
  refine wpAny_bind (wpAny_standAt ?_)
  unfold unpack
  rw [hn, hi]
  refine wpAny_bind (wpAny_holding (star_tup ht (I.ok.hd hc) h1 (by rw [sz]; exact h2) (by rw [sz]; omega) fun g tk keep => ?_))
  have no : s.heap.get? g.objs.size = none := by
    cases z : s.heap.get? g.objs.size with
    | none => rfl
    | some o => exact absurd (Heap.lt_size (keep _ _ z)) (Nat.lt_irrefl _)
  have nD := I.hok.gone no
  rw [he, sz]
  have I1 : Inv X pins τ (upd G g.objs.size (.lst ((xs.drop i).take (xs.length + 1 - n)))) { s with heap := g.push { cls := .type "list", data := .seq ((us.toArray.toList.drop i).take (xs.length + 1 - n)).toArray }, toks := tk } := by
    refine I.laidN (t' := tk) (fun b o e => Heap.get?_push_of_some _ (keep b o e)) no nD ⟨?_, _, 0, ?_, Heap.get?_push_size _ rfl⟩
    · rw [List.length_take, List.length_drop]
      exact Nat.le_trans (Nat.min_le_right _ _) (Nat.le_trans (Nat.sub_le _ _) hz)
    · exact (rv.drop i).take _
  refine h.run pins _ τ _ _ _ Q I1 ?_ (hw _ nD)
  exact ((rv.take i).append (.cons (show RelV (.ref g.objs.size) (.ref g.objs.size) from rfl) .nil)).append ((rv.drop i).drop _)
end
end Sr
/-! t * 0 and t * 1 of a tuple that is not empty -/
namespace Rt
open PySem PySem.Spec PyProof.Rows L2
theorem mul_one_ (l : Addr) (us : Array Value) (n : Nat) (dd : Option Addr) (sl : Array (Option Value)) (u : Tok) :
    Meets (Builtin.«tuple.__mul__» ⟨[.ref l, .int 1 u], []⟩) (fun _ R s => s.heap.get? l = some { cls := .type "tuple", dict := dd, data := .seq us n, slots := sl } ∧ R (.ok (.ret (Value.ref l))) s) :=
  .of_wp fun prog w A R s h => by
    obtain ⟨hp, g, d, tk, os⟩ := s
    obtain ⟨hl, h⟩ := h
    have f1 := AutoSeq1.idx_int
    have c0 : (decide ((1 : Int) < -(2 ^ 63)) || decide ((1 : Int) ≥ 2 ^ 63)) = false := by decide
    have c1 : (us.isEmpty || (1 : Int) == 1) = true := by simp
    wp_walk using AutoSeq1.wpAny_loadPart' hl
    repeat (first
      | (refine wpAny_ite_false (decide_eq_false (by rw [c0]; exact Bool.false_ne_true)) ?_; wp_walk using AutoSeq1.wpAny_loadPart' hl)
      | (refine wpAny_ite_true (decide_eq_true c1) ?_; wp_walk using AutoSeq1.wpAny_loadPart' hl)
      | (refine wpAny_ite_true (decide_eq_true (by decide)) ?_; wp_walk using AutoSeq1.wpAny_loadPart' hl))
    exact ⟨_, rfl, h⟩
theorem mul_zero_ (l : Addr) (us : Array Value) (n : Nat) (dd : Option Addr) (sl : Array (Option Value)) (u : Tok) (hus : us.isEmpty = false) :
    Meets (Builtin.«tuple.__mul__» ⟨[.ref l, .int 0 u], []⟩) (fun _ R s => s.heap.get? l = some { cls := .type "tuple", dict := dd, data := .seq us n, slots := sl } ∧
      R (.ok (.ret (Value.ref s.heap.objs.size))) { s with heap := s.heap.push { cls := Value.type "tuple", data := Data.seq #[] }, toks := s.toks }) :=
  .of_wp fun prog w A R s h => by
    obtain ⟨hp, g, d, tk, os⟩ := s
    obtain ⟨hl, h⟩ := h
    have f1 := AutoSeq1.idx_int
    have c0 : (decide ((0 : Int) < -(2 ^ 63)) || decide ((0 : Int) ≥ 2 ^ 63)) = false := by decide
    have c1 : (us.isEmpty || (0 : Int) == 1) = false := by rw [hus]; rfl
    have c2 : (decide ((0 : Int) ≤ 0) || us.isEmpty) = true := by simp
    have c5 : ¬ (#[] : Array Value).size > sizeLine := Nat.not_lt.mpr (Nat.zero_le _)
    wp_walk using AutoSeq1.wpAny_loadPart' hl
    repeat (first
      | (refine wpAny_ite_false (decide_eq_false (by rw [c0]; exact Bool.false_ne_true)) ?_; wp_walk using AutoSeq1.wpAny_loadPart' hl)
      | (refine wpAny_ite_false (decide_eq_false (by rw [c1]; exact Bool.false_ne_true)) ?_; wp_walk using AutoSeq1.wpAny_loadPart' hl)
      | (refine wpAny_ite_true (decide_eq_true c2) ?_; wp_walk using AutoSeq1.wpAny_loadPart' hl)
      | (refine wpAny_ite_false (decide_eq_false c5) ?_; wp_walk using AutoSeq1.wpAny_loadPart' hl))
    exact ⟨_, rfl, h⟩
def rMul1 (K : PySem.W.Frag) : R2 := fun x y G Q => ∃ l xs, x = .ref l ∧ SqT K G l xs ∧ xs ≠ [] ∧ ((y = .int 1 ∧ Q (.ref l) G) ∨ (y = .int 0 ∧ ∀ p, G p = none → Q (.ref p) (upd G p (.tup []))))
theorem op_mul1 {X : Cx} : OpR X (binaryOp .Mult) (rMul1 X.K) := by
  intro pins s τ G x y v u Q I rx ry h
  obtain ⟨l, xs, rfl, hT, hne, h⟩ := h
  cases rx
  obtain ⟨us, r, ⟨⟨cl, dd, dt, sl⟩, ho, hc, n, hd⟩, _⟩ := I.tuple hT
  simp only at hc hd
  subst hc hd
  have full : us.toArray.isEmpty = false := by
    cases us with
    | nil => exact absurd (List.eq_nil_of_length_eq_zero r.length) hne
    | cons a b => rfl
  rcases h with ⟨rfl, q⟩ | ⟨rfl, q⟩
  · obtain ⟨t, rfl⟩ := ry
    have step := int_rmul_tuple 1 t l us.toArray n dd sl
    exact wpAny_binaryOp_repeat_ref (T := "tuple") (U := "int") (by decide) ⟨_, ho, rfl⟩ (fun s' => typeIs_int s' 1 t) noFill_tuple_mul F.fills_int_mul F.slot_int_rmul repeat_tuple F.slot_int_index.lookup
      (call_meets F.slot_int_rmul (typeIs_int s 1 t) F.entry_int_rmul (F.args_int_rmul_2 _ _) step ⟨ho, rfl, ⟨_, ho, rfl⟩, call_meets F.slot_tuple_mul ⟨_, ho, rfl⟩ F.entry_tuple_mul (F.args_tuple_mul_2 _ _)
        (mul_one_ l us.toArray n dd sl t) ⟨ho, ⟨.ref l, G, I, rfl, q⟩⟩⟩)
  · obtain ⟨t, rfl⟩ := ry
    have step := int_rmul_tuple 0 t l us.toArray n dd sl
    exact wpAny_binaryOp_repeat_ref (T := "tuple") (U := "int") (by decide) ⟨_, ho, rfl⟩ (fun s' => typeIs_int s' 0 t) noFill_tuple_mul F.fills_int_mul F.slot_int_rmul repeat_tuple F.slot_int_index.lookup
      (call_meets F.slot_int_rmul (typeIs_int s 0 t) F.entry_int_rmul (F.args_int_rmul_2 _ _) step ⟨ho, rfl, ⟨_, ho, rfl⟩, call_meets F.slot_tuple_mul ⟨_, ho, rfl⟩ F.entry_tuple_mul (F.args_tuple_mul_2 _ _)
        (mul_zero_ l us.toArray n dd sl t full) ⟨ho, ⟨.ref s.heap.objs.size, _, I.laid (t' := s.toks) (o := .tup []) (fun _ _ z => Heap.get?_push_of_some _ z) (Nat.le_refl _) ⟨Nat.zero_le _, _, .nil, IsTup.new _ _⟩, rfl, q _ (I.hok.fresh (Nat.le_refl _))⟩⟩⟩)
end Rt
/-! t[::-1] of a tuple -/
namespace Tr
open PySem PyProof.Rows
open PySem.SeqAt
open PySem.MeetsSeq PySem.MeetsSeq2 PySem.MeetsSeq3
theorem range_back (n : Nat) : Builtin.Slice.sliceAdjust none none (-1) (n : Int) = ((n : Int) - 1, -1) ∧ Builtin.Slice.slicePlaces ((n : Int) - 1) (-1) (-1) = n := by
  refine ⟨rfl, ?_⟩
  unfold Builtin.Slice.slicePlaces
  rw [if_neg (by decide)]
  by_cases c : (n : Int) - 1 > -1
  · rw [if_pos c, show (-(-1) : Int) = 1 from rfl, Int.ediv_one]
    omega
  · rw [if_neg c]
    omega
theorem fm_congr {α β : Type} {f g : α → Option β} : ∀ {l : List α}, (∀ x ∈ l, f x = g x) → l.filterMap f = l.filterMap g
  | [], _ => rfl
  | a :: l, h => by
    rw [List.filterMap_cons, List.filterMap_cons, h a List.mem_cons_self, fm_congr fun x hx => h x (List.mem_cons_of_mem _ hx)]
theorem pick_back (us : Array Value) : ((List.range us.size).filterMap fun (k : Nat) => us[((us.size : Int) - 1 + (k : Int) * (-1)).toNat]?).toArray = us.toList.reverse.toArray := by
  have z : (us.toList.reverse.toArray).size = us.size := by rw [List.size_toArray, List.length_reverse, Array.length_toList]
  have all := PySem.W.krv_all us.toList.reverse.toArray
  rw [z] at all
  refine congrArg List.toArray (Eq.trans (fm_congr fun k hk => ?_) all)
  have lt := List.mem_range.mp hk
  have at_ : ((us.size : Int) - 1 + (k : Int) * (-1)).toNat = us.size - 1 - k := by omega
  have e : us.toList.reverse.toArray[k]? = us.toList.reverse[k]? := by simp
  rw [at_, e, List.getElem?_reverse (by rw [Array.length_toList]; exact lt), Array.length_toList, Array.getElem?_toList]
section
variable {prog : Program} {w : World} {A : Around} {E : Value → Shared → Prop} {s : Shared}
theorem get_back {a sl : Addr} {us : Array Value} {vs : Value} {Q : Value → Shared → Prop} (ha : IsTup s.heap a us) (hs : s.heap.IsSliceOf sl .none .none vs) (ps : IsPart vs (some (-1))) (hz : us.size ≤ sizeLine)
    (q : Q (.ref s.heap.objs.size) { s with heap := s.heap.push { cls := .type "tuple", data := .seq us.toList.reverse.toArray } }) : wpAny (model prog w) A (getItem (.ref a) (.ref sl)) Q E s := by
  obtain ⟨o, h1, h2, h3⟩ := id hs
  have fits : sizeOk (.seq us.toList.reverse.toArray) := by
    show us.toList.reverse.toArray.size ≤ sizeLine
    rw [List.size_toArray, List.length_reverse, Array.length_toList]
    exact hz
  have applied : ∀ {B : Around} {F : Value → Shared → Prop} {R : Int × Int × Nat → Shared → Prop}, R ((us.size : Int) - 1, -1, us.size) s → wpAny (model prog w) B (Builtin.Slice.sliceApplied (.ref sl) (pure (us.size : Int))) R F s := fun {B F R} r => by
    unfold Builtin.Slice.sliceApplied Builtin.Slice.sliceFields
    refine wpAny_bind (wpAny_bind (wpAny_field h1 h3 (x := .none) rfl (wpAny_bind (wpAny_field h1 h3 (x := .none) rfl (wpAny_bind (wpAny_field h1 h3 (x := vs) rfl (wpAny_pure ?_)))))))
    refine wpAny_bind (HT.slicePart_ ps ?_)
    show wpAny _ _ (if ((-1 : Int) == 0) = true then _ else _) _ _ s
    rw [if_neg (show ¬ ((-1 : Int) == 0) = true by decide)]
    refine wpAny_bind (HT.slicePart_ .none (wpAny_bind (HT.slicePart_ .none (wpAny_bind (wpAny_pure ?_)))))
    show wpAny _ _ (match Builtin.Slice.sliceAdjust none none (-1) (us.size : Int) with | (l, h) => pure (l, (-1 : Int), Builtin.Slice.slicePlaces l h (-1))) _ _ s
    obtain ⟨e1, e2⟩ := range_back us.size
    rw [e1]
    show wpAny _ _ (pure ((us.size : Int) - 1, (-1 : Int), Builtin.Slice.slicePlaces ((us.size : Int) - 1) (-1) (-1))) _ _ s
    rw [e2]
    exact wpAny_pure r
  unfold getItem
  try with_reducible refine wpAny_holding ?_
  first | refine wpAny_bind (wpAny_pure ?_) | skip
  refine wpAny_bind (wpAny_sequenceKey ha.typeIs (by decide) (wpAny_bind (wpAny_callSpecial?_slot (name := Str.ofString "__getitem__") ha.typeIs slot_tuple_getitem (wpAny_call_entry slot_tuple_getitem ha.typeIs PySem.F.entry_tuple_getitem ?_ (PySem.F.args_tuple_getitem_2 _ _)))))
  show wpAny _ _ (Builtin.Tuple.tupleItemsOf (.ref a) >>= _) _ _ s
  refine wpAny_bind (tupleItemsOf_ ha (wpAny_bind (wpAny_typeOf (T := "slice") ⟨o, h1, h2⟩ ?_)))
  rw [if_pos (show (Value.type "slice" == Value.type "slice") = true by decide)]
  refine wpAny_bind (applied ?_)
  show wpAny _ _ (if (((us.size : Int) - 1 == 0 && (-1 : Int) == 1 && us.size == us.size)) = true then _ else _) _ _ s
  rw [if_neg (show ¬ ((us.size : Int) - 1 == 0 && (-1 : Int) == 1 && us.size == us.size) = true by simp), pick_back]
  first
    | exact wpAny_bind (m := Builtin.Tuple.tupleExact _) (wpAny_newObj_type (wpAny_pure ⟨_, rfl, wpAny_pure q⟩) fits)
    | exact wpAny_bind (m := Builtin.Tuple.tupleExact _) (wpAny_newObj_type (wpAny_bind (wpAny_pure (wpAny_pure ⟨_, rfl, wpAny_pure q⟩))) fits)
    | exact wpAny_bind (wpAny_bind (m := Builtin.Tuple.tupleExact _) (wpAny_newObj_type (wpAny_pure (wpAny_pure ⟨_, rfl, wpAny_pure q⟩)) fits))
    | exact wpAny_bind (wpAny_bind (m := Builtin.Tuple.tupleExact _) (wpAny_newObj_type (wpAny_pure ⟨_, rfl, wpAny_pure q⟩) fits))
end
section
open PySem.Spec L2
variable {X : Cx}
def tRevT (K : PySem.W.Frag) (te : TE) : TE := fun τ G Q => te τ G fun x G1 => ∃ a xs, x = .ref a ∧ SqT K G1 a xs ∧ ∀ p, G1 p = none → Q (.ref p) (upd G1 p (.tup xs.reverse))
theorem pe_revT {e : Expr} {te : TE} {k : Nat} {p1 p2 p3 pos : Pos} (he : PE X e te) : PE X (.Subscript e (.Slice none none (some (.UnaryOp .USub (.Constant (.int 1) k p1) p2)) p3) pos) (tRevT X.K te) := by
  have step : PO X (some (.UnaryOp .USub (.Constant (.int 1) k p1) p2)) (tPart (tUn (rU fun i => .int (-i)) (tC (.int 1)))) := po_some (pe_un un_neg pe_int)
  refine ⟨fun pins s τ G Q I h => Subscript_ (thn (he.run pins s τ G _ I h) fun v s1 ⟨x, G1, I1, r1, a, xs, ex, hx, q⟩ => ?_)⟩
  subst ex
  cases r1
  refine wpAny_Slice (thn (po_none.run pins s1 τ G1 (fun o K => o = none ∧ K = G1) I1 ⟨rfl, rfl⟩) fun _ s2 ⟨_, G2, I2, pl, e2, f2⟩ => ?_)
  cases pl with
  | int => cases e2
  | none => ?_
  subst f2
  refine thn (po_none.run pins s2 τ G2 (fun o K => o = none ∧ K = G2) I2 ⟨rfl, rfl⟩) fun _ s3 ⟨_, G3, I3, pu, e3, f3⟩ => ?_
  cases pu with
  | int => cases e3
  | none => ?_
  subst f3
  refine thn (step.run pins s3 τ G3 (fun o K => o = some (-1) ∧ K = G3) I3 ⟨1, rfl, -1, rfl, rfl, rfl⟩) fun vs s4 ⟨_, G4, I4, ps, e4, f4⟩ => ?_
  subst e4 f4
  have I5 : Inv X pins τ G4 { s4 with heap := s4.heap.push { cls := .type "slice", data := .fields #[.none, .none, vs] } } := I4.kept (t' := s4.toks) fun _ _ z => Heap.get?_push_of_some _ z
  obtain ⟨us, r, ht, hz⟩ := I5.tuple hx
  have len := r.length
  refine tail_any (value := e) (slice := .Slice none none (some (.UnaryOp .USub (.Constant (.int 1) k p1) p2)) p3) (ops := [.ref a, .ref s4.heap.objs.size]) ht.typeIs slot_tuple_getitem.lookup ?_ (by with_unfolding_all rfl)
  refine get_back ht (Heap.IsSliceOf.new _ .none .none vs) ps (by rw [List.size_toArray]; omega) ?_
  refine ⟨.ref _, _, I5.laid (t' := s4.toks) (o := .tup xs.reverse) (fun _ _ z => Heap.get?_push_of_some _ z) (Nat.le_refl _) ?_, rfl, q _ (I5.hok.fresh (Nat.le_refl _))⟩
  exact ⟨by rw [List.length_reverse]; exact hz, _, r.reverse, IsTup.new _ _⟩
end
end Tr
namespace M6
/-! ### the merge, in plain Lean -/
section
variable {α : Type} [DecidableEq α]
def okHead (rows : List (List α)) (w : α) : Bool := rows.all fun o => !decide (w ∈ o.tail)
def isHead (rows : List (List α)) (r : List α) : Bool := match r with
  | [] => false
  | w :: _ => okHead rows w
def headOf (rows : List (List α)) : Option α := (rows.find? (isHead rows)).bind List.head?
def without (rows : List (List α)) (w : α) : List (List α) := (rows.map fun r => r.filter fun x => decide (x ≠ w)).filter fun r => !r.isEmpty
def size (rows : List (List α)) : Nat := (rows.map List.length).sum
def mrgF : Nat → List (List α) → List α → Option (List α)
  | 0, _, _ => none
  | n + 1, rows, acc => if rows.isEmpty then some acc else match headOf rows with
    | none => none
    | some w => mrgF n (without rows w) (acc ++ [w])
def full (rows : List (List α)) : List (List α) := rows.filter fun r => !r.isEmpty
def mrg (rows : List (List α)) : Option (List α) := mrgF (size (full rows) + 1) (full rows) []
theorem find_at {p : List α → Bool} : ∀ {rows : List (List α)} {i : Nat} {r : List α}, (∀ x ∈ rows.take i, p x = false) → rows[i]? = some r → p r = true → rows.find? p = some r
  | [], i, r, _, h, _ => by simp at h
  | a :: rows, 0, r, _, h, hp => by
    obtain rfl : a = r := by simpa using h
    rw [List.find?_cons_of_pos hp]
  | a :: rows, i + 1, r, hn, h, hp => by
    rw [List.find?_cons_of_neg (by simp [hn a (by simp)])]
    exact find_at (i := i) (fun x hx => hn x (by rw [List.take_succ_cons]; exact List.mem_cons_of_mem _ hx)) (by simpa using h) hp
theorem find_no {p : List α → Bool} {rows : List (List α)} (h : ∀ x ∈ rows, p x = false) : rows.find? p = none := by
  rw [List.find?_eq_none]
  intro x hx
  simp [h x hx]
theorem head_found {rows : List (List α)} {w : α} (h : headOf rows = some w) : ∃ r ∈ rows, ∃ t, r = w :: t ∧ okHead rows w = true := by
  unfold headOf at h
  cases e : rows.find? (isHead rows) with
  | none => rw [e] at h; cases h
  | some r =>
    rw [e] at h
    have hm := List.mem_of_find?_eq_some e
    have hp := List.find?_some e
    cases r with
    | nil => cases h
    | cons a t =>
      obtain rfl : a = w := by simpa using h
      exact ⟨_, hm, t, rfl, hp⟩
theorem size_cons (r : List α) (rows : List (List α)) : size (r :: rows) = r.length + size rows := by simp [size]
theorem size_filter (rows : List (List α)) : size (rows.filter fun r => !r.isEmpty) = size rows := by
  induction rows with
  | nil => rfl
  | cons a rows ih =>
    cases a with
    | nil => rw [List.filter_cons_of_neg (by simp), ih, size_cons]; simp
    | cons x t => rw [List.filter_cons_of_pos (by simp), size_cons, size_cons, ih]
theorem size_map_le (w : α) : ∀ rows : List (List α), size (rows.map fun r => r.filter fun x => decide (x ≠ w)) ≤ size rows
  | [] => Nat.le_refl _
  | a :: rows => by
    rw [List.map_cons, size_cons, size_cons]
    exact Nat.add_le_add (List.length_filter_le _ _) (size_map_le w rows)
theorem filter_lt {w : α} {t : List α} : ((w :: t).filter fun x => decide (x ≠ w)).length < (w :: t).length := by
  rw [List.filter_cons_of_neg (by simp)]
  exact Nat.lt_succ_of_le (List.length_filter_le _ _)
theorem size_map_lt {w : α} {t : List α} : ∀ {rows : List (List α)}, (w :: t) ∈ rows → size (rows.map fun r => r.filter fun x => decide (x ≠ w)) < size rows
  | [], h => by simp at h
  | a :: rows, h => by
    rw [List.map_cons, size_cons, size_cons]
    rcases List.mem_cons.mp h with e | e
    · subst e
      exact Nat.add_lt_add_of_lt_of_le filter_lt (size_map_le w rows)
    · exact Nat.add_lt_add_of_le_of_lt (List.length_filter_le _ _) (size_map_lt e)
theorem size_without {rows : List (List α)} {w : α} (h : headOf rows = some w) : size (without rows w) < size rows := by
  obtain ⟨r, hr, t, rfl, _⟩ := head_found h
  unfold without
  rw [size_filter]
  exact size_map_lt hr
theorem fuel : ∀ {n : Nat} {rows : List (List α)} {acc : List α}, size rows < n → mrgF n rows acc = mrgF (size rows + 1) rows acc
  | 0, rows, acc, h => by omega
  | n + 1, rows, acc, h => by
    unfold mrgF
    split
    · rfl
    · cases e : headOf rows with
      | none => rfl
      | some w =>
        have lt := size_without e
        show mrgF n _ _ = mrgF (size rows) _ _
        rw [fuel (n := n) (by omega), fuel (n := size rows) lt]
theorem mrg_end (acc : List α) : mrgF (size ([] : List (List α)) + 1) [] acc = some acc := rfl
theorem mrg_no {rows : List (List α)} {acc : List α} (h : rows.isEmpty = false) (e : headOf rows = none) : mrgF (size rows + 1) rows acc = none := by
  unfold mrgF
  rw [h, e]
  rfl
theorem mrg_step {rows : List (List α)} {acc : List α} {w : α} (h : rows.isEmpty = false) (e : headOf rows = some w) : mrgF (size rows + 1) rows acc = mrgF (size (without rows w) + 1) (without rows w) (acc ++ [w]) := by
  rw [← fuel (size_without e)]
  conv => lhs; unfold mrgF
  rw [h, e]
  rfl
theorem without_full (rows : List (List α)) (w : α) : ∀ r ∈ without rows w, r ≠ [] := by
  intro r hr e
  subst e
  simp [without] at hr
theorem full_full (rows : List (List α)) : ∀ r ∈ full rows, r ≠ [] := by
  intro r hr e
  subst e
  simp [full] at hr
end
end M6
/-! a dict display that begins with another dict: {**a, k: v} -/
namespace Dd
open PySem Sem
section
variable {prog : Program} {w : World} {K : Type} [DecidableEq K] {knd : KeyKind prog w K} {A : Around} {E : Value → Shared → Prop} {s : Shared} {d a : Addr}
/-- one pair put into a dict -/
theorem put_ok {kvs : List (K × Value)} {k : K} {key v : Value} {Q : Unit → Shared → Prop} (isk : knd.is k key = true) (dm : s.heap.DictOf knd d kvs) (few : kvs.length ≤ sizeLine)
    (q : ∀ h', h'.DictOf knd d (stored kvs k v) → Heap.SameBut d s.heap h' → Q () { s with heap := h' }) : wpAny (model prog w) A (dictPut d (knd.hash k) key v) Q E s := by
  obtain ⟨o, es, ep, ho, hc, hd, hk, hp, hn⟩ := dm
  have len : es.size ≤ sizeLine := by
    have e1 := hp.length
    have e2 : es.toList.length = es.size := by simp
    omega
  have same : (es.findIdx? fun e => knd.is k e.key) = kvs.findIdx? fun kv => decide (kv.1 = k) := by
    rw [← hp.findIdx k]
    obtain ⟨l⟩ := es
    simp
  unfold dictPut
  refine wpAny_bind (wpAny_dictFind_of isk ho hd hk ?_)
  cases at_ : es.findIdx? fun e => knd.is k e.key with
  | some i =>
    have ne : stored kvs k v = kvs.map fun kv => if kv.1 = k then (kv.1, v) else kv := by rw [stored, if_pos (any_of_findIdx_some (same ▸ at_))]
    have fl : (es.toList.findIdx? fun e => knd.is k e.key) = some i := by
      rw [← at_]
      obtain ⟨l⟩ := es
      simp
    have md := hp.modify hn fl v
    refine wpAny_updateDict ho hd (q _ ⟨_, _, ep, Heap.get?_update_self _ ho (Obj.isFreed_of_dict (Obj.data_mapDict hd _)), hc.mapDict _, Obj.data_mapDict hd _, hk.modify _ _, ?_, ?_⟩ (Heap.SameBut.update ..))
    · rw [stored, if_pos (any_of_findIdx_some (same ▸ at_))]
      obtain ⟨l⟩ := es
      simpa using md
    · rw [stored, if_pos (any_of_findIdx_some (same ▸ at_)), keys_map_store]
      exact hn
  | none =>
    have out : k ∉ kvs.map (·.1) := not_mem_of_findIdx_none (same ▸ at_)
    have no : ¬ (kvs.any fun kv => decide (kv.1 = k)) = true := fun z => by
      obtain ⟨kv, hkv, he⟩ := List.any_eq_true.mp z
      exact out (List.mem_map.mpr ⟨kv, hkv, of_decide_eq_true he⟩)
    refine wpAny_updateDictKeys (hz := len) ho hd (q _ ⟨_, _, ep + 1, Heap.get?_update_self _ ho (Obj.isFreed_of_dict (Obj.data_mapDictKeys hd _)), hc.mapDictKeys _, Obj.data_mapDictKeys hd _, hk.push isk _, ?_, ?_⟩ (Heap.SameBut.update ..))
    · rw [stored, if_neg no]
      have ap := hp.append isk (knd.hash k) v
      obtain ⟨l⟩ := es
      simpa using ap
    · rw [stored, if_neg no, List.map_append, List.nodup_append]
      refine ⟨hn, by simp, fun x hx y hy e => out ?_⟩
      have ey : y = k := by simpa using hy
      rw [← ey, ← e]
      exact hx
theorem merge_take {acc more : List (K × Value)} {i : Nat} {k : K} {v : Value} (h : more[i]? = some (k, v)) : merged acc (more.take (i + 1)) = stored (merged acc (more.take i)) k v := by
  rw [List.take_add_one, h]
  simp [merged, List.foldl_append]
theorem loop_ok {acc more : List (K × Value)} {n : Nat} {Q : PUnit → Shared → Prop} {body : Nat → PUnit → Sem (ForInStep PUnit)} {oa : Obj} (hn : more.length = n) (dm : s.heap.DictOf knd d acc) (ha : s.heap.get? a = some oa) (ne : d ≠ a)
    (turn : ∀ (i : Nat) (k : K) (v : Value) (h : Heap) (kvs : List (K × Value)) (R : ForInStep PUnit → Shared → Prop), more[i]? = some (k, v) → kvs.length ≤ acc.length + i → h.get? a = some oa → h.DictOf knd d kvs →
      (∀ h', h'.DictOf knd d (stored kvs k v) → Heap.SameBut d h h' → R (.yield PUnit.unit) { s with heap := h' }) → wpAny (model prog w) A (body i PUnit.unit) R E { s with heap := h })
    (q : ∀ h', h'.DictOf knd d (merged acc more) → Heap.SameBut d s.heap h' → Q PUnit.unit { s with heap := h' }) : wpAny (model prog w) A (forIn (List.range n) PUnit.unit body) Q E s := by
  subst hn
  refine wpAny_forIn_list _ (fun rest _ s' => ∃ h i, s' = { s with heap := h } ∧ rest = List.range' i (more.length - i) ∧ i ≤ more.length ∧ h.DictOf knd d (merged acc (more.take i)) ∧ h.get? a = some oa ∧ Heap.SameBut d s.heap h) _ ?_ ?_ _ _
    ⟨s.heap, 0, rfl, by rw [List.range_eq_range', Nat.sub_zero], Nat.zero_le _, by simpa [merged] using dm, ha, Heap.SameBut.refl _ _⟩
  · rintro x rest b s' ⟨h, i, rfl, er, hi, dh, ga, sb⟩
    have lt : i < more.length := by
      apply Classical.byContradiction
      intro c
      rw [show more.length - i = 0 by omega] at er
      cases er
    rw [show more.length - i = (more.length - (i + 1)) + 1 by omega, List.range'_succ] at er
    obtain ⟨rfl, rfl⟩ := List.cons.inj er
    have gi : more[x]? = some ((more[x]).1, (more[x]).2) := List.getElem?_eq_getElem lt
    refine turn x _ _ h _ _ gi ?_ ga dh fun h' d' sb' => ⟨h', x + 1, rfl, rfl, lt, ?_, ?_, sb.trans sb'⟩
    · have e1 := merged_length_le acc (more.take x)
      have e2 : (more.take x).length ≤ x := by rw [List.length_take]; omega
      omega
    · rw [merge_take gi]
      exact d'
    · rw [sb'.2 a (Ne.symm ne)]
      exact ga
  · rintro b s' ⟨h, i, rfl, er, hi, dh, ga, sb⟩
    have e : more.length - i = 0 := by
      apply Classical.byContradiction
      intro c
      rw [show more.length - i = (more.length - i - 1) + 1 by omega, List.range'_succ] at er
      cases er
    have e2 : more.take i = more := List.take_of_length_le (by omega)
    rw [e2] at dh
    exact q h dh sb
/-- all pairs of one dict put into another -/
theorem merge_ok {acc more : List (K × Value)} {Q : Unit → Shared → Prop} (ne : d ≠ a) (na : (a == sysModules) = false) (dm : s.heap.DictOf knd d acc) (am : s.heap.DictOf knd a more) (few : acc.length + more.length ≤ sizeLine)
    (q : ∀ h', h'.DictOf knd d (merged acc more) → Heap.SameBut d s.heap h' → Q () { s with heap := h' }) : wpAny (model prog w) A (mergeMapping d (.ref a) false) Q E s := by
  obtain ⟨oa, ea, pa, hoa, hca, hda, hka, hpa, hna⟩ := id am
  obtain ⟨od, ed, pd, hod, hcd, hdd, hkd, hpd, hnd⟩ := id dm
  have len : more.length = ea.size := by rw [← hpa.length]; simp
  unfold mergeMapping
  refine wpAny_bind (wpAny_isInstance am.typeIs isSubtype_dict_dict ?_)
  rw [if_pos rfl]
  refine wpAny_bind (wpAny_specialOf am.typeIs F.slot_dict_iter.lookup (wpAny_bind (wpAny_pure ?_)))
  simp only [beq_self_eq_true]
  rw [if_neg (by rw [na]; exact Bool.false_ne_true)]
  refine wpAny_bind (wpAny_dictEntries hod hdd ?_)
  have fin : ∀ {body : Nat → PUnit → Sem (ForInStep PUnit)}, (∀ (i : Nat) (k : K) (v : Value) (h : Heap) (kvs : List (K × Value)) (R : ForInStep PUnit → Shared → Prop), more[i]? = some (k, v) → kvs.length ≤ acc.length + i → h.get? a = some oa → h.DictOf knd d kvs →
      (∀ h', h'.DictOf knd d (stored kvs k v) → Heap.SameBut d h h' → R (.yield PUnit.unit) { s with heap := h' }) → wpAny (model prog w) A (body i PUnit.unit) R E { s with heap := h }) →
      wpAny (model prog w) A (forIn (List.range ea.size) PUnit.unit body >>= fun _ => Pure.pure ()) Q E s := fun {body} turn => wpAny_bind (loop_ok len dm hoa ne turn fun h' d' sb => wpAny_pure (q h' d' sb))
  refine wpAny_ite_split (fun _ => ?_) (fun _ => ?_)
  · refine wpAny_bind (wpAny_dictEntries hoa hda ?_)
    refine wpAny_bind ?_
    rw [← Array.forIn_toList]
    refine wpAny_forIn_list _ (fun rest _ s' => s' = s ∧ ∀ e ∈ rest, e ∈ ea.toList) _ ?_ ?_ _ _ ⟨rfl, fun _ h => h⟩
    · rintro e rest b s' ⟨rfl, all⟩
      obtain ⟨k, ik, _⟩ := hka e (by simpa using all e List.mem_cons_self)
      have bv := knd.byValue _ _ ik
      have rest' : ∀ x ∈ rest, x ∈ ea.toList := fun x hx => all x (List.mem_cons_of_mem _ hx)
      obtain ⟨hs, key, val⟩ := e
      cases key <;> first | exact wpAny_pure ⟨rfl, rest'⟩ | exact absurd bv (by simp [carriedByValue])
    rintro b s' ⟨rfl, _⟩
    refine wpAny_bind (wpAny_dictEntries hoa hda ?_)
    refine wpAny_bind (wpAny_dictEpoch hoa hda ?_)
    refine fin fun i k v h kvs R gi ll ga dh k2 => ?_
    refine wpAny_bind (wpAny_dictEntries ga hda ?_)
    have lt : i < ea.size := by
      rw [← len]
      exact (List.getElem?_eq_some_iff.mp gi).1
    rw [Array.getElem?_eq_getElem lt]
    obtain ⟨ik, iv⟩ := hpa.get? (e := ea[i]) (by simp [lt]) gi
    obtain ⟨k', ik', hh⟩ := hka ea[i] (Array.getElem_mem lt)
    obtain rfl : k' = k := knd.inj _ _ _ ik' ik
    dsimp only
    refine wpAny_bind (wpAny_holding ?_)
    rw [if_neg Bool.false_ne_true, hh, iv]
    refine put_ok ik dh (by omega) fun h' d' sb' => ?_
    have ga' : h'.get? a = some oa := by rw [sb'.2 a (Ne.symm ne)]; exact ga
    refine wpAny_bind (wpAny_dictEpoch ga' hda ?_)
    rw [if_neg (by simp)]
    exact wpAny_pure (k2 h' d' sb')
  · refine wpAny_bind (wpAny_dictEntries hoa hda ?_)
    refine wpAny_bind (wpAny_dictEpoch hoa hda ?_)
    refine fin fun i k v h kvs R gi ll ga dh k2 => ?_
    refine wpAny_bind (wpAny_dictEntries ga hda ?_)
    have lt : i < ea.size := by
      rw [← len]
      exact (List.getElem?_eq_some_iff.mp gi).1
    rw [Array.getElem?_eq_getElem lt]
    obtain ⟨ik, iv⟩ := hpa.get? (e := ea[i]) (by simp [lt]) gi
    obtain ⟨k', ik', hh⟩ := hka ea[i] (Array.getElem_mem lt)
    obtain rfl : k' = k := knd.inj _ _ _ ik' ik
    dsimp only
    refine wpAny_bind (wpAny_holding ?_)
    rw [if_neg Bool.false_ne_true, hh, iv]
    refine put_ok ik dh (by omega) fun h' d' sb' => ?_
    have ga' : h'.get? a = some oa := by rw [sb'.2 a (Ne.symm ne)]; exact ga
    refine wpAny_bind (wpAny_dictEpoch ga' hda ?_)
    rw [if_neg (by simp)]
    exact wpAny_pure (k2 h' d' sb')
end
end Dd
namespace Dd
open PySem L2 PySem.Spec PyProof.Rows
section
variable {X : Cx}
def tDStar (ta tk tv : TE) : TE := fun σ H Q => ∀ p, H p = none → ta σ (upd H p (.dK [])) fun x H1 => H1 p = some (.dK []) ∧ ∃ d kvs, x = .ref d ∧ d ≠ p ∧ L2.Rd H1 d (.dK kvs) ∧ kvs.length + 1 ≤ sizeLine ∧
  ∀ q, q ≠ p → H1 q = none → tk σ (upd (upd H1 p (.dK kvs)) q (.dK [])) fun y H3 => tv σ H3 fun z H4 => H4 q = some (.dK []) ∧ H4 p = some (.dK kvs) ∧ ∃ k : Str, y = .str k ∧ Q (.ref p) (upd (upd H4 q (.dK [(.inr k, z)])) p (.dK (putK kvs (.inr k) z)))
theorem pe_dstar {a k v : Expr} {ta tk tv : TE} {pos : Pos} (ha : PE X a ta) (hk : PE X k tk) (hv : PE X v tv) : PE X (.Dict [none, some k] [a, v] pos) (tDStar ta tk tv) := by
  refine ⟨fun pins s σ H Q I h => ?_⟩
  rw [arm_eval_Dict]
  refine wpAny_bind (wpAny_standAt ?_)
  show wpAny _ _ (dictDisplay [(none, do let x ← eval a X.env; standAt pos; Pure.pure x), (some (eval k X.env), do let x ← eval v X.env; standAt pos; Pure.pure x)]) _ _ _
  unfold dictDisplay
  simp only [List.forIn_cons, List.forIn_nil]
  have hn := I.hok.fresh (Nat.le_refl s.heap.objs.size)
  have q0 := h _ hn
  generalize ep : s.heap.objs.size = p at hn q0
  have I1 : Inv X pins σ (upd H p (.dK [])) { s with heap := s.heap.push { cls := .type "dict", data := .dict #[] } } := by
    subst ep
    exact I.laid (a := s.heap.objs.size) (o := .dK []) (t' := s.toks) (fun _ _ q => Heap.get?_push_of_some _ q) (Nat.le_refl _) (dk_empty s.heap I.big)
  refine wpAny_bind (wpAny_bind (wpAny_bind ?_))
  rw [if_pos (show List.isEmpty [] = true from rfl)]
  refine wpAny_pure ?_
  dsimp only
  refine wpAny_bind (wpAny_alloc ?_)
  rw [ep]
  refine wpAny_bind (wpAny_holding (wpAny_bind (thn (ha.run pins _ σ _ _ I1 q0) fun u s1 ⟨x, H1, I2, rx, e1, d, kvs, ex, ne, rd, few, q1⟩ => wpAny_bind (wpAny_standAt (wpAny_pure ?_)))))
  subst ex
  obtain rfl : u = Value.ref d := rx
  obtain ⟨z1, nd, vs, rel, dd⟩ := dk_rd I2.hok rd
  obtain ⟨z0, np, vs0, rel0, dp⟩ := dk_of I2.hok e1
  obtain rfl : vs0 = [] := by
    cases rel0
    rfl
  have lv : vs.length = kvs.length := rel.length.symm
  refine wpAny_bind (wpAny_onRaise (wpAny_tryCatch (wpAny_onRaise (wpAny_holding (merge_ok ne.symm nd dp dd (by rw [List.length_nil]; omega) fun h1 d1 sb1 => wpAny_pure ?_)))))
  have nodup : (vs.map (·.1)).Nodup := let ⟨_, _, _, _, _, _, _, _, n⟩ := dd; n
  rw [merged_nil_of_nodup vs nodup] at d1
  have gp : ∃ u, h1.get? p = some u := let ⟨o, _, _, g, _⟩ := d1; ⟨o, g⟩
  have I3 : Inv X pins σ (upd H1 p (.dK kvs)) { s1 with heap := h1 } := I2.write (t' := s1.toks) (by rw [e1]; exact True.intro) (.inl rfl) (fun b u hb g => by rw [sb1.2 b hb]; exact g) gp ⟨z1, np, vs, rel, d1⟩
  dsimp only
  refine wpAny_pure ?_
  dsimp only [List.nil_append]
  refine wpAny_bind ?_
  rw [if_neg (by simp)]
  have qn := I3.hok.fresh (Nat.le_refl h1.objs.size)
  generalize eq : h1.objs.size = q at qn
  have qp : q ≠ p := fun e => by rw [e, upd_same] at qn; cases qn
  have qn1 : H1 q = none := by rw [upd_ne qp] at qn; exact qn
  have I4 : Inv X pins σ (upd (upd H1 p (.dK kvs)) q (.dK [])) { s1 with heap := h1.push { cls := .type "dict", data := .dict #[] } } := by
    subst eq
    exact I3.laid (a := h1.objs.size) (o := .dK []) (t' := s1.toks) (fun _ _ q => Heap.get?_push_of_some _ q) (Nat.le_refl _) (dk_empty h1 I3.big)
  refine wpAny_bind (wpAny_holding (wpAny_subDict (knd := mixKind X.prog X.w) (by simp) ?_))
  show wpAny _ _ _ (fun vs s₁ => ∃ kvs, Carries (mixKind X.prog X.w) vs kvs ∧ s₁.heap.DictOf (mixKind X.prog X.w) h1.objs.size [] ∧ ∀ h', h'.DictOf (mixKind X.prog X.w) h1.objs.size (merged [] kvs) → Heap.SameBut h1.objs.size s₁.heap h' → _) _ { s1 with heap := h1.push { cls := .type "dict", data := .dict #[] } }
  rw [eq]
  refine evalPairs_cons (thn (hk.run pins _ σ _ _ I4 (q1 q qp qn1)) fun ku s3 ⟨y, H3, I5, ry, q3⟩ => wpAny_bind (thn (hv.run pins _ σ _ _ I5 q3) fun vu s4 ⟨z, H4, I6, rz, e4, e5, kk, ey, q4⟩ => wpAny_bind (wpAny_standAt (wpAny_pure (evalPairs_nil ?_)))))
  subst ey
  obtain ⟨_, nq, vq, relq, dq⟩ := dk_of I6.hok e4
  obtain rfl : vq = [] := by
    cases relq
    rfl
  refine ⟨[(.inr kk, vu)], ⟨kV_is (k := .inr kk) ry, rfl, True.intro⟩, dq, fun h2 d2 sb2 => ?_⟩
  have d2 : h2.DictOf (mixKind X.prog X.w) q [(.inr kk, vu)] := d2
  have gq : ∃ u, h2.get? q = some u := let ⟨o, _, _, g, _⟩ := d2; ⟨o, g⟩
  have I7 : Inv X pins σ (upd H4 q (.dK [(.inr kk, z)])) { s4 with heap := h2, toks := s4.toks + 1 } := I6.write (t' := s4.toks + 1) (by rw [e4]; exact True.intro) (.inl rfl) (fun b u hb g => by rw [sb2.2 b hb]; exact g) gq ⟨by show 1 ≤ sizeLine; decide, nq, _, .cons ⟨rfl, rz⟩ .nil, d2⟩
  have e7 : upd H4 q (.dK [(.inr kk, z)]) p = some (.dK kvs) := by rw [upd_ne (Ne.symm qp)]; exact e5
  obtain ⟨_, _, vs7, rel7, d7⟩ := dk_of I7.hok e7
  have l7 : vs7.length = kvs.length := rel7.length.symm
  refine wpAny_bind (wpAny_onRaise (wpAny_holding (merge_ok qp.symm nq d7 d2 (by rw [l7]; exact few) fun h3 d3 sb3 => ?_)))
  have d3 : h3.DictOf (mixKind X.prog X.w) p (stored vs7 (.inr kk) vu) := d3
  have g3 : ∃ u, h3.get? p = some u := let ⟨o, _, _, g, _⟩ := d3; ⟨o, g⟩
  have z3 : (putK kvs (.inr kk) z).length ≤ sizeLine := by
    have e := (rel7.put (.inr kk) rz).length
    have l := stored_length_le vs7 (.inr kk) vu
    omega
  have I8 : Inv X pins σ (upd (upd H4 q (.dK [(.inr kk, z)])) p (.dK (putK kvs (.inr kk) z))) { s4 with heap := h3, toks := s4.toks + 1 } :=
    I7.write (t' := s4.toks + 1) (by rw [e7]; exact True.intro) (.inl rfl) (fun b u hb g => by rw [sb3.2 b hb]; exact g) g3 ⟨z3, np, _, rel7.put (.inr kk) rz, d3⟩
  exact wpAny_pure (wpAny_pure ⟨.ref p, _, I8, rfl, q4⟩)
end
end Dd
/-! what is never come to; defs with a star parameter as methods; x in o by an own __contains__ -/
namespace Sm
open PySem.Spec PyProof.Rows StX
section
variable {X : Cx}
theorem ps_dead {st : Stmt} : PS X st (fun _ _ _ => False) := ⟨fun _ _ _ _ _ _ h => h.elim⟩
end
/-- a def's promise by its values as they are handed in -/
def FnS (P : Program) (w : World) (K : PySem.W.Frag) (mg : Str → Option Value) (base : Heap) (CX : CXT) (k : Nat) (f : Addr) (sp : Sp) : Prop :=
  ∀ (A : Around), A.guards = some [] → ∀ (outer : List Env) (s : Shared) (H : Hp) (us : List Value) (vs : List V) (Q : VK) (E : XK), Room k A → Env0 P w K mg base A outer s H → Vals vs us → sp vs H Q E →
    codeAny (model P w) A (.call (.ref f) ⟨us, []⟩) (CR CX outer P w H s Q E) s
/-- n values as they are, the others in a new tuple -/
def spStar (n : Nat) (sp : Sp) : Sp := fun vs H Q E => ∃ ws rest, vs = ws ++ rest ∧ ws.length = n ∧ rest.length ≤ sizeLine ∧ ∀ p, H p = none → sp (ws ++ [.ref p]) (upd H p (.tup rest)) Q E
section
variable {CX : CXT} {P : Program} {w : World} {K : PySem.W.Frag} {mg : Str → Option Value} {base : Heap}
theorem defS {k : Nat} {f : Addr} {x qual pv : Str} {st : Stmt} {fd : FuncData} {N ps : List Str} {sp : Sp} (F : Fun K x qual st f fd) (S : FnScope N (ps ++ [pv]) (defScope st)) (up : CXUp CX)
    (hb : ∀ us rest : List Value, us.length = ps.length → bindArgs fd ⟨us ++ rest, []⟩ = (newTuple rest >>= fun t => pure (ps.zip us ++ [(pv, t)])))
    (inner : ∀ (cd : Value) (A : Around), A.guards = some [] → ∀ (outer : List Env) (s : Shared) (H : Hp) (vs : List V) (Q : VK) (E : XK), Room k (A.deeper (envOfC qual (defScope st) s.heap.objs.size f cd)) → sp vs H Q E →
      ∃ t, PSs (cxOf CX P w K mg base N qual (defScope st) f cd A outer s H E) (defBody st) t ∧ t { nx := fun _ H' => Q .non H', rt := Q } (start N vs) H) : FnS P w K mg base CX (k + 1) f (spStar ps.length sp) := by
  obtain ⟨oc, od, kV, doc, pm, an, cd, ct, osl, rfl, lk, hcd⟩ := F.ex
  intro A gd outer s H us vs Q E hr e0 r hsp
  obtain ⟨ws, rest, rfl, hl, hz, hq⟩ := hsp
  obtain ⟨u1, u2, rfl, r1, r2⟩ := vals_split r
  have hn : H s.heap.objs.size = none := e0.hok.fresh (Nat.le_refl _)
  have l1 : u1.length = ps.length := r1.length.symm.trans hl
  have l2 : u2.length ≤ sizeLine := by rw [← r2.length]; exact hz
  refine run_bnd lk hcd S hr e0 (G := fun xs H2 => ∃ p, H p = none ∧ xs = ws ++ [V.ref p] ∧ H2 = upd H p (.tup rest)) (fun A' Ex Q' h => ?_) fun s2 H2 xs g hr' => ?_
  · rw [hb u1 u2 l1]
    refine wpAny_bind (wpAny_newTuple (wpAny_pure ?_) l2)
    have un := un_laid (fs := frs outer) (s := s) (o := ({ cls := .type "tuple", data := .seq u2.toArray } : Obj)) (u := .tup rest) hn
    have new : ObjOk P w (upd H s.heap.objs.size (.tup rest)) (s.heap.push ({ cls := .type "tuple", data := .seq u2.toArray } : Obj)) s.heap.objs.size (.tup rest) := ⟨hz, u2, r2, _, Heap.get?_push_size _ rfl, rfl, _, rfl⟩
    have z := h _ _ (ws ++ [V.ref s.heap.objs.size]) (u1 ++ [Value.ref s.heap.objs.size]) (env0_laid e0 new) un rfl (fun e s' => up outer s H _ _ E e s' un (fun b o q => Heap.get?_push_of_some _ q) rfl) (r1.append (.cons rfl .nil))
      (by rw [List.length_append, List.length_append, hl]; rfl) ⟨_, hn, rfl, rfl⟩
    rw [List.zip_append l1.symm] at z
    exact z
  · obtain ⟨p, hp, rfl, rfl⟩ := g
    exact inner _ A gd outer s2 _ _ Q E hr' (hq p hp)
/-- nothing is raised -/
theorem defS0 {k : Nat} {f : Addr} {x qual pv : Str} {st : Stmt} {fd : FuncData} {N ps : List Str} {sp : Sp} (F : Fun K x qual st f fd) (S : FnScope N (ps ++ [pv]) (defScope st))
    (hb : ∀ us rest : List Value, us.length = ps.length → bindArgs fd ⟨us ++ rest, []⟩ = (newTuple rest >>= fun t => pure (ps.zip us ++ [(pv, t)])))
    (inner : ∀ (cd : Value) (A : Around), A.guards = some [] → ∀ (outer : List Env) (s : Shared) (H : Hp) (vs : List V) (Q : VK) (E : XK), Room k (A.deeper (envOfC qual (defScope st) s.heap.objs.size f cd)) → sp vs H Q E →
      ∃ t, PSs (cxOf CX0 P w K mg base N qual (defScope st) f cd A outer s H E).nox (defBody st) t ∧ t { nx := fun _ H' => Q .non H', rt := Q } (start N vs) H) : FnS P w K mg base CX0 (k + 1) f (spStar ps.length sp) :=
  defS F S cxUp_none hb fun cd A g outer s H vs Q E hr h => let ⟨t, a, b⟩ := inner cd A g outer s H vs Q E hr h; ⟨t, a.nox, b⟩
def MCalS (P : Program) (w : World) (K : PySem.W.Frag) (mg : Str → Option Value) (base : Heap) (CX : CXT) (C : Addr) (k : Nat) (m : Str) (sp : Sp) : Prop := ∃ f : Addr, FnS P w K mg base CX k f sp ∧ Meth K C m f
end
section
variable {X : Cx} {CX : CXT} {k j : Nat} {C : Addr} {sp : Sp} {E : XK} {m : Str} {o e : Expr} {es : List Expr} {apos pos : Pos} {ta : TE} {t : TA}
theorem methS {pl : Sem Bool} (he : PE X o ta) (c : L2.Cls X.K C) (M : MCalS X.prog X.w X.K X.mg X.base CX C k m sp) (g : X.A.guards = some []) (hr : Room j X.A) (hk : k ≤ j) (hx : Passes CX X E) (ha : PA X (e :: es) t)
    (hst : starEach (e :: es) X.env = (false, eval e X.env) :: starEach es X.env := by rfl) (hpl : (backTo pos (starEach es X.env)).any (·.1) = false := by rfl)
    (ht : eval (.Call (.Attribute o m apos) (e :: es) [] pos) X.env = (do
      let ov ← eval o X.env
      standAt apos.atName
      let (f, first) ← holding [ov] (getMethod ov m pl)
      callWith pos f first (backTo pos (starEach (e :: es) X.env)) (backToKw pos (keywordEach [] X.env))) := by rfl) : PE X (.Call (.Attribute o m apos) (e :: es) [] pos) (tMeth C m sp [] E ta t) := by
  obtain ⟨f, F, hm⟩ := M
  refine ⟨fun pins s σ H Q I h => PySem.W.methodCall_KW (pl := pl) (thn (he.run pins s σ H _ I h) fun u s1 ⟨x, H1, I1, rx, a, dx, fs, ex, ea, l, q⟩ => ?_) ht⟩
  subst ex
  obtain rfl : u = Value.ref a := rx
  refine getmeth_ok I1 ea c hm l (PySem.W.callWith_K (first := [.ref a]) (h₀ := X.base) I.ok.mod.kin hm.kp (thn (ha.run pos pins s1 σ H1 _ I1 q) fun us s2 ⟨vs, H2, I2, r, q2⟩ => ⟨I2.kIn, wpAny_call ?_⟩) hst hpl)
  have q2 : sp (V.ref a :: (vs ++ [])) H2 Q E := q2
  rw [List.append_nil] at q2
  exact codeAny_mono (F X.A g X.stack s2 H2 _ _ Q E (hr.mono hk) I2.env0 (.cons (show RelV (.ref a) (.ref a) from rfl) r) q2) fun r s' z => Ob.flow hx I2 z
end
/-! ### x in o -/
section
variable {X : Cx} {CX : CXT} {k j : Nat} {C : Addr} {sp : Sp}
def InCal (P : Program) (w : World) (K : PySem.W.Frag) (mg : Str → Option Value) (base : Heap) (CX : CXT) (C : Addr) (k : Nat) (sp : Sp) : Prop :=
  ∃ (f : Addr) (fd : FuncData) (ps : List Str), FnG P w K mg base CX k f fd ps sp ∧ PySem.W.findIn K (.ref C) "__contains__" = some (some (.ref f)) ∧ PySem.W.isFn K (.ref f) = true ∧ Binds K fd ps []
def rInO (C : Addr) (sp : Sp) (neg : Bool) : R2 := fun x y H Q => ∃ (a dx : Addr) (fs : List (Str × V)), y = .ref a ∧ H a = some (.ins C dx fs) ∧ sp [.ref a, x] H (fun v H' => ∃ c : Bool, v = .bl c ∧ Q (.bl (if neg = true then !c else c)) H') E0
theorem op_inO (M : InCal X.prog X.w X.K X.mg X.base CX C k sp) (g : X.A.guards = some []) (hr : Room j X.A) (hk : k ≤ j) (hx : Passes CX X E0) : OpR X (compareOp .In) (rInO C sp false) := by
  obtain ⟨f, fd, ps, F, hs, hf, hb⟩ := M
  intro pins s σ H x y v u Q I rx ry h
  obtain ⟨a, dx, fs, rfl, ha, q⟩ := h
  obtain rfl : u = Value.ref a := ry
  obtain ⟨od, J⟩ := Ow.instAt I ha
  obtain ⟨m, hF⟩ := I.fr
  refine PySem.W.in_K hF I.ok.mod.kin J hs hf (wpAny_call (codeAny_mono (Ob.goG F g (hr.mono hk) I.env0 I.kIn hb (.cons (show RelV (.ref a) (.ref a) from rfl) (.cons rx .nil)) q) fun r s' z => ?_))
  match r, z with
  | .error er, z => exact hx pins σ H s er s' I z
  | .ok .next, z => exact z.elim
  | .ok .brk, z => exact z.elim
  | .ok .cont, z => exact z.elim
  | .ok (.ret u'), z =>
    obtain ⟨v, H', I', rv, c, rfl, q'⟩ := I.after z
    obtain rfl : u' = Value.bool c := rv
    exact wpAny_truthy_bool ⟨.bl c, H', I', rfl, q'⟩
theorem op_ninO (M : InCal X.prog X.w X.K X.mg X.base CX C k sp) (g : X.A.guards = some []) (hr : Room j X.A) (hk : k ≤ j) (hx : Passes CX X E0) : OpR X (compareOp .NotIn) (rInO C sp true) := by
  obtain ⟨f, fd, ps, F, hs, hf, hb⟩ := M
  intro pins s σ H x y v u Q I rx ry h
  obtain ⟨a, dx, fs, rfl, ha, q⟩ := h
  obtain rfl : u = Value.ref a := ry
  obtain ⟨od, J⟩ := Ow.instAt I ha
  obtain ⟨m, hF⟩ := I.fr
  refine PySem.W.notIn_K hF I.ok.mod.kin J hs hf (wpAny_call (codeAny_mono (Ob.goG F g (hr.mono hk) I.env0 I.kIn hb (.cons (show RelV (.ref a) (.ref a) from rfl) (.cons rx .nil)) q) fun r s' z => ?_))
  match r, z with
  | .error er, z => exact hx pins σ H s er s' I z
  | .ok .next, z => exact z.elim
  | .ok .brk, z => exact z.elim
  | .ok .cont, z => exact z.elim
  | .ok (.ret u'), z =>
    obtain ⟨v, H', I', rv, c, rfl, q'⟩ := I.after z
    obtain rfl : u' = Value.bool c := rv
    exact wpAny_truthy_bool ⟨.bl (!c), H', I', rfl, q'⟩
end
end Sm
namespace Od2
open PySem.Spec PyProof.Rows
def rDictD : List V → Hp → VK → Prop := fun xs H Q => ∃ (a : Addr) (kvs : List (Key × V)), xs = [.ref a] ∧ L2.Rd H a (.dK kvs) ∧ ∀ p, H p = none → Q (.ref p) (upd H p (.dK kvs))
theorem call_dict {X : Cx} : CallR X (.type "dict") rDictD := call_dictD
end Od2
namespace Ob
open PySem.Spec PyProof.Rows
section
variable {X : Cx} {CX : CXT} {k j : Nat} {C : Addr} {sp : Sp} {E : XK}
/-- x[k] and x[k] = v of the class at C -/
def GetCal (P : Program) (w : World) (K : PySem.W.Frag) (mg : Str → Option Value) (base : Heap) (CX : CXT) (C : Addr) (k : Nat) (m : Str) (sp : Sp) : Prop :=
  ∃ (g : Addr) (fd : FuncData) (ps : List Str), FnG P w K mg base CX k g fd ps sp ∧ Ow.SpC K C m g ∧ Binds K fd ps []
theorem getO {a b : Expr} {ta tb : TE} {pos : Pos} (M : GetCal X.prog X.w X.K X.mg X.base CX C k "__getitem__" sp) (g : X.A.guards = some []) (hr : Room j X.A) (hk : k + 1 ≤ j) (hx : Passes CX X E) (ha : PE X a ta) (hb : PE X b tb)
    (hs : ∀ (o i : Value), subscripted b true o i = runValue (.builtin "lifetime.subscript" ⟨[o, i], []⟩)) : PE X (.Subscript a b pos) (Ow.tGetO C sp E ta tb) := by
  obtain ⟨f, fd, ps, F, S, bd⟩ := M
  exact Ow.pe_getO S F g (hr.mono hk) bd hx ha hb hs
theorem setO (M : GetCal X.prog X.w X.K X.mg X.base CX C k "__setitem__" sp) (g : X.A.guards = some []) (hr : Room j X.A) (hk : k ≤ j) (hx : Passes CX X E) : PSet X (Ow.rSetO C sp E) := by
  obtain ⟨f, fd, ps, F, S, bd⟩ := M
  exact Ow.set_ownR S F g (hr.mono hk) bd hx
end
/-- what of the text an own class has -/
structure CF (K : PySem.W.Frag) (mg : Str → Option Value) (x : Str) (C : Addr) : Prop where
  cl : L2.Cls K C
  g : mg x = some (.ref C)
  ne : PySem.W.findIn K (.ref C) "__ne__" = some (some (.builtin "object.__ne__"))
  ob : PySem.W.mroIn K C (.type "object") = some true
/-- a method as the top has left it -/
def MethAt (K : PySem.W.Frag) (x qual : Str) (st : Stmt) (ps : List Str) (f : Addr) (fd : FuncData) : Prop := Fun K x qual st f fd ∧ Binds K fd ps []
section
variable {P : Program} {w : World} {K : PySem.W.Frag} {mg : Str → Option Value} {base : Heap}
theorem byG {x qual : Str} {st : Stmt} {ps N : List Str} {f : Addr} {fd : FuncData} {k : Nat} {sp : Sp} (D : MethAt K x qual st ps f fd) (S : FnScope N ps (defScope st)) (len : ∀ vs H Q E, sp vs H Q E → vs.length = ps.length)
    (inner : ∀ (cd : Value) (A : Around), A.guards = some [] → ∀ (outer : List Env) (s : Shared) (H : Hp) (vs : List V) (Q : VK) (E : XK),
      Room k (A.deeper (envOfC qual (defScope st) s.heap.objs.size f cd)) → sp vs H Q E →
      ∃ t, PSs (cxOf CX0 P w K mg base N qual (defScope st) f cd A outer s H E).nox (defBody st) t ∧ t { nx := fun _ H' => Q .non H', rt := Q } (start N vs) H) : FnG P w K mg base CX0 (k + 1) f fd ps sp :=
  defG0 D.1 S len inner
theorem byGX {x qual : Str} {st : Stmt} {ps N : List Str} {f : Addr} {fd : FuncData} {k : Nat} {sp : Sp} (D : MethAt K x qual st ps f fd) (S : FnScope N ps (defScope st)) (len : ∀ vs H Q E, sp vs H Q E → vs.length = ps.length)
    (inner : ∀ (cd : Value) (A : Around), A.guards = some [] → ∀ (outer : List Env) (s : Shared) (H : Hp) (vs : List V) (Q : VK) (E : XK),
      Room k (A.deeper (envOfC qual (defScope st) s.heap.objs.size f cd)) → sp vs H Q E →
      ∃ t, PSs (cxOf (L2.CX P w) P w K mg base N qual (defScope st) f cd A outer s H E) (defBody st) t ∧ t { nx := fun _ H' => Q .non H', rt := Q } (start N vs) H) : FnG P w K mg base (L2.CX P w) (k + 1) f fd ps sp :=
  defG D.1 S len inner
end
end Ob
namespace Ab
open PySem L2 Gk
def top (i : Nat) : Stmt := PySem.Challenge.pw_answersby_k07_tables_built.main.body.getD i (.Pass ⟨0, 0, 0, 0⟩)
def clsBody : Stmt → List Stmt
  | .ClassDef _ _ _ b _ _ _ _ _ _ _ => b
  | _ => []
def meth (i j : Nat) : Stmt := (clsBody (top i)).getD j (.Pass ⟨0, 0, 0, 0⟩)
structure Txt (K : PySem.W.Frag) (mg : Str → Option Value) : Prop where
  int : mg "int" = none
  len : mg "len" = none
  max : mg "max" = none
  min : mg "min" = none
  isinstance : mg "isinstance" = none
  range : mg "range" = none
  list : mg "list" = none
  dict : mg "dict" = none
  tuple : mg "tuple" = none
  set : mg "set" = none
  str : mg "str" = none
  bool : mg "bool" = none
  repr : mg "repr" = none
  all : mg "all" = none
  any : mg "any" = none
  sum : mg "sum" = none
  zip : mg "zip" = none
  enumerate : mg "enumerate" = none

theorem one_ {n : Nat} (h : n + 64 < cLine) : n + 1 < cLine := by omega
theorem un80 {k : Nat} {A : Around} (r : Room k A) : A.units + 80 < cLine := by have := r.un; omega
/-! ### tables -/
def tab (l : List Str) (f : Str → V) : List (Key × V) := l.map fun o => (.inr o, f o)
theorem val_tab (l : List Str) (f : Str → V) {o : Str} (h : o ∈ l) : valV (tab l f) (.inr o) = some (f o) := by
  induction l with
  | nil => cases h
  | cons a l ih =>
    by_cases e : a = o
    · subst e
      simp [valV, tab]
    · have hm : o ∈ l := (List.mem_cons.mp h).resolve_left fun z => e z.symm
      have := ih hm
      simp only [valV, tab, List.map_cons] at this ⊢
      rw [List.find?_cons_of_neg (by simpa using e)]
      exact this
theorem none_tab (l : List Str) (f : Str → V) {o : Str} (h : o ∉ l) : valV (tab l f) (.inr o) = none := by
  induction l with
  | nil => rfl
  | cons a l ih =>
    have e : a ≠ o := fun z => h (by rw [z]; exact List.mem_cons_self)
    have := ih fun z => h (List.mem_cons_of_mem _ z)
    simp only [valV, tab, List.map_cons] at this ⊢
    rw [List.find?_cons_of_neg (by simpa using e)]
    exact this
def put (f : Str → V) (o : Str) (v : V) : Str → V := fun x => if x = o then v else f x
theorem put_tab (l : List Str) (f : Str → V) {o : Str} (v : V) (h : o ∈ l) : putK (tab l f) (.inr o) v = tab l (put f o v) := by
  have e : ((tab l f).any fun kv => decide (kv.1 = .inr o)) = true := by
    rw [List.any_eq_true]
    exact ⟨(.inr o, f o), List.mem_map.mpr ⟨o, h, rfl⟩, by simp⟩
  rw [putK, if_pos e]
  simp only [tab, List.map_map]
  refine List.map_congr_left fun x _ => ?_
  by_cases c : x = o
  · subst c; simp [put]
  · simp [put, c]
theorem putK_new (l : List Str) (f : Str → V) {o : Str} (v : V) (h : o ∉ l) : putK (tab l f) (.inr o) v = tab l f ++ [(.inr o, v)] := by
  have e : ¬ ((tab l f).any fun kv => decide (kv.1 = .inr o)) = true := by
    rw [List.any_eq_true]
    rintro ⟨kv, hm, hk⟩
    obtain ⟨x, hx, rfl⟩ := List.mem_map.mp hm
    have : x = o := by simpa using hk
    exact h (this ▸ hx)
  rw [putK, if_neg e]
theorem tab_snoc (l : List Str) (f : Str → V) (o : Str) : tab l f ++ [(.inr o, f o)] = tab (l ++ [o]) f := by simp [tab]
theorem tab_congr {l : List Str} {f g : Str → V} (h : ∀ o ∈ l, f o = g o) : tab l f = tab l g := List.map_congr_left fun o ho => by rw [h o ho]
theorem tab_len (l : List Str) (f : Str → V) : (tab l f).length = l.length := List.length_map ..
/-- the tables of the document -/
def ops : List Str := ["truth", "size", "each", "turned", "hash", "call", "member", "like", "unlike", "before", "behind", "grow"]
def menus : List (Str × List Str) := [("truth", ["truth", "length"]), ("size", ["length"]), ("each", ["walk", "item"]), ("turned", ["back", "count"]), ("hash", ["hash"]), ("call", ["call"]), ("member", ["has", "walk", "item"]), ("like", ["own", "turned"]),
  ("unlike", ["own", "like", "turned", "turned_like"]), ("before", ["own", "turned"]), ("behind", ["own", "turned"]), ("grow", ["grow", "plus"])]
def menu (o : Str) : List Str := (menus.lookup o).getD []
def flagsW : List Str := ["bars_hash", "ends_same", "ends_true"]
/-! ### heaps that go on -/
theorem sqT_same {K : PySem.W.Frag} {H H' : Hp} {p : Addr} {xs : List V} (s : Same H H') (h : SqT K H p xs) : SqT K H' p xs := Rd.tupS s h
/-- what stands at a is no tuple -/
def NoTup (H : Hp) (a : Addr) : Prop := ∀ u, H a = some u → (∀ xs, u ≠ .tup xs) ∧ ∀ o xs, u ≠ .frz o (.tup xs)
theorem sqT_upd {K : PySem.W.Frag} {H : Hp} {a p : Addr} {z : HO} {xs : List V} (n : NoTup H a) (h : SqT K H p xs) : SqT K (upd H a z) p xs := by
  rcases h with (h | ⟨o, h⟩) | h
  · refine .inl (.inl ?_)
    rw [upd_ne (fun e => by subst e; exact (n _ h).1 _ rfl)]
    exact h
  · refine .inl (.inr ⟨o, ?_⟩)
    rw [upd_ne (fun e => by subst e; exact (n _ h).2 _ _ rfl)]
    exact h
  · exact .inr h
theorem nt_dK {H : Hp} {a : Addr} {kvs : List (Key × V)} (h : H a = some (.dK kvs)) : NoTup H a := fun u e => by
  rw [h] at e; cases e; exact ⟨fun _ => by simp, fun _ _ => by simp⟩
theorem nt_lst {H : Hp} {a : Addr} {xs : List V} (h : H a = some (.lst xs)) : NoTup H a := fun u e => by
  rw [h] at e; cases e; exact ⟨fun _ => by simp, fun _ _ => by simp⟩
theorem nt_ins {H : Hp} {a C dx : Addr} {fs : List (Str × V)} (h : H a = some (.ins C dx fs)) : NoTup H a := fun u e => by
  rw [h] at e; cases e; exact ⟨fun _ => by simp, fun _ _ => by simp⟩
theorem nt_none {H : Hp} {a : Addr} (h : H a = none) : NoTup H a := fun u e => by rw [h] at e; cases e
theorem tup_ty {K : PySem.W.Frag} {H : Hp} {p : Addr} {xs : List V} (h : SqT K H p xs) : TyX K H (.ref p) (.type "tuple") := by
  rcases h with (h | ⟨o, h⟩) | ⟨o, its, n, h, c, _⟩
  · exact .base (.tup h)
  · exact .fTuple h
  · exact .kTuple h c
end Ab
/-! a try whose clauses name what they catch, one after the other; own methods and signs within a try -/
namespace Et
open PySem.Spec PyProof.Rows
abbrev Clause := Value × (Addr → Value → Option Addr → TS)
/-- the ends behind a suite: the name is gone -/
def goneE (i : Nat) (D : Ends) : Ends := { nx := fun u K => D.nx (u.set i none) K, rt := D.rt, bk := fun u K => D.bk (u.set i none) K, ct := fun u K => D.ct (u.set i none) K }
/-- what the clauses wish of an exception; slot i is the name's -/
def wAsN (K : PySem.W.Frag) (i : Nat) (out : WX) (D : Ends) : List Clause → WX
  | [] => out
  | (c, t) :: r => fun cls d τ G => ∃ y, PySem.W.exmOne K cls c = some y ∧ (y = true → ∀ e, G e = none → t e cls d (goneE i D) (τ.set i (some (.ref e))) G) ∧ (y = false → wAsN K i out D r cls d τ G)
inductive Clauses (X : Cx) (n : Str) : List ExceptHandler → List Clause → Prop
  | nil : Clauses X n [] []
  | cons {x : Str} {c : Value} {t : Addr → Value → Option Addr → TS} {b : Stmt} {bs : List Stmt} {p q : Pos} {hs : List ExceptHandler} {l : List Clause} (hc : Names X x c)
      (hb : ∀ (e : Addr) (oe : Obj) (cls : Value) (d : Option Addr) (pn : List (Addr × Obj)), Zc cls d oe → (∃ vs, oe.data = .fields vs) → PSs (X.suite e ((e, oe) :: pn)) (b :: bs) (t e cls d)) (r : Clauses X n hs l) :
      Clauses X n (.ExceptHandler (some (.Name x p)) (some n) (b :: bs) q :: hs) ((c, t) :: l)
/-- an exception at e that has come down to the frame of X: sI is the state without it -/
structure Down (X : Cx) (B : Heap) (pins : List (Addr × Obj)) (τ : L2.St) (G : Hp) (sI : Shared) (e : Addr) (cls : Value) (d : Option Addr) (s : Shared) : Prop where
  inv : Inv X pins τ G sI
  nb : ∀ b o, sI.heap.get? b = some o → b ∉ frs X.stack → B.get? b = some o
  up : sI.heap.UpToSlots s.heap
  fl : HandSPX.FlyingZ B (X.env :: X.outer) e (Zc cls d) s.heap
  na : G e = none
  os : s.os = sI.os
  ag : AllBare s.gens
section
variable {X : Cx} {B : Heap} {pins : List (Addr × Obj)} {τ : L2.St} {G : Hp} {sI s : Shared} {e : Addr} {cls : Value} {d : Option Addr}
theorem Down.here (z : Down X B pins τ G sI e cls d s) : Inv X pins τ G s := Inv.landed z.inv z.nb z.fl.1 z.up z.os z.ag
theorem Down.held (z : Down X B pins τ G sI e cls d s) (hf : X.env.frame = some X.env.locals) :
    ∃ oe vs, s.heap.get? e = some oe ∧ Zc cls d oe ∧ oe.data = .fields vs ∧ Inv (X.suite e ((e, oe) :: (X.pn ++ pins))) [] τ G s := by
  obtain ⟨oe, vs, h1, h2, h3⟩ := z.fl.there
  have no : e ∉ frs (X.env :: X.outer) := fun m => by
    obtain ⟨_, o, ho, hn⟩ := z.fl.2.2.1.mem m
    rw [ho] at h1
    exact hn vs (by rw [Option.some.inj h1]; exact h3)
  refine ⟨oe, vs, h1, h2, h3, z.here.suite h1 h3 z.na (fun q => no ?_) fun m => no ?_⟩
  · exact List.mem_filterMap.mpr ⟨X.env, List.mem_cons_self, by rw [q]; exact hf⟩
  · obtain ⟨v, hv, w⟩ := List.mem_filterMap.mp m
    exact List.mem_filterMap.mpr ⟨v, List.mem_cons_of_mem _ hv, w⟩
/-- no clause is left: it goes on -/
theorem Down.out {W : WX} {D : Ends} (z : Down X B pins τ G sI e cls d s) (hs : X.stack = X.env :: X.outer) (hf : X.env.frame = some X.env.locals) (tk : Takes X W) (w : W cls d τ G) :
    wpAny (model X.prog X.w) X.A (handleBy (.ref e) X.env []) (SP X pins D) X.xe s := by
  have fl := z.fl
  obtain ⟨_, _, _, oe, vs, T, oT, ts, h1, _, h3, h4, _⟩ := id fl
  have off : wpAny (model X.prog X.w) X.A (setFlight (.ref e) X.env.frame) (fun _ s' => wpAny (model X.prog X.w) X.A (throw (.ref e) : Sem Flow) (SP X pins D) X.xe s') X.xe s := by
    rw [hf]
    refine HandSPX.setFlight_upZ fl fun h4 hh up => wpAny_throw (tk _ _ ⟨e, B, sI, pins, τ, G, cls, d, rfl, z.inv, z.nb, z.up.trans up, ?_, z.na, z.os, z.ag, w⟩)
    rw [hs]
    exact .inr (.inr hh)
  refine wpAny_handleBy_nil ?_
  unfold PySem.passOn
  refine wpAny_bind (wpAny_field h1 h3 h4 ?_)
  rw [if_neg (show ¬ ((Value.ref T == Value.none) = true) by simp)]
  first
    | exact wpAny_bind (wpAny_pure (wpAny_bind off))
    | exact wpAny_bind off
/-- the clauses, one after the other -/
theorem Down.asked {i : Nat} {n : Str} {W : WX} {D : Ends} (hs : X.stack = X.env :: X.outer) (hf : X.env.frame = some X.env.locals) (hN : X.N.Nodup) (hi : X.N[i]? = some n) (hl : X.env.kindOf n = some .local) (tk : Takes X W)
    {hds : List ExceptHandler} {l : List Clause} (hc : Clauses X n hds l) : ∀ {s : Shared}, Down X B pins τ G sI e cls d s → wAsN X.K i W D l cls d τ G → wpAny (model X.prog X.w) X.A (handleBy (.ref e) X.env hds) (SP X pins D) X.xe s := by
  induction hc with
  | nil => exact fun z w => z.out hs hf tk w
  | @cons x c t b bs p q r l' names su _ ih =>
    rintro s z ⟨y, ym, yes, no⟩
    obtain ⟨oe, vs, h1, h2, h3, S⟩ := z.held hf
    have kind : PySem.W.Looks (model X.prog X.w) s.heap (typeOf (.ref e)) cls := fun A Q E s' k q => wpAny_typeOf_ref (k _ _ h1) (by rw [h2.1]; exact q)
    have asks := PySem.W.exm_one (M := model X.prog X.w) z.here.kIn kind ym
    refine wpAny_handleBy_cons (codeAny_handlers_test ?_) (by intro q; cases q)
    have nm : ∀ {Q : Value → Shared → Prop} {E : Value → Shared → Prop}, Q c s → wpAny (model X.prog X.w) (X.A.mark (some (.ref e))) (eval (.Name x p) X.env) Q E s := fun {Q E} k => by
      obtain ⟨g1, g2, g3⟩ := names
      rcases g3 with m | ⟨m, v, nn⟩
      · exact ld_glob (X := X.suite e ((e, oe) :: (X.pn ++ pins))) S g1 m k g2
      · exact ld_blt (X := X.suite e ((e, oe) :: (X.pn ++ pins))) S g1 m v k nn g2
    refine nm (asks.here ?_)
    cases y with
    | false => exact ih z (no rfl)
    | true =>
      refine codeAny_handlers_suite_as (HandSPX.lands_againZ z.fl fun h4 fl4 up4 => ?_)
      have z4 : Down X B pins τ G sI e cls d { s with heap := h4 } := ⟨z.inv, z.nb, z.up.trans up4, fl4, z.na, z.os, z.ag⟩
      obtain ⟨oe4, vs4, k1, k2, k3, S4⟩ := z4.held hf
      refine store_ok (X := X.suite e ((e, oe4) :: (X.pn ++ pins))) (v := .ref e) S4 hN hi (.inl hl) rfl (fun s5 S5 => ?_) (.inr hl)
      refine wpAny_mono ((su e oe4 cls d (X.pn ++ pins) k2 ⟨_, k3⟩).run [] s5 _ G _ S5 (yes rfl e z.na)) (fun f s6 q6 => ?_) (fun _ _ bad => False.elim bad)
      have leave : ∀ {τ' : L2.St} {G' : Hp} {R : Shared → Prop}, Inv (X.suite e ((e, oe4) :: (X.pn ++ pins))) [] τ' G' s6 → (∀ s7, Inv X pins (τ'.set i none) G' s7 → R s7) →
          wpAny (model X.prog X.w) X.A (do bindName X.env n .none; unbindBehindTheSuite X.env n q) (fun _ s7 => R s7) X.xe s6 := fun a k => gone_ok (a.unsuite z.inv.ok) hN hi hl k
      match f, q6 with
      | .next, q6 => obtain ⟨_, _, a, k⟩ := q6; exact leave a fun _ J => ⟨_, _, J, k⟩
      | .brk, q6 => obtain ⟨_, _, a, k⟩ := q6; exact leave a fun _ J => ⟨_, _, J, k⟩
      | .cont, q6 => obtain ⟨_, _, a, k⟩ := q6; exact leave a fun _ J => ⟨_, _, J, k⟩
      | .ret _, q6 => obtain ⟨_, _, _, a, v, k⟩ := q6; exact leave a fun _ J => ⟨_, _, _, J, v, k⟩
end
section
variable {X : Cx} {n : Str} {i : Nat} {body : List Stmt} {h0 : ExceptHandler} {hds : List ExceptHandler} {l : List Clause} {pos : Pos} {tb : WX → TS} {out : WX}
theorem ps_tryN (hs : X.stack = X.env :: X.outer) (hf : X.env.frame = some X.env.locals) (hN : X.N.Nodup) (hi : X.N[i]? = some n) (hl : X.env.kindOf n = some .local) (tk : Takes X out)
    (hb : ∀ (W : WX) (pn : List (Addr × Obj)) (xe : Value → Shared → Prop), Takes (X.tr pn xe) W → PassesOwn (model X.prog X.w) X.A X.env xe → PSs (X.tr pn xe) body (tb W))
    (hc : Clauses X n (h0 :: hds) l) : PS X (.Try body (h0 :: hds) [] [] pos) (fun D τ G => tb (wAsN X.K i out D l) D τ G) := by
  refine ⟨fun pins s τ G D I q => wpAny_Try_except (wpAny_mono ((hb (wAsN X.K i out D l) (X.pn ++ pins) (fun u t => wpAny (model X.prog X.w) X.A (noteFrame u X.env) (fun _ t' => wpAny (model X.prog X.w) X.A (setFlight u none)
    (fun _ t'' => wpAny (model X.prog X.w) X.A (handleBy u X.env (h0 :: hds)) (SP X pins D) X.xe t'') X.xe t') X.xe t) ?_ PassesOwn.looking).run [] s τ G D (I.toTry _) q) ?_ fun _ _ z => z)⟩
  · rintro u t ⟨e, B, sI, pins', τ', G', cls, d, rfl, J, nb, up, sky, na, os, ag, w⟩
    have J' : Inv X pins τ' G' sI := J.ofTry I.ok
    have sky' : Sky B (X.env :: X.outer) e (Zc cls d) X.env.locals t.heap := by rw [← hs]; exact sky
    exact Sky.land Zc.steady (by rw [I.ok.frames, hs]) hf sky' fun h3 fl3 up3 => Down.asked hs hf hN hi hl tk hc (s := { t with heap := h3 }) ⟨J', nb, up.trans up3, fl3, na, os, ag⟩ w
  · intro f t z
    match f, z with
    | .next, z => obtain ⟨_, _, J, k⟩ := z; exact wpAny_execs_nil ⟨_, _, J.ofTry I.ok, k⟩
    | .brk, z => obtain ⟨_, _, J, k⟩ := z; exact ⟨_, _, J.ofTry I.ok, k⟩
    | .cont, z => obtain ⟨_, _, J, k⟩ := z; exact ⟨_, _, J.ofTry I.ok, k⟩
    | .ret _, z => obtain ⟨_, _, _, J, v, k⟩ := z; exact ⟨_, _, _, J.ofTry I.ok, v, k⟩
end
/-! ### within a try -/
section
variable {X : Cx} {W : WX} {k j : Nat} {f C : Addr} {fd : FuncData} {ps : List Str} {sp : Sp}
theorem flowS {pins : List (Addr × Obj)} {τ : L2.St} {G : Hp} {s : Shared} {Q : VK} {r : Result} {s' : Shared} (tk : Takes X W) (I : Inv X pins τ G s) (h : CR (L2.CX X.prog X.w) X.stack X.prog X.w G s Q (WE W τ) r s') : wants (EP X pins τ Q) X.xe r s' := by
  match r, h with
  | .error e, z => exact passAt tk τ pins G s e s' I z
  | .ok (.ret u), z => exact I.after z
  | .ok .next, z => exact z.elim
  | .ok .brk, z => exact z.elim
  | .ok .cont, z => exact z.elim
def tMethS (m : Str) (C : Addr) (sp : Sp) (E : L2.St → XK) (ta : TE) (t : TA) : TE := fun τ G Q => ta τ G fun x G1 => ∃ a dx fs, x = .ref a ∧ G1 a = some (.ins C dx fs) ∧ fs.lookup m = none ∧ t τ G1 fun vs G2 => sp (x :: vs) G2 Q (E τ)
theorem methS {m : Str} {o e : Expr} {es : List Expr} {apos pos : Pos} {ta : TE} {t : TA} {pl : Sem Bool} (tk : Takes X W) (he : PE X o ta) (c : L2.Cls X.K C) (M : Ob.MCal X.prog X.w X.K X.mg X.base (L2.CX X.prog X.w) C k m sp) (g : X.A.guards = some []) (hr : Room j X.A) (hk : k ≤ j) (ha : PA X (e :: es) t)
    (hst : starEach (e :: es) X.env = (false, eval e X.env) :: starEach es X.env := by rfl) (hpl : (backTo pos (starEach es X.env)).any (·.1) = false := by rfl)
    (ht : eval (.Call (.Attribute o m apos) (e :: es) [] pos) X.env = (do
      let ov ← eval o X.env
      standAt apos.atName
      let (f, first) ← holding [ov] (getMethod ov m pl)
      callWith pos f first (backTo pos (starEach (e :: es) X.env)) (backToKw pos (keywordEach [] X.env))) := by rfl) : PE X (.Call (.Attribute o m apos) (e :: es) [] pos) (tMethS m C sp (WE W) ta t) := by
  obtain ⟨f, fd, ps, F, hm, hb⟩ := M
  refine ⟨fun pins s τ G Q I h => PySem.W.methodCall_KW (pl := pl) (thn (he.run pins s τ G _ I h) fun u s1 ⟨x, G1, I1, rx, a, dx, fs, ex, ea, l, q⟩ => ?_) ht⟩
  subst ex
  obtain rfl : u = Value.ref a := rx
  refine getmeth_ok I1 ea c hm l (PySem.W.callWith_K (first := [.ref a]) (h₀ := X.base) I.ok.mod.kin hm.kp (thn (ha.run pos pins s1 τ G1 _ I1 q) fun us s2 ⟨vs, G2, I2, r, q2⟩ => ⟨I2.kIn, wpAny_call ?_⟩) hst hpl)
  exact codeAny_mono (Ob.goG F g (hr.mono hk) I2.env0 I2.kIn hb (.cons (show RelV (.ref a) (.ref a) from rfl) r) q2) fun r s' z => flowS tk I2 z
/-- x[k] -/
def tGetS (C : Addr) (sp : Sp) (E : L2.St → XK) (ta tb : TE) : TE := fun τ G Q => ta τ G fun x G1 => tb τ G1 fun y G2 => ∃ a dx fs, x = .ref a ∧ G2 a = some (.ins C dx fs) ∧ sp [.ref a, y] G2 Q (E τ)
theorem getS {a b : Expr} {ta tb : TE} {pos : Pos} (tk : Takes X W) (M : Ob.GetCal X.prog X.w X.K X.mg X.base (L2.CX X.prog X.w) C k "__getitem__" sp) (gd : X.A.guards = some []) (hr : Room j X.A) (hk : k + 1 ≤ j) (ha : PE X a ta) (hb' : PE X b tb)
    (hs : ∀ (o i : Value), subscripted b true o i = runValue (.builtin "lifetime.subscript" ⟨[o, i], []⟩)) : PE X (.Subscript a b pos) (tGetS C sp (WE W) ta tb) := by
  obtain ⟨f, fd, ps, F, S, hb⟩ := M
  refine ⟨fun pins s τ G Q I h => Subscript_ (binT ha hb' I h fun v u s2 x y G2 I2 rx ry q => ?_)⟩
  obtain ⟨p, dx, fs, rfl, hp, q⟩ := q
  obtain rfl : v = Value.ref p := rx
  obtain ⟨m, fr⟩ := I2.fr
  obtain ⟨od, J⟩ := Ow.instAt I2 hp
  have isf : PySem.W.isFn X.K (.ref f) = true := by show (PySem.W.typeIn X.K (.ref f) == some (.type "function")) = true; rw [S.sp.fn] <;> rfl
  refine PySem.W.sub_K fr I2.ok.mod.kin J S.sp.at_ S.fi isf (wpAny_call ?_) (hs _ _)
  exact codeAny_mono (Ob.goG F (A := X.A.in1) gd (hr.mono hk).in1 I2.env0.in1 I2.kIn hb (.cons (show RelV (.ref p) (.ref p) from rfl) (.cons ry .nil)) q) fun r s' z => flowS tk I2 z
/-- x[k] = v -/
def gSetS (C : Addr) (sp : Sp) (E : L2.St → XK) (to ti : TE) : TG := fun v τ G Q => to τ G fun x G1 => ti τ G1 fun y G2 => ∃ a dx fs, x = .ref a ∧ G2 a = some (.ins C dx fs) ∧ sp [.ref a, y, v] G2 (fun _ G3 => Q τ G3) (E τ)
theorem pg_setS {o i : Expr} {to ti : TE} {pos : Pos} (tk : Takes X W) (M : Ob.GetCal X.prog X.w X.K X.mg X.base (L2.CX X.prog X.w) C k "__setitem__" sp) (gd : X.A.guards = some []) (hr : Room j X.A) (hk : k ≤ j) (ho : PE X o to) (hi : PE X i ti)
    (ha : ∀ v, assign (.Subscript o i pos) X.env v = (do
      let b ← holding [v] (eval o X.env)
      let c ← holding [v, b] (eval i X.env)
      standAt pos
      holding [v, b, c] (setItem b c v)
      release [v, b, c] []) := by intro _; rfl) : PG X (.Subscript o i pos) (gSetS C sp (WE W) to ti) := by
  obtain ⟨f, fd, ps, F, S, hb⟩ := M
  refine ⟨fun pins s τ G v u Q I r h => ?_⟩
  rw [ha]
  refine wpAny_bind (wpAny_holding (thn (ho.run pins s τ G _ I h) fun b s1 ⟨x, G1, I1, r1, q1⟩ => ?_))
  refine wpAny_bind (wpAny_holding (thn (hi.run pins s1 τ G1 _ I1 q1) fun c s2 ⟨y, G2, I2, r2, p, dx, fs, ep, hp, q2⟩ => ?_))
  subst ep
  obtain rfl : b = Value.ref p := r1
  obtain ⟨_, _, _, hob, _⟩ := I2.hok p _ hp
  refine wpAny_bind (wpAny_standAt (wpAny_bind (wpAny_holding (Ow.set_own I2.kIn hob rfl S.dq S.sp (wpAny_call ?_)))))
  refine codeAny_mono (Ob.goG F gd (hr.mono hk) I2.env0 I2.kIn hb (.cons (show RelV (.ref p) (.ref p) from rfl) (.cons r2 (.cons r .nil))) q2) fun z s' zz => ?_
  have := flowS tk I2 zz
  match z, this with
  | .error _, t => exact t
  | .ok (.ret w), t =>
    obtain ⟨_, G3, I3, _, q3⟩ := t
    exact wpAny_release ⟨τ, G3, I3, q3⟩
  | .ok .next, t => exact t.elim
  | .ok .brk, t => exact t.elim
  | .ok .cont, t => exact t.elim
end
end Et
/-! C(..) within a try -/
namespace Mt
open PySem.Spec PyProof.Rows
section
variable {X : Cx} {W : WX} {k j : Nat} {f C : Addr} {fd : FuncData} {ps : List Str} {sp : Sp} {x : Str} {e : Expr} {es : List Expr} {p pos : Pos} {t : TA}
def tMakeS (C : Addr) (sp : Sp) (E : L2.St → XK) (t : TA) : TE := fun σ H Q => t σ H fun vs H1 => ∀ x dx, H1 x = none → H1 dx = none → dx ≠ x → sp (.ref x :: vs) (upd (upd H1 dx (.own x)) x (.ins C dx [])) (fun v H2 => v = .non ∧ Q (.ref x) H2) (E σ)
theorem runS {pins : List (Addr × Obj)} {σ : L2.St} {H : Hp} {s : Shared} {Q : VK} {us : List Value} {vs : List V} (M : Mk X.K C f) (F : FnG X.prog X.w X.K X.mg X.base (L2.CX X.prog X.w) k f fd ps sp) (g : X.A.guards = some []) (hr : Room (k + 1) X.A) (hb : Binds X.K fd ps []) (tk : Takes X W) (I : Inv X pins σ H s) (r : Vals vs us)
    (h : ∀ x dx, H x = none → H dx = none → dx ≠ x → sp (.ref x :: vs) (upd (upd H dx (.own x)) x (.ins C dx [])) (fun v H2 => v = .non ∧ Q (.ref x) H2) (WE W σ)) : wpAny (model X.prog X.w) X.A (call (.ref C) us) (EP X pins σ Q) X.xe s := by
  have hq := h (s.heap.objs.size + 1) s.heap.objs.size (I.hok.fresh (Nat.le_succ _)) (I.hok.fresh (Nat.le_refl _)) (Nat.ne_of_lt (Nat.lt_succ_self _))
  have I2 := Inv.made (C := C) I
  have run := Ob.goG F (A := X.A.under (.builtin "type.__call__" ⟨.ref C :: us, []⟩)) (Ob.guards_make.trans g) (hr.make C us []) (I2.env0.make C us []) I2.kIn hb (.cons (show RelV (.ref (s.heap.objs.size + 1)) (.ref (s.heap.objs.size + 1)) from rfl) r) hq
  refine wpAny_call (make_map (f := f) I.kIn M.makes M.init (beq_iff_eq.mp M.fn) (codeAny_mono run fun r s' hq' => ?_))
  match r, hq' with
  | .error er, z => exact passAt tk σ pins _ _ er s' I2 z
  | .ok .next, z => exact z.elim
  | .ok .brk, z => exact z.elim
  | .ok .cont, z => exact z.elim
  | .ok (.ret u), z =>
    obtain ⟨v, H', I3, rv, ev, q3⟩ := I2.after z
    subst ev
    exact ⟨rv, ⟨V.ref (s.heap.objs.size + 1), H', I3, rfl, q3⟩⟩
theorem makeS (tk : Takes X W) (M : Ob.MkCal X.prog X.w X.K X.mg X.base (L2.CX X.prog X.w) C k x sp) (gd : X.A.guards = some []) (hr : Room j X.A) (hk : k + 1 ≤ j) (ha : PA X (e :: es) t) (hg : Gl X x := by rfl)
    (hdb : (x == ("__debug__" : Str)) = false := by decide) (he : starEach (e :: es) X.env = (false, eval e X.env) :: starEach es X.env := by rfl) (hpl : (backTo pos (starEach es X.env)).any (·.1) = false := by rfl) :
    PE X (.Call (.Name x p) (e :: es) [] pos) (tMakeS C sp (WE W) t) := by
  obtain ⟨f, fd, ps, F, M, hb, hm⟩ := M
  refine ⟨fun pins s σ H Q I h => wpAny_Call_Name_kw (ld_glob I hg hm ?_ hdb)⟩
  exact PySem.W.callWith_K (h₀ := X.base) I.ok.mod.kin M.kp (thn (ha.run pos pins s σ H _ I h) fun us s1 ⟨vs, H1, I1, r, q⟩ => ⟨I1.kIn, runS M F gd (hr.mono hk) hb tk I1 r q⟩) he hpl
end
theorem makeR {C : Addr} {sp : Sp} {E : L2.St → XK} {t : TA} {σ : L2.St} {H : Hp} {Q : VK} (k : t σ H fun vs H1 => ∀ x dx, H1 x = none → H1 dx = none → dx ≠ x → sp (.ref x :: vs) (upd (upd H1 dx (.own x)) x (.ins C dx [])) (fun v H2 => v = .non ∧ Q (.ref x) H2) (E σ)) : tMakeS C sp E t σ H Q := k
end Mt
namespace Ab
open PySem.Spec PyProof.Rows
def isStr : V → Bool
  | .str _ => true
  | _ => false
def isBl : V → Bool
  | .bl _ => true
  | _ => false
def isInt : V → Bool
  | .int _ => true
  | .bl _ => true
  | _ => false
/-- a value's own kind, as isinstance tells it -/
structure Kd (K : PySem.W.Frag) (H : Hp) (v : V) (tn : String) : Prop where
  ty : TyX K H v (.type tn)
  s : kitB tn "str" = some (isStr v)
  i : kitB tn "int" = some (isInt v)
  b : kitB tn "bool" = some (isBl v)
def isIn (v : V) (ws : List Str) : Bool := match v with
  | .str s => decide (s ∈ ws)
  | _ => false
def isNum : V → Bool
  | .int _ => true
  | _ => false
theorem isi {K : PySem.W.Frag} {H : Hp} {v : V} {tn c : String} {b : Bool} {Q : VK} (h : TyX K H v (.type tn)) (k : kitB tn c = some b) (q : Q (.bl b) H) : rIsi K [v, .ty c] H Q :=
  ⟨v, .ty c, .type tn, .type c, b, rfl, .ty c, h, kit_ty k, q⟩
theorem inT {K : PySem.W.Frag} {H : Hp} {x : V} {p : Addr} {xs : List V} {Q : VK} {neg : Bool} (h : SqT K H p xs) (hx : flatV x = true) (ha : xs.all flatV = true) (k : Q (.bl (if neg then !inV x xs else inV x xs)) H) : rIn K neg x (.ref p) H Q := ⟨p, xs, rfl, .inr h, hx, ha, k⟩
theorem inV_str (w : Str) (l : List Str) : inV (.str w) (l.map V.str) = decide (w ∈ l) := by
  induction l with
  | nil => rfl
  | cons a l ih =>
    show (eqV (.str a) (.str w) || inV (.str w) (l.map V.str)) = _
    rw [ih]
    show ((a == w) || _) = _
    by_cases e : a = w
    · subst e; simp
    · have e' : ¬ w = a := fun z => e z.symm
      simp [e, e']
theorem flat_strs (l : List Str) : (l.map V.str).all flatV = true := by
  rw [List.all_eq_true]
  intro x hx
  obtain ⟨s, _, rfl⟩ := List.mem_map.mp hx
  rfl
section
variable {P : Program} {w : World} {K : PySem.W.Frag} {mg : Str → Option Value} {base : Heap}
abbrev sIs_number : Stmt := top 15
abbrev nIs_number : List Str := ["value"]
theorem scIs_number : FnScope nIs_number ["value"] (defScope sIs_number) := ⟨rfl, rfl, rfl, by decide +kernel, rfl, by decide +kernel, by decide +kernel⟩
def spNum (K : PySem.W.Frag) : Sp := fun vs H Q _ => ∃ (v : V) (tn : String), vs = [v] ∧ Kd K H v tn ∧ Q (.bl (isNum v)) H
theorem ok_number (T : Txt K mg) (D : DefAt K mg "is_number" sIs_number ["value"]) : CalG P w K mg base 1 "is_number" (spNum K) := by
  refine D.by scIs_number (fun vs H Q E h => ?_) (fun f cd A hg outer s H vs Q E hr h => ?_)
  · obtain ⟨v, tn, rfl, _⟩ := h
    rfl
  · obtain ⟨v, tn, rfl, k, q⟩ := h
    refine ⟨_, (pss_one (ps_ret (pe_and (pe_callB (r := rIsi K) call_isi (by rfl) T.isinstance (by decide +kernel) (pa_cons (pv 0) (pa_cons (pe_bltn (v := .ty "int") (by rfl) T.int (by decide +kernel) rfl) pa_nil))) (pe_one (pe_not (pe_callB (r := rIsi K) call_isi (by rfl) T.isinstance (by decide +kernel) (pa_cons (pv 0) (pa_cons (pe_bltn (v := .ty "bool") (by rfl) T.bool (by decide +kernel) rfl) pa_nil)))))))), ?_⟩
    repeat walk_at "rd"
    refine isi k.ty k.i ?_
    repeat walk_at "rd"
    refine Rd.bool (fun c => ?_) (fun c => ?_)
    · repeat walk_at "rd"
      refine isi k.ty k.b ?_
      repeat walk_at "rd"
      have e : isNum v = !isBl v := by cases v <;> first | rfl | cases c
      rw [← e]
      exact q
    · have e : isNum v = false := by cases v <;> first | rfl | cases c
      rw [e] at q
      exact q
abbrev sIs_one_of : Stmt := top 17
abbrev nIs_one_of : List Str := ["value", "words"]
theorem scIs_one_of : FnScope nIs_one_of ["value", "words"] (defScope sIs_one_of) := ⟨rfl, rfl, rfl, by decide +kernel, rfl, by decide +kernel, by decide +kernel⟩
def spOneOf (K : PySem.W.Frag) : Sp := fun vs H Q _ => ∃ (v : V) (p : Addr) (tn : String) (ws : List Str), vs = [v, .ref p] ∧ Kd K H v tn ∧ SqT K H p (ws.map V.str) ∧ Q (.bl (isIn v ws)) H
theorem ok_one_of (T : Txt K mg) (D : DefAt K mg "is_one_of" sIs_one_of ["value", "words"]) : CalG P w K mg base 1 "is_one_of" (spOneOf K) := by
  refine D.by scIs_one_of (fun vs H Q E h => ?_) (fun f cd A hg outer s H vs Q E hr h => ?_)
  · obtain ⟨v, p, tn, ws, rfl, _⟩ := h
    rfl
  · obtain ⟨v, p, tn, ws, rfl, k, hp, q⟩ := h
    refine ⟨_, (pss_one (ps_ret (pe_and (pe_callB (r := rIsi K) call_isi (by rfl) T.isinstance (by decide +kernel) (pa_cons (pv 0) (pa_cons (pe_bltn (v := .ty "str") (by rfl) T.str (by decide +kernel) rfl) pa_nil))) (pe_one (pe_cmpR (r := rIn K false) op_in_seq (pv 0) (pv 1) (by rfl)))))), ?_⟩
    repeat walk_at "rd"
    refine isi k.ty k.s ?_
    repeat walk_at "rd"
    refine Rd.bool (fun c => ?_) (fun c => ?_)
    · obtain ⟨z, rfl⟩ : ∃ z, v = .str z := by cases v <;> first | exact ⟨_, rfl⟩ | cases c
      repeat walk_at "rd"
      refine inT hp rfl (flat_strs _) ?_
      have e : (if (false : Bool) = true then !inV (.str z) (ws.map V.str) else inV (.str z) (ws.map V.str)) = decide (z ∈ ws) := by rw [inV_str]; rfl
      rw [e]
      exact q
    · have e : isIn v ws = false := by cases v <;> first | rfl | cases c
      rw [e] at q
      exact q
abbrev sCheck_method : Stmt := top 26
abbrev nCheck_method : List Str := ["method"]
theorem scCheck_method : FnScope nCheck_method ["method"] (defScope sCheck_method) := ⟨rfl, rfl, rfl, by decide +kernel, rfl, by decide +kernel, by decide +kernel⟩
def spCheck (K : PySem.W.Frag) (C : Addr) (ws : List Str) : Sp := fun vs H Q E => ∃ (v : V) (tn : String), vs = [v] ∧ Kd K H v tn ∧ (isIn v ws = true → Q .non H) ∧ (isIn v ws = false → ∀ d, H d = none → E (.ref C) (some d) (upd H d (.xd [(("value" : Str), v)])))
theorem ok_check_method (T : Txt K mg) {C p_METHODS : Addr} {ws : List Str} (g_METHODS : mg "METHODS" = some (.ref p_METHODS)) (tM : ∀ H, SqT K H p_METHODS (ws.map V.str)) (T_NoName : Ex.ErrC K mg "NoName" "value" C) (M_NoName : Ex.InitOk P w K mg base "value" C)
    (D : DefAt K mg "check_method" sCheck_method ["method"]) (CIs_one_of : CalG P w K mg base 1 "is_one_of" (spOneOf K)) : Ex.CalX P w K mg base 3 "check_method" (spCheck K C ws) := by
  refine Ex.byX D scCheck_method (fun vs H Q E h => ?_) (fun f cd A hg outer s H vs Q E hr h => ?_)
  · obtain ⟨v, tn, rfl, _⟩ := h
    rfl
  · obtain ⟨v, tn, rfl, k, q1, q2⟩ := h
    refine ⟨_, (pss_one (ps_if (pt_not (pt_val (pe_cG CIs_one_of hg hr (by decide) (pa_cons (pv 0) (pa_cons (pe_glob (v := .ref p_METHODS) (by rfl) g_METHODS rfl) pa_nil)))))
  (pss_one (ps_raise rfl (takes_of rfl rfl rfl rfl) (Ex.pmkE T_NoName M_NoName hr (by decide) (pa_cons (pv 0) pa_nil))))
  pss_nil)), ?_⟩
    repeat walk_at "rd"
    refine ⟨v, p_METHODS, tn, ws, rfl, k, tM H, ?_⟩
    repeat walk_at "rd"
    refine Rd.bool (fun c => ?_) (fun c => ?_)
    · have c' : isIn v ws = false := by simpa using c
      refine Ex.mk ?_
      repeat walk_at "rd"
      exact Ex.made (q2 c')
    · have c' : isIn v ws = true := by simpa using c
      repeat walk_at "rd"
      exact q1 c'
end
end Ab
namespace Ab
open PySem.Spec PyProof.Rows
/-! ### the table of the document -/
def methods : List Str := ["truth", "length", "item", "walk", "back", "has", "like", "unlike", "before", "behind", "hash", "grow", "plus", "call"]
def operations : List Str := ["truth", "size", "each", "turned", "hash", "call", "member", "like", "unlike", "before", "behind", "grow"]
def kinds : List (Str × Str) := [("truth", "flag"), ("length", "count"), ("item", "item"), ("walk", "walker"), ("back", "walker"), ("has", "flag"), ("like", "flag"), ("unlike", "flag"), ("before", "flag"), ("behind", "flag"), ("hash", "count"), ("grow", "any"), ("plus", "any"), ("call", "any")]
def kindOf (s : Str) : Str := (kinds.lookup s).getD Str.empty
def others : List Str := ["has", "like", "unlike", "before", "behind", "grow", "plus"]
def decliners : List Str := ["like", "unlike", "before", "behind", "grow", "plus"]
def ones : List Str := ["truth", "size", "each", "turned", "hash", "call"]
/-- an error out of the class at C, that keeps v -/
def Out (C : Addr) (v : V) (H : Hp) (E : XK) : Prop := ∀ d, H d = none → E (.ref C) (some d) (upd H d (.xd [(("value" : Str), v)]))
section
variable {P : Program} {w : World} {K : PySem.W.Frag} {mg : Str → Option Value} {base : Heap}
abbrev sKind_of : Stmt := top 28
abbrev nKind_of : List Str := ["method"]
theorem scKind_of : FnScope nKind_of ["method"] (defScope sKind_of) := ⟨rfl, rfl, rfl, by decide +kernel, rfl, by decide +kernel, by decide +kernel⟩
def spKind (K : PySem.W.Frag) (C : Addr) : Sp := fun vs H Q E => ∃ (v : V) (tn : String), vs = [v] ∧ Kd K H v tn ∧ (∀ s, v = .str s → s ∈ methods → Q (.str (kindOf s)) H) ∧ (isIn v methods = false → Out C v H E)
theorem isIn_str {v : V} {ws : List Str} (h : isIn v ws = true) : ∃ s, v = .str s ∧ s ∈ ws := by
  cases v <;> first | (rename_i s; exact ⟨s, rfl, of_decide_eq_true h⟩) | cases h
theorem ok_kind_of (T : Txt K mg) {C p_KINDS : Addr} (g_KINDS : mg "KINDS" = some (.ref p_KINDS)) (tK : ∀ s ∈ methods, KDct K w p_KINDS s (.str (kindOf s)))
    (D : DefAt K mg "kind_of" sKind_of ["method"]) (CCheck_method : Ex.CalX P w K mg base 3 "check_method" (spCheck K C methods)) : Ex.CalX P w K mg base 4 "kind_of" (spKind K C) := by
  refine Ex.byX D scKind_of (fun vs H Q E h => ?_) (fun f cd A hg outer s H vs Q E hr h => ?_)
  · obtain ⟨v, tn, rfl, _⟩ := h
    rfl
  · obtain ⟨v, tn, rfl, k, q1, q2⟩ := h
    refine ⟨_, (pss_cons (ps_expr (Ex.pe_x CCheck_method hg hr (by decide) (takes_of rfl rfl rfl rfl) (pa_cons (pv 0) pa_nil)))
  (pss_one (ps_ret (pe_ix (r := rIxD K w) ix_kdict (pe_glob (v := .ref p_KINDS) (by rfl) g_KINDS rfl) (pv 0) (fun _ _ => rfl))))), ?_⟩
    repeat walk_at "rd"
    refine ⟨v, tn, rfl, k, fun c => ?_, q2⟩
    obtain ⟨s, rfl, hs⟩ := isIn_str c
    repeat walk_at "rd"
    exact ⟨p_KINDS, s, _, rfl, rfl, tK s hs, q1 s rfl hs⟩
def spIn (K : PySem.W.Frag) (C : Addr) (ms ws : List Str) : Sp := fun vs H Q E => ∃ (v : V) (tn : String), vs = [v] ∧ Kd K H v tn ∧ (∀ s, v = .str s → s ∈ ms → Q (.bl (decide (s ∈ ws))) H) ∧ (isIn v ms = false → Out C v H E)
abbrev sTakes_other : Stmt := top 29
abbrev nTakes_other : List Str := ["method"]
theorem scTakes_other : FnScope nTakes_other ["method"] (defScope sTakes_other) := ⟨rfl, rfl, rfl, by decide +kernel, rfl, by decide +kernel, by decide +kernel⟩
theorem ok_takes_other (T : Txt K mg) {C p_OTHER_TAKERS : Addr} {ws : List Str} (g_OTHER_TAKERS : mg "OTHER_TAKERS" = some (.ref p_OTHER_TAKERS)) (tO : ∀ H, SqT K H p_OTHER_TAKERS (ws.map V.str))
    (D : DefAt K mg "takes_other" sTakes_other ["method"]) (CCheck_method : Ex.CalX P w K mg base 3 "check_method" (spCheck K C methods)) : Ex.CalX P w K mg base 4 "takes_other" (spIn K C methods ws) := by
  refine Ex.byX D scTakes_other (fun vs H Q E h => ?_) (fun f cd A hg outer s H vs Q E hr h => ?_)
  · obtain ⟨v, tn, rfl, _⟩ := h
    rfl
  · obtain ⟨v, tn, rfl, k, q1, q2⟩ := h
    refine ⟨_, (pss_cons (ps_expr (Ex.pe_x CCheck_method hg hr (by decide) (takes_of rfl rfl rfl rfl) (pa_cons (pv 0) pa_nil)))
  (pss_one (ps_ret (pe_cmpR (r := rIn K false) op_in_seq (pv 0) (pe_glob (v := .ref p_OTHER_TAKERS) (by rfl) g_OTHER_TAKERS rfl) (by rfl))))), ?_⟩
    repeat walk_at "rd"
    refine ⟨v, tn, rfl, k, fun c => ?_, q2⟩
    obtain ⟨s, rfl, hs⟩ := isIn_str c
    repeat walk_at "rd"
    refine inT (tO H) rfl (flat_strs _) ?_
    have e : (if (false : Bool) = true then !inV (.str s) (ws.map V.str) else inV (.str s) (ws.map V.str)) = decide (s ∈ ws) := by rw [inV_str]; rfl
    rw [e]
    exact q1 s rfl hs
abbrev sMay_decline : Stmt := top 30
abbrev nMay_decline : List Str := ["method"]
theorem scMay_decline : FnScope nMay_decline ["method"] (defScope sMay_decline) := ⟨rfl, rfl, rfl, by decide +kernel, rfl, by decide +kernel, by decide +kernel⟩
theorem ok_may_decline (T : Txt K mg) {C p_DECLINERS : Addr} {ws : List Str} (g_DECLINERS : mg "DECLINERS" = some (.ref p_DECLINERS)) (tO : ∀ H, SqT K H p_DECLINERS (ws.map V.str))
    (D : DefAt K mg "may_decline" sMay_decline ["method"]) (CCheck_method : Ex.CalX P w K mg base 3 "check_method" (spCheck K C methods)) : Ex.CalX P w K mg base 4 "may_decline" (spIn K C methods ws) := by
  refine Ex.byX D scMay_decline (fun vs H Q E h => ?_) (fun f cd A hg outer s H vs Q E hr h => ?_)
  · obtain ⟨v, tn, rfl, _⟩ := h
    rfl
  · obtain ⟨v, tn, rfl, k, q1, q2⟩ := h
    refine ⟨_, (pss_cons (ps_expr (Ex.pe_x CCheck_method hg hr (by decide) (takes_of rfl rfl rfl rfl) (pa_cons (pv 0) pa_nil)))
  (pss_one (ps_ret (pe_cmpR (r := rIn K false) op_in_seq (pv 0) (pe_glob (v := .ref p_DECLINERS) (by rfl) g_DECLINERS rfl) (by rfl))))), ?_⟩
    repeat walk_at "rd"
    refine ⟨v, tn, rfl, k, fun c => ?_, q2⟩
    obtain ⟨s, rfl, hs⟩ := isIn_str c
    repeat walk_at "rd"
    refine inT (tO H) rfl (flat_strs _) ?_
    have e : (if (false : Bool) = true then !inV (.str s) (ws.map V.str) else inV (.str s) (ws.map V.str)) = decide (s ∈ ws) := by rw [inV_str]; rfl
    rw [e]
    exact q1 s rfl hs
end
end Ab
namespace Ab
open PySem.Spec PyProof.Rows
section
variable {K : PySem.W.Frag} {H : Hp}
theorem kd_str (z : Str) : Kd K H (.str z) "str" := ⟨.base (.str z), (by show kitB "str" "str" = some true; decide +kernel), (by show kitB "str" "int" = some false; decide +kernel), (by show kitB "str" "bool" = some false; decide +kernel)⟩
theorem kd_int (i : Int) : Kd K H (.int i) "int" := ⟨.base (.int i), rfl, rfl, rfl⟩
theorem kd_bl (b : Bool) : Kd K H (.bl b) "bool" := ⟨.base (.bl b), rfl, rfl, rfl⟩
theorem kd_non : Kd K H .non "NoneType" := ⟨.base .non, rfl, rfl, rfl⟩
theorem kd_tup {p : Addr} {xs : List V} (h : SqT K H p xs) : Kd K H (.ref p) "tuple" := ⟨tup_ty h, rfl, rfl, rfl⟩
theorem lst_ty {p : Addr} {xs : List V} (h : SqL K H p xs) : TyX K H (.ref p) (.type "list") := by
  rcases h with (h | ⟨o, h⟩) | ⟨o, its, n, h, c, _⟩
  · exact .base (.lst h)
  · exact .base (.frz h)
  · exact .kList h c
theorem kd_lst {p : Addr} {xs : List V} (h : SqL K H p xs) : Kd K H (.ref p) "list" := ⟨lst_ty h, rfl, rfl, rfl⟩
theorem dp_kd {v : V} {d : PyData} (h : Dp K H v d) : ∃ tn, Kd K H v tn := by
  cases h with
  | non => exact ⟨_, kd_non⟩
  | bl b => exact ⟨_, kd_bl b⟩
  | int i => exact ⟨_, kd_int i⟩
  | str z => exact ⟨_, kd_str z⟩
  | lst a b => exact ⟨_, kd_lst a⟩
  | tup a b => exact ⟨_, kd_tup a⟩
end
theorem tyX_mono {K : PySem.W.Frag} {H H' : Hp} {v : V} {t : Value} (s : Same H H') (h : TyX K H v t) : TyX K H' v t := by
  cases h with
  | base b =>
    refine .base ?_
    cases b with
    | non => exact .non
    | bl x => exact .bl x
    | int x => exact .int x
    | str x => exact .str x
    | flt x => exact .flt x
    | lst e => exact .lst (s _ _ e)
    | frz e => exact .frz (s _ _ e)
    | tup e => exact .tup (s _ _ e)
    | dK e => exact .dK (s _ _ e)
    | dT e => exact .dT (s _ _ e)
    | ins e a b c d f => exact .ins (s _ _ e) a b c d f
  | byt b => exact .byt b
  | set e => exact .set (s _ _ e)
  | kList e c => exact .kList e c
  | kTuple e c => exact .kTuple e c
  | kDict e c => exact .kDict e c
  | fTuple e => exact .fTuple (s _ _ e)
  | fDict e => exact .fDict (s _ _ e)
theorem Kd.mono {K : PySem.W.Frag} {H H' : Hp} {v : V} {tn : String} (s : Same H H') (k : Kd K H v tn) : Kd K H' v tn := ⟨tyX_mono s k.ty, k.s, k.i, k.b⟩
def rolesOf (m : Str) : List Str := if m ∈ others then ["self", "other"] else ["self"]
def answerW : List Str := ["yes", "no", "raise"]
def askOne : List Str := ["truth", "size", "hash"]
def askTwo : List Str := ["member", "like", "unlike", "before", "behind"]
def bodyKinds : List Str := ["flag", "count"]
def partW : List Str := ["not", "if"]
def aloneD (m z : Str) (t : Bool) : Bool := if z = "further" then t else if z = "decline" then t && decide (m ∈ decliners) else decide (z ∈ answerW)
def roleD (m : Str) : PyData → Bool
  | .str z => decide (z ∈ rolesOf m)
  | _ => false
def inD (ws : List Str) : PyData → Bool
  | .str z => decide (z ∈ ws)
  | _ => false
def cntD : PyData → Bool
  | .int i => decide (0 ≤ i) && decide (i ≤ 4)
  | _ => false
def askD (m : Str) : List PyData → Bool
  | [o, r] => inD askOne o && roleD m r
  | [o, r, q] => inD askTwo o && roleD m r && roleD m q && !(PyData.eqv r q)
  | _ => false
def cntL : List PyData → Bool
  | [c] => cntD c
  | _ => false
/-- a node by itself: its word w, what is behind it -/
def wordD (m w : Str) (ds : List PyData) (t : Bool) : Bool :=
  if w = "not" then ds.length == 1 else if w = "if" then ds.length == 3
  else if w = "count" then cntL ds
  else if w = "ask" then askD m ds else ds.isEmpty && aloneD m w t
def nodeD (m : Str) (t : Bool) : PyData → Bool
  | .tuple (.str w :: ds) => wordD m w ds t
  | _ => false
def kidsD : PyData → List PyData
  | .tuple (.str w :: ds) => if w ∈ partW then ds else []
  | _ => []
def tailsW (w : Str) (t : Bool) : List Bool := if w = "if" then [false, t, t] else if w = "not" then [false] else []
def tailsD (t : Bool) : PyData → List Bool
  | .tuple (.str w :: _) => tailsW w t
  | _ => []
/-- a node that waits: its depth, and whether it is at a tail -/
abbrev Wt := PyData × Nat × Bool
def kidsZ (z : Wt) : List Wt := ((kidsD z.1).zip (tailsD z.2.2 z.1)).map fun p => (p.1, z.2.1 + 1, p.2)
/-- the first wrong node, k numbers are left -/
def goW (m : Str) : Nat → List Wt → Option Nat
  | _, [] => none
  | 0, _ :: _ => some 16
  | k + 1, z :: st => if z.2.1 ≤ 6 ∧ nodeD m z.2.2 z.1 = true then goW m k (kidsZ z ++ st) else some (16 - (k + 1))
mutual
/-- the things that the law makes -/
def okU : PyData → Bool
  | .none => true
  | .bool _ => true
  | .int i => decide (0 ≤ i) && decide (i ≤ 5)
  | .str z => PyData.strOk z
  | .list xs => okUA xs
  | .tuple xs => okUA xs
  | .dict _ => false
def okUA : List PyData → Bool
  | [] => true
  | x :: xs => okU x && okUA xs
end
theorem okUA_iff : ∀ {xs : List PyData}, okUA xs = true ↔ ∀ x ∈ xs, okU x = true
  | [] => by simp [okUA]
  | x :: xs => by
    rw [okUA, Bool.and_eq_true, okUA_iff (xs := xs)]
    simp
theorem dpT {K : PySem.W.Frag} {H : Hp} {v : V} {ds : List PyData} (h : Dp K H v (.tuple ds)) : ∃ p xs, v = .ref p ∧ SqT K H p xs ∧ DpAll K H xs ds := by
  cases h with
  | tup a b => exact ⟨_, _, rfl, a, b⟩
theorem dpS {K : PySem.W.Frag} {H : Hp} {v : V} {z : Str} (h : Dp K H v (.str z)) : v = .str z := by cases h; rfl
theorem dpI {K : PySem.W.Frag} {H : Hp} {v : V} {i : Int} (h : Dp K H v (.int i)) : v = .int i := by cases h; rfl
theorem dpC {K : PySem.W.Frag} {H : Hp} {xs : List V} {d : PyData} {ds : List PyData} (h : DpAll K H xs (d :: ds)) : ∃ x r, xs = x :: r ∧ Dp K H x d ∧ DpAll K H r ds := by
  cases h with
  | cons a b => exact ⟨_, _, rfl, a, b⟩
theorem dpN {K : PySem.W.Frag} {H : Hp} {xs : List V} (h : DpAll K H xs []) : xs = [] := by cases h; rfl
theorem dpa_len {K : PySem.W.Frag} {H : Hp} : ∀ {xs : List V} {ds : List PyData}, DpAll K H xs ds → xs.length = ds.length
  | _, _, .nil => rfl
  | _, _, .cons _ b => by rw [List.length_cons, List.length_cons, dpa_len b]
mutual
theorem dp_mono {K : PySem.W.Frag} {H H' : Hp} (s : Same H H') : ∀ {v : V} {d : PyData}, Dp K H v d → Dp K H' v d
  | _, _, .non => .non
  | _, _, .bl b => .bl b
  | _, _, .int i => .int i
  | _, _, .str x => .str x
  | _, _, .lst a b => .lst (s.seq a) (dpa_mono s b)
  | _, _, .tup a b => .tup (sqT_same s a) (dpa_mono s b)
theorem dpa_mono {K : PySem.W.Frag} {H H' : Hp} (s : Same H H') : ∀ {vs : List V} {ds : List PyData}, DpAll K H vs ds → DpAll K H' vs ds
  | _, _, .nil => .nil
  | _, _, .cons a b => .cons (dp_mono s a) (dpa_mono s b)
end
theorem dp_isIn {K : PySem.W.Frag} {H : Hp} {v : V} {d : PyData} (ws : List Str) (h : Dp K H v d) : isIn v ws = inD ws d := by cases h <;> rfl
theorem dp_isStr {K : PySem.W.Frag} {H : Hp} {v : V} {d : PyData} (h : Dp K H v d) : isStr v = (match d with | .str _ => true | _ => false) := by cases h <;> rfl
theorem role_inD (m : Str) (d : PyData) : inD (rolesOf m) d = roleD m d := by cases d <;> rfl
def isCnt (v : V) : Bool := match v with
  | .int i => decide (0 ≤ i) && decide (i ≤ 4)
  | _ => false
theorem dp_isCnt {K : PySem.W.Frag} {H : Hp} {v : V} {d : PyData} (h : Dp K H v d) : isCnt v = cntD d := by cases h <;> rfl
theorem offI {A B : Prop} (h : B) : if false = true then A else B := by
  rw [if_neg Bool.false_ne_true]
  exact h
theorem cut_tail {x : V} {r : List V} : cutV (x :: r) (some 1) none = r := by
  unfold cutV
  have e1 : HT.sIx (x :: r).length 0 (some 1) = 1 := by simp [HT.sIx]
  have e2 : HT.sIx (x :: r).length (x :: r).length none = r.length + 1 := by simp [HT.sIx]
  rw [e1, e2]
  simp
theorem cutG {K : PySem.W.Frag} {a : Addr} {xs : List V} {lo hi : Option Int} {H : Hp} {Q : VK} (h : SqT K H a xs) (k : ∀ t H', Same H H' → SqT K H' t (cutV xs lo hi) → Q (.ref t) H') : rSlA K (.ref a) lo hi H Q := by
  refine ⟨a, xs, rfl, h, fun c => k a H (Same.refl _) ?_, fun _ p hp => k p _ (Rd.sNew hp) (.inl (.inl upd_same))⟩
  have e : cutV xs lo hi = xs := by
    unfold cutV
    rw [c.1, c.2]
    simp
  rw [e]
  exact h
abbrev rInKd (K : PySem.W.Frag) (p : Addr) : R2 := fun x y H Q => ∃ (z : Str) (r : Option Value), x = .str z ∧ y = .ref p ∧ PySem.W.nsIn K p z = some r ∧ Q (.bl r.isSome) H
theorem op_inKd {X : Cx} {p : Addr} {es : Array DictEntry} {n : Nat} (D : KDict X.K X.w p es n) : OpR X (compareOp .In) (rInKd X.K p) := op_in_kd D
/-- PARTS -/
structure PartsA (K : PySem.W.Frag) (w : World) (mg : Str → Option Value) (p : Addr) : Prop where
  g : mg "PARTS" = some (.ref p)
  D : ∃ es n, KDict K w p es n
  h : ∀ z : Str, PyData.strOk z = true → ∃ r, PySem.W.nsIn K p z = some r ∧ r.isSome = decide (z ∈ partW)
  n1 : KDct K w p "not" (.int 1)
  n3 : KDct K w p "if" (.int 3)
theorem starR {K : PySem.W.Frag} {n i : Nat} {t : TGs} {a : Addr} {xs : List V} {σ : L2.St} {H : Hp} {Q : L2.St → Hp → Prop} (h : SqT K H a xs) (h1 : i < n) (h2 : n ≤ xs.length + 1) (h3 : xs.length ≤ 10000)
    (k : ∀ D, H D = none → t (xs.take i ++ [.ref D] ++ (xs.drop i).drop (xs.length + 1 - n)) σ (upd H D (.lst ((xs.drop i).take (xs.length + 1 - n)))) Q) : Sr.gStar K n i t (.ref a) σ H Q := ⟨a, xs, rfl, h, h1, h2, h3, k⟩
theorem chainR {r1 r2 : R2} {ta tb tc : TE} {σ : L2.St} {H : Hp} {Q : VK} (k : tChain r1 r2 ta tb tc σ H Q) : tChain r1 r2 ta tb tc σ H Q := k
theorem str_sh {z : Str} (h : PyData.strOk z = true) : SeqAt.shaped (.str z) = true := by
  show (PyData.canLay0 (.str z) && decide (PyData.depth (.str z) ≤ 64)) = true
  rw [show PyData.canLay0 (.str z) = true from by simpa [PyData.canLay0] using h]
  simp [PyData.depth]
theorem eqv_str (a b : Str) : PyData.eqv (.str a) (.str b) = decide (a = b) := by
  simp only [PyData.eqv]
  by_cases e : a = b
  · subst e; simp
  · simp [e]
section
variable {P : Program} {w : World} {K : PySem.W.Frag} {mg : Str → Option Value} {base : Heap}
abbrev sIs_count : Stmt := top 31
abbrev nIs_count : List Str := ["value"]
theorem scIs_count : FnScope nIs_count ["value"] (defScope sIs_count) := ⟨rfl, rfl, rfl, by decide +kernel, rfl, by decide +kernel, by decide +kernel⟩
def spCnt (K : PySem.W.Frag) : Sp := fun vs H Q _ => ∃ (v : V) (tn : String), vs = [v] ∧ Kd K H v tn ∧ Q (.bl (isCnt v)) H
theorem ok_count (T : Txt K mg) {t4 : Tok} (g_MOST_COUNT : mg "MOST_COUNT" = some (.int 4 t4)) (D : DefAt K mg "is_count" sIs_count ["value"]) (CIs_number : CalG P w K mg base 1 "is_number" (spNum K)) : CalG P w K mg base 2 "is_count" (spCnt K) := by
  refine D.by scIs_count (fun vs H Q E h => ?_) (fun f cd A hg outer s H vs Q E hr h => ?_)
  · obtain ⟨v, tn, rfl, _⟩ := h
    rfl
  · obtain ⟨v, tn, rfl, kd, q⟩ := h
    refine ⟨_, (pss_one (ps_ret (pe_and (pe_cG CIs_number hg hr (by decide) (pa_cons (pv 0) pa_nil)) (pe_one (pe_chain op_le op_le pe_int (pv 0) (pe_glob (v := .int 4) (by rfl) g_MOST_COUNT ⟨_, rfl⟩)))))), ?_⟩
    repeat walk_at "rd"
    refine ⟨v, tn, rfl, kd, ?_⟩
    repeat walk_at "rd"
    refine Rd.bool (fun c => ?_) (fun c => ?_)
    · obtain ⟨i, rfl⟩ : ∃ i, v = .int i := by cases v <;> first | exact ⟨_, rfl⟩ | cases c
      have q : Q (.bl (decide (0 ≤ i) && decide (i ≤ 4))) H := q
      unfold tChain
      repeat walk_at "rd"
      refine Rd.bool (fun c => ?_) (fun c => ?_)
      · rw [c, Bool.true_and] at q
        repeat walk_at "rd"
        exact q
      · rw [c, Bool.false_and] at q
        exact q
    · have e : isCnt v = false := by cases v <;> first | rfl | cases c
      rw [e] at q
      exact q
abbrev sIs_role : Stmt := top 41
abbrev nIs_role : List Str := ["method", "value", "roles"]
theorem scIs_role : FnScope nIs_role ["method", "value"] (defScope sIs_role) := ⟨rfl, rfl, rfl, by decide +kernel, rfl, by decide +kernel, by decide +kernel⟩
def spRole (K : PySem.W.Frag) : Sp := fun vs H Q _ => ∃ (m : Str) (v : V) (tn : String), vs = [.str m, v] ∧ m ∈ methods ∧ Kd K H v tn ∧ ∀ H', Same H H' → Q (.bl (isIn v (rolesOf m))) H'
theorem ok_role (T : Txt K mg) {C : Addr} (D : DefAt K mg "_is_role" sIs_role ["method", "value"]) (CTakes_other : Ex.CalX P w K mg base 4 "takes_other" (spIn K C methods others)) (CIs_one_of : CalG P w K mg base 1 "is_one_of" (spOneOf K)) : CalG P w K mg base 5 "_is_role" (spRole K) := by
  refine D.by scIs_role (fun vs H Q E h => ?_) (fun f cd A hg outer s H vs Q E hr h => ?_)
  · obtain ⟨_, _, _, rfl, _⟩ := h
    rfl
  · obtain ⟨m, v, tn, rfl, hm, kd, q⟩ := h
    refine ⟨_, (pss_cons (ps_set (i := 2) scIs_role.nd rfl (Or.inl rfl) (pe_ifExp (pt_val (Ex.pe_x0 CTakes_other hg hr (by decide) (pa_cons (pv 0) pa_nil))) (pe_tup (pa_cons pe_str (pa_cons pe_str pa_nil))) (pe_tup (pa_cons pe_str pa_nil))))
  (pss_one (ps_ret (pe_cG CIs_one_of hg hr (by decide) (pa_cons (pv 1) (pa_cons (pv 2) pa_nil)))))), ?_⟩
    repeat walk_at "rd"
    refine ⟨_, _, rfl, kd_str m, fun z ez _ => ?_, fun c => ?_⟩
    · cases ez
      have fin : ∀ (ws : List Str) (p : Addr), ws = rolesOf m → H p = none → spOneOf K [v, .ref p] (upd H p (.tup (ws.map V.str))) Q E0 := fun ws p e hp =>
        ⟨v, p, tn, ws, rfl, kd.mono (Rd.sNew hp), .inl (.inl upd_same), by rw [e]; exact q _ (Rd.sNew hp)⟩
      repeat walk_at "rd"
      refine Rd.dec (fun c => ?_) (fun c => ?_)
      · repeat walk_at "rd"
        refine ⟨Rd.sz (by simp), fun p hp => ?_⟩
        repeat walk_at "rd"
        exact fin ["self", "other"] p (by rw [rolesOf, if_pos c]) hp
      · repeat walk_at "rd"
        refine ⟨Rd.sz (by simp), fun p hp => ?_⟩
        repeat walk_at "rd"
        exact fin ["self"] p (by rw [rolesOf, if_neg c]) hp
    · rw [show isIn (.str m) methods = true from decide_eq_true hm] at c; cases c
abbrev sIs_word_alone : Stmt := top 43
abbrev nIs_word_alone : List Str := ["method", "word", "tail"]
theorem scIs_word_alone : FnScope nIs_word_alone ["method", "word", "tail"] (defScope sIs_word_alone) := ⟨rfl, rfl, rfl, by decide +kernel, rfl, by decide +kernel, by decide +kernel⟩
def spAlone : Sp := fun vs H Q _ => ∃ (m z : Str) (tail : Bool), vs = [.str m, .str z, .bl tail] ∧ m ∈ methods ∧ Q (.bl (aloneD m z tail)) H
theorem ok_alone (T : Txt K mg) {C p_ANSWER_WORDS : Addr} (g_ANSWER_WORDS : mg "ANSWER_WORDS" = some (.ref p_ANSWER_WORDS)) (tA : ∀ H, SqT K H p_ANSWER_WORDS (answerW.map V.str)) (D : DefAt K mg "_is_word_alone" sIs_word_alone ["method", "word", "tail"]) (CMay_decline : Ex.CalX P w K mg base 4 "may_decline" (spIn K C methods decliners)) :
    CalG P w K mg base 5 "_is_word_alone" spAlone := by
  refine D.by scIs_word_alone (fun vs H Q E h => ?_) (fun f cd A hg outer s H vs Q E hr h => ?_)
  · obtain ⟨_, _, _, rfl, _⟩ := h
    rfl
  · obtain ⟨m, z, tail, rfl, hm, q⟩ := h
    refine ⟨_, (pss_cons (ps_if (pt_cmpR op_eq (pv 1) pe_str (nomark _))
  (pss_one (ps_ret (pv 2)))
  pss_nil)
  (pss_cons (ps_if (pt_cmpR op_eq (pv 1) pe_str (nomark _))
  (pss_one (ps_ret (pe_and (pv 2) (pe_one (Ex.pe_x0 CMay_decline hg hr (by decide) (pa_cons (pv 0) pa_nil))))))
  pss_nil)
  (pss_one (ps_ret (pe_cmpR (r := rIn K false) op_in_seq (pv 1) (pe_glob (v := .ref p_ANSWER_WORDS) (by rfl) g_ANSWER_WORDS rfl) (by rfl)))))), ?_⟩
    have q : Q (.bl (if z = "further" then tail else if z = "decline" then tail && decide (m ∈ decliners) else decide (z ∈ answerW))) H := q
    repeat walk_at "rd"
    refine Rd.dec (fun c => ?_) (fun c => ?_)
    · repeat walk_at "rd"
      rw [if_pos (V.str.inj c)] at q
      exact q
    · rw [if_neg (fun e => c (by rw [e]))] at q
      repeat walk_at "rd"
      refine Rd.dec (fun c => ?_) (fun c => ?_)
      · rw [if_pos (V.str.inj c)] at q
        repeat walk_at "rd"
        refine Rd.bool (fun c => ?_) (fun c => ?_)
        · rw [c, Bool.true_and] at q
          repeat walk_at "rd"
          refine ⟨_, _, rfl, kd_str m, fun z ez _ => ?_, fun c => ?_⟩
          · cases ez
            exact q
          · rw [show isIn (.str m) methods = true from decide_eq_true hm] at c; cases c
        · rw [c, Bool.false_and] at q
          exact q
      · rw [if_neg (fun e => c (by rw [e]))] at q
        repeat walk_at "rd"
        refine inT (tA H) rfl (flat_strs _) ?_
        rw [if_neg Bool.false_ne_true, inV_str]
        exact q
end
end Ab
namespace Ab
open PySem.Spec PyProof.Rows
local macro_rules | `(tactic| walk_at "rd") => `(tactic| (with_reducible first | refine Rd.tt_ ?_ | refine Rd.ff_ ?_))
theorem data_prd {K : PySem.W.Frag} {H : Hp} : ∀ {ds : List PyData} {xs : List V}, DpAll K H xs ds → Paired (fun d x => Dp K H x d) ds xs
  | [], _, h => by rw [dpN h]; exact .nil
  | d :: ds, _, h => by
    obtain ⟨x, l, rfl, h1, h2⟩ := dpC h
    exact .cons h1 (data_prd h2)
section
variable {P : Program} {w : World} {K : PySem.W.Frag} {mg : Str → Option Value} {base : Heap}
abbrev sParts : Stmt := top 45
abbrev nParts : List Str := ["node"]
theorem scParts : FnScope nParts ["node"] (defScope sParts) := ⟨rfl, rfl, rfl, by decide +kernel, rfl, by decide +kernel, by decide +kernel⟩
def spParts (K : PySem.W.Frag) : Sp := fun vs H Q _ => ∃ (p : Addr) (z : Str) (xs : List V), vs = [.ref p] ∧ SqT K H p (.str z :: xs) ∧ PyData.strOk z = true ∧ ∀ t H', Same H H' → SqT K H' t (if z ∈ partW then xs else []) → Q (.ref t) H'
theorem ok_parts (T : Txt K mg) {p_PARTS : Addr} (pt : PartsA K w mg p_PARTS) (D : DefAt K mg "_parts" sParts ["node"]) : CalG P w K mg base 1 "_parts" (spParts K) := by
  have g_PARTS := pt.g
  obtain ⟨es, n, D_PARTS⟩ := pt.D
  refine D.by scParts (fun vs H Q E h => ?_) (fun f cd A hg outer s H vs Q E hr h => ?_)
  · obtain ⟨_, _, _, rfl, _⟩ := h
    rfl
  · obtain ⟨p, z, xs, rfl, hs, hz, q⟩ := h
    obtain ⟨r, hr1, hr2⟩ := pt.h _ hz
    refine ⟨_, (pss_one (ps_ret (pe_ifExp (pt_cmpR (r := rInKd K p_PARTS) (op_inKd D_PARTS) (pe_ix (r := rIxT K) ix_tup (pv 0) pe_int (fun _ _ => rfl)) (pe_glob (v := .ref p_PARTS) (by rfl) g_PARTS rfl) (by rfl)) (pe_slice (r := rSlA K) sl_tupA (pv 0) (po_some pe_int) po_none) (pe_tup pa_nil)))), ?_⟩
    repeat walk_at "rd"
    refine Rd.ixT hs (Rd.atN (by decide) rfl) ?_
    refine ⟨z, r, rfl, rfl, hr1, ?_⟩
    rw [hr2]
    refine ⟨_, rfl, ?_⟩
    refine Rd.dec (fun c => ?_) (fun c => ?_)
    · rw [if_pos c] at q
      repeat walk_at "rd"
      refine cutG hs fun t H' s' ht => ?_
      rw [cut_tail] at ht
      exact q t H' s' ht
    · rw [if_neg c] at q
      repeat walk_at "rd"
      refine ⟨Rd.sz (by simp), fun t ht => ?_⟩
      exact q t _ (Rd.sNew ht) (.inl (.inl upd_same))
abbrev sTails : Stmt := top 46
abbrev nTails : List Str := ["node", "tail"]
theorem scTails : FnScope nTails ["node", "tail"] (defScope sTails) := ⟨rfl, rfl, rfl, by decide +kernel, rfl, by decide +kernel, by decide +kernel⟩
def spTails (K : PySem.W.Frag) : Sp := fun vs H Q _ => ∃ (p : Addr) (z : Str) (xs : List V) (tail : Bool), vs = [.ref p, .bl tail] ∧ SqT K H p (.str z :: xs) ∧ PyData.strOk z = true ∧ (z = "not" → xs.length = 1) ∧ ∀ t H', Same H H' → SqT K H' t ((tailsW z tail).map V.bl) → Q (.ref t) H'
theorem ok_tails (T : Txt K mg) (D : DefAt K mg "_tails" sTails ["node", "tail"]) (CParts : CalG P w K mg base 1 "_parts" (spParts K)) : CalG P w K mg base 2 "_tails" (spTails K) := by
  refine D.by scTails (fun vs H Q E h => ?_) (fun f cd A hg outer s H vs Q E hr h => ?_)
  · obtain ⟨_, _, _, _, rfl, _⟩ := h
    rfl
  · obtain ⟨p, z, xs, tail, rfl, hs, hz, hn, q⟩ := h
    refine ⟨_, (pss_cons (ps_if (pt_cmpR (r := rEqD K) (op_eqD hr.units) (pe_ix (r := rIxT K) ix_tup (pv 0) pe_int (fun _ _ => rfl)) pe_str (nomark _))
  (pss_one (ps_ret (pe_tup (pa_cons pe_bl (pa_cons (pv 1) (pa_cons (pv 1) pa_nil))))))
  pss_nil)
  (pss_one (ps_ret (pe_op (r := Rt.rMul1 K) Rt.op_mul1 (pe_tup (pa_cons pe_bl pa_nil)) (pe_callB (r := Rd.rLenK K) Rd.callLen (by rfl) T.len PySem.boot_len (pa_cons (pe_cG CParts hg hr (by decide) (pa_cons (pv 0) pa_nil)) pa_nil)))))), ?_⟩
    repeat walk_at "rd"
    refine Rd.ixT hs (Rd.atN (by decide) rfl) ?_
    repeat walk_at "rd"
    refine Rd.eqD (d := .str z) (e := .str "if") (.str _) (.str _) (str_sh hz) (by decide +kernel) ?_
    rw [eqv_str]
    refine ⟨_, rfl, ?_⟩
    refine Rd.dec (fun c => ?_) (fun c => ?_)
    · rw [tailsW, if_pos c] at q
      repeat walk_at "rd"
      refine ⟨Rd.sz (by simp), fun t ht => ?_⟩
      exact q t _ (Rd.sNew ht) (.inl (.inl upd_same))
    · rw [tailsW, if_neg c] at q
      repeat walk_at "rd"
      refine ⟨Rd.sz (by simp), fun t ht => ?_⟩
      have s1 := Rd.sNew (o := .tup [.bl false]) ht
      have t1 : SqT K (upd H t (.tup [.bl false])) t [.bl false] := .inl (.inl upd_same)
      have hs1 := sqT_same s1 hs
      generalize upd H t (.tup [.bl false]) = H1 at s1 t1 hs1 ⊢
      repeat walk_at "rd"
      refine ⟨p, z, xs, rfl, hs1, hz, fun p2 H2 s2 h2 => ?_⟩
      repeat walk_at "rd"
      refine Rd.lenT h2 ?_
      by_cases cn : z = "not"
      · rw [if_pos cn] at q
        have e : ((if z ∈ partW then xs else []).length : Int) = 1 := by rw [cn, if_pos (show ("not" : Str) ∈ partW by decide +kernel), hn cn]; rfl
        rw [e]
        exact ⟨t, [.bl false], rfl, sqT_same s2 t1, by simp, .inl ⟨rfl, q t H2 (s1.trans s2) (sqT_same s2 t1)⟩⟩
      · rw [if_neg cn] at q
        have e : ((if z ∈ partW then xs else []).length : Int) = 0 := by rw [if_neg (show z ∉ partW by simp only [partW, List.mem_cons, List.not_mem_nil, or_false, not_or]; exact ⟨cn, c⟩)]; rfl
        rw [e]
        exact ⟨t, [.bl false], rfl, sqT_same s2 t1, by simp, .inr ⟨rfl, fun p3 hp3 => q p3 _ ((s1.trans s2).trans (Rd.sNew hp3)) (.inl (.inl upd_same))⟩⟩
abbrev sIs_ask : Stmt := top 42
abbrev nIs_ask : List Str := ["method", "node", "operation", "roles", "role"]
theorem scIs_ask : FnScope nIs_ask ["method", "node"] (defScope sIs_ask) := ⟨rfl, rfl, rfl, by decide +kernel, rfl, by decide +kernel, by decide +kernel⟩
def spAsk (K : PySem.W.Frag) : Sp := fun vs H Q _ => ∃ (v : V) (m : Str) (ds : List PyData), vs = [.str m, v] ∧ Dp K H v (.tuple (.str "ask" :: ds)) ∧ okUA ds = true ∧ m ∈ methods ∧ ds.length ≤ 1000 ∧ ∀ H', Same H H' → Q (.bl (askD m ds)) H'
set_option pp.maxSteps 3000 in
theorem ok_ask (T : Txt K mg) {p_ASKED_OF_ONE p_ASKED_OF_TWO : Addr} (g_ASKED_OF_ONE : mg "ASKED_OF_ONE" = some (.ref p_ASKED_OF_ONE)) (t1 : ∀ H, SqT K H p_ASKED_OF_ONE (askOne.map V.str)) (g_ASKED_OF_TWO : mg "ASKED_OF_TWO" = some (.ref p_ASKED_OF_TWO)) (t2 : ∀ H, SqT K H p_ASKED_OF_TWO (askTwo.map V.str))
    (D : DefAt K mg "_is_ask" sIs_ask ["method", "node"]) (CIs_role : CalG P w K mg base 5 "_is_role" (spRole K)) (CIs_one_of : CalG P w K mg base 1 "is_one_of" (spOneOf K)) : CalG P w K mg base 6 "_is_ask" (spAsk K) := by
  refine D.by scIs_ask (fun vs H Q E h => ?_) (fun f cd A hg outer s H vs Q E hr h => ?_)
  · obtain ⟨_, _, _, rfl, _⟩ := h
    rfl
  · obtain ⟨v, m, ds, rfl, dp, ok, hm, hl, q⟩ := h
    obtain ⟨p, xs, rfl, hs, ha⟩ := dpT dp
    obtain ⟨x1, ys, rfl, h1, ha1⟩ := dpC ha
    obtain rfl := dpS h1
    have len := dpa_len ha1
    refine ⟨_, (pss_cons (ps_if (pt_cmpR (r := rIn K true) op_notIn_seq (pe_callB (r := Rd.rLenK K) Rd.callLen (by rfl) T.len PySem.boot_len (pa_cons (pv 1) pa_nil)) (pe_tup (pa_cons pe_int (pa_cons pe_int pa_nil))) (by rfl))
  (pss_one (ps_ret pe_bl))
  pss_nil)
  (pss_cons (ps_asg (pe_slice (r := rSlA K) sl_tupA (pv 1) (po_some pe_int) po_none) (Sr.pg_star (n := 2) (i := 1) (by rfl) (pgs_cons (pg_name (i := 2) scIs_ask.nd rfl (Or.inl rfl)) (pgs_cons (pg_name (i := 3) scIs_ask.nd rfl (Or.inl rfl)) pgs_nil))))
  (pss_cons (ps_if (pt_not (pt_val (pe_callB (r := rAll K) (cr_all rfl) (by rfl) T.all (by decide +kernel) (pa_cons (pe_lc (wi := iList K _) (own := [("role", 4)]) (g := gName 4) (by rfl) scIs_ask.nd (pi_list (pv 3)) (blkOk_by (N := nIs_ask) (sc := defScope sIs_ask) (by decide +kernel)) (fun _ _ _ _ _ => pg_name (i := 4) scIs_ask.nd rfl (Or.inl rfl)) (fun _ _ _ _ _ => pts_nil) (fun _ _ _ _ _ => (pe_cG CIs_role hg hr (by decide) (pa_cons (pv 0) (pa_cons (pv 4) pa_nil))))) pa_nil))))
  (pss_one (ps_ret pe_bl))
  pss_nil)
  (pss_cons (ps_if (pt_cmpR op_eq (pe_callB (r := Rd.rLenK K) Rd.callLen (by rfl) T.len PySem.boot_len (pa_cons (pv 3) pa_nil)) pe_int (nomark _))
  (pss_one (ps_ret (pe_cG CIs_one_of hg hr (by decide) (pa_cons (pv 2) (pa_cons (pe_glob (v := .ref p_ASKED_OF_ONE) (by rfl) g_ASKED_OF_ONE rfl) pa_nil)))))
  pss_nil)
  (pss_one (ps_ret (pe_and (pe_cG CIs_one_of hg hr (by decide) (pa_cons (pv 2) (pa_cons (pe_glob (v := .ref p_ASKED_OF_TWO) (by rfl) g_ASKED_OF_TWO rfl) pa_nil))) (pe_one (pe_cmpR (r := rNeD K) (op_neD hr.units) (pe_ix (r := rIxL K) ix_list (pv 3) pe_int (fun _ _ => rfl)) (pe_ix (r := rIxL K) ix_list (pv 3) pe_int (fun _ _ => rfl)) (nomark _)))))))))), ?_⟩
    repeat walk_at "rd"
    refine Rd.lenT hs ?_
    repeat walk_at "rd"
    refine ⟨Rd.sz (by simp), fun t ht => ?_⟩
    have s1 := Rd.sNew (o := .tup [.int 3, .int 4]) ht
    refine inT (xs := [.int 3, .int 4]) (.inl (.inl upd_same)) rfl rfl ?_
    have ev : (if true = true then !inV (.int (((V.str "ask" :: ys).length : Nat) : Int)) [.int 3, .int 4] else inV (.int (((V.str "ask" :: ys).length : Nat) : Int)) [.int 3, .int 4]) = !decide (ds.length = 2 ∨ ds.length = 3) := by
      rw [if_pos rfl, List.length_cons, len]
      show (!(((3 : Int) == ((ds.length + 1 : Nat) : Int)) || (((4 : Int) == ((ds.length + 1 : Nat) : Int)) || false))) = _
      by_cases a : ds.length = 2
      · rw [a]; rfl
      · by_cases b : ds.length = 3
        · rw [b]; rfl
        · have n1 : ((3 : Int) == ((ds.length + 1 : Nat) : Int)) = false := beq_eq_false_iff_ne.mpr (by omega)
          have n2 : ((4 : Int) == ((ds.length + 1 : Nat) : Int)) = false := beq_eq_false_iff_ne.mpr (by omega)
          rw [n1, n2, decide_eq_false (by omega)]
          rfl
    rw [ev]
    have hs1 := sqT_same s1 hs
    have ha1 := dpa_mono s1 ha1
    generalize upd H t (.tup [.int 3, .int 4]) = H1 at s1 hs1 ha1 ⊢
    refine ⟨_, rfl, ?_⟩
    refine Rd.ndec (fun c => ?_) (fun hk => ?_)
    · have e : askD m ds = false := by
        match ds, c with
        | [], _ => rfl
        | [_], _ => rfl
        | [_, _], c => exact absurd (.inl rfl) c
        | [_, _, _], c => exact absurd (.inr rfl) c
        | _ :: _ :: _ :: _ :: _, _ => rfl
      rw [e] at q
      repeat walk_at "rd"
      exact q _ s1
    repeat walk_at "rd"
    refine cutG hs1 fun t3 H2 s2 ht3 => ?_
    rw [cut_tail] at ht3
    obtain ⟨dO, rs, rfl⟩ : ∃ dO rs, ds = dO :: rs := by
      cases ds with
      | nil => simp at hk
      | cons a l => exact ⟨a, l, rfl⟩
    obtain ⟨o, ys, rfl, ho, har⟩ := dpC (dpa_mono s2 ha1)
    have lenr := dpa_len har
    rw [okUA, Bool.and_eq_true] at ok
    repeat walk_at "rd"
    refine starR ht3 (by decide) (by simp) (by rw [List.length_cons, lenr]; rw [List.length_cons] at hl; omega) fun Dd hD => ?_
    have e1 : (o :: ys).take 1 ++ [.ref Dd] ++ ((o :: ys).drop 1).drop ((o :: ys).length + 1 - 2) = [o, .ref Dd] := by simp
    have e2 : ((o :: ys).drop 1).take ((o :: ys).length + 1 - 2) = ys := by simp
    rw [e1, e2]
    have s3 := Rd.sNew (o := .lst ys) hD
    have hd3 : upd H2 Dd (.lst ys) Dd = some (.lst ys) := upd_same
    have ho := dp_mono s3 ho
    have har := dpa_mono s3 har
    generalize upd H2 Dd (.lst ys) = H3 at s3 hd3 ho har ⊢
    repeat walk_at "rd"
    refine Rd.lcL (K := K) (a := Dd) (xs := ys) (bs := rs) (fun d x H => Dp K H x d) (fun (b : Bool) y _ => y = .bl b) (fun _ => true) (fun d => roleD m d) (fun R k => Rd.var rfl k) (SqL.of hd3) (fun _ _ _ _ s h => dp_mono s h) (fun _ _ _ _ _ h => h) (data_prd har) (by rw [lenr]; rw [List.length_cons] at hl; omega) (fun _ => rfl) ?_ ?_ ?_
    · intro b x H4 R _ _ _ _ k
      repeat walk_at "rd"
      exact k _ (Same.refl _)
    · rintro b x H4 R _ _ _ db s4 k
      obtain ⟨tn, kd⟩ := dp_kd db
      repeat walk_at "rd"
      exact ⟨m, x, tn, rfl, hm, kd, fun H' s' => k _ H' s' (Rd.off_any (by rw [dp_isIn _ db, role_inD]))⟩
    · intro Dx zs H4 hDx s4 hd pr
      have e : zs = (rs.map fun r => roleD m r).map V.bl := by
        rw [List.filter_eq_self.mpr (fun _ _ => rfl)] at pr
        exact Rd.pair_map pr
      rw [e] at hd
      have S := ((s1.trans s2).trans s3).trans s4
      have hd4 := s4 _ _ hd3
      have ho := dp_mono s4 ho
      have har := dpa_mono s4 har
      obtain ⟨tno, kdo⟩ := dp_kd ho
      repeat walk_at "rd"
      refine Rd.all_ (SqL.of hd) ?_
      rw [show (rs.map fun r => roleD m r).all id = rs.all (roleD m) by rw [List.all_map]; rfl]
      refine ⟨_, rfl, ?_⟩
      refine Rd.bool (fun c => ?_) (fun c => ?_)
      · have c : rs.all (roleD m) = false := by simpa using c
        have e : askD m (dO :: rs) = false := by
          match rs, hk, c with
          | [r], _, c => show (inD askOne dO && roleD m r) = false; simp at c; simp [c]
          | [r, z], _, c =>
            show (inD askTwo dO && roleD m r && roleD m z && !(PyData.eqv r z)) = false
            have c : (roleD m r && roleD m z) = false := by simpa using c
            rw [Bool.and_assoc (inD askTwo dO), c]
            simp
          | [], hk, _ => simp at hk
          | _ :: _ :: _ :: _, hk, _ => simp at hk
        rw [e] at q
        repeat walk_at "rd"
        exact q _ S
      · have c : rs.all (roleD m) = true := by simpa using c
        repeat walk_at "rd"
        match rs, hk, c, ys, har, lenr, hd4, ok with
        | [r], _, c, [y], har, _, hd4, ok =>
          refine Rd.dec (fun _ => ?_) (fun z => absurd rfl z)
          have e : askD m [dO, r] = inD askOne dO := by
            show (inD askOne dO && roleD m r) = _
            rw [show roleD m r = true by simpa using c, Bool.and_true]
          rw [e] at q
          repeat walk_at "rd"
          refine ⟨o, p_ASKED_OF_ONE, tno, askOne, rfl, kdo, t1 _, ?_⟩
          rw [dp_isIn _ ho]
          exact q _ S
        | [r, z], _, c, [y, y2], har, _, hd4, ok =>
          obtain ⟨x1, l1, e, hr1, hx⟩ := dpC har
          cases e
          obtain ⟨x2, l2, e, hr2, _⟩ := dpC hx
          cases e
          have c2 : roleD m r = true ∧ roleD m z = true := by simpa using c
          refine Rd.dec (fun e => by cases e) (fun _ => ?_)
          have e : askD m [dO, r, z] = (inD askTwo dO && !(PyData.eqv r z)) := by
            show (inD askTwo dO && roleD m r && roleD m z && !(PyData.eqv r z)) = _
            rw [c2.1, c2.2, Bool.and_true, Bool.and_true]
          rw [e] at q
          repeat walk_at "rd"
          refine ⟨o, p_ASKED_OF_TWO, tno, askTwo, rfl, kdo, t2 _, ?_⟩
          rw [dp_isIn _ ho]
          refine ⟨_, rfl, ?_⟩
          refine Rd.bool (fun c => ?_) (fun c => ?_)
          · rw [c, Bool.true_and] at q
            have ok2 := ok.2
            rw [okUA, okUA, okUA, Bool.and_eq_true, Bool.and_eq_true] at ok2
            have sh : ∀ d, roleD m d = true → okU d = true → SeqAt.shaped d = true := by
              intro d h1 h2
              cases d with
              | str z => exact str_sh h2
              | _ => cases h1
            repeat walk_at "rd"
            refine Rd.neD hr1 hr2 (sh _ c2.1 ok2.1) (sh _ c2.2 ok2.2.1) ?_
            exact q _ S
          · rw [c, Bool.false_and] at q
            exact q _ S
        | [], hk, _, _, _, _, _, _ => simp at hk
        | _ :: _ :: _ :: _, hk, _, _, _, _, _, _ => simp at hk
end
end Ab
namespace Ab
open PySem.Spec PyProof.Rows
local macro_rules | `(tactic| walk_at "rd") => `(tactic| (with_reducible first | refine Rd.tt_ ?_ | refine Rd.ff_ ?_))
mutual
def wid : PyData → Nat
  | .list xs => max xs.length (widA xs)
  | .tuple xs => max xs.length (widA xs)
  | _ => 0
def widA : List PyData → Nat
  | [] => 0
  | x :: xs => max (wid x) (widA xs)
end
theorem widA_mem : ∀ {xs : List PyData} {x : PyData}, x ∈ xs → wid x ≤ widA xs
  | y :: ys, x, h => by
    rw [widA]
    rcases List.mem_cons.mp h with rfl | h
    · omega
    · have := widA_mem h; omega
theorem depA_mem : ∀ {xs : List PyData} {x : PyData}, x ∈ xs → PyData.depth x ≤ PyData.depthAll xs
  | y :: ys, x, h => by
    rw [PyData.depthAll]
    rcases List.mem_cons.mp h with rfl | h
    · omega
    · have := depA_mem h; omega
theorem wtA_mem : ∀ {xs : List PyData} {x : PyData}, x ∈ xs → PyData.weight x ≤ PyData.weightAll xs
  | y :: ys, x, h => by
    rw [PyData.weightAll]
    rcases List.mem_cons.mp h with rfl | h
    · omega
    · have := wtA_mem h; omega
def strD : PyData → Bool
  | .str _ => true
  | _ => false
theorem dp_strD {K : PySem.W.Frag} {H : Hp} {v : V} {d : PyData} (h : Dp K H v d) : isStr v = strD d := by cases h <;> rfl
structure Uni (d : PyData) : Prop where
  ok : okU d = true
  wd : wid d ≤ 100
  dp : PyData.depth d ≤ 500
theorem Uni.mem {ds : List PyData} {d : PyData} (h : Uni (.tuple ds)) (m : d ∈ ds) : Uni d := by
  obtain ⟨a, b, c⟩ := h
  rw [okU, okUA_iff] at a
  rw [wid] at b
  rw [PyData.depth] at c
  have h1 := widA_mem m
  have h2 := depA_mem m
  exact ⟨a d m, by omega, by omega⟩
theorem Uni.len {ds : List PyData} (h : Uni (.tuple ds)) : ds.length ≤ 100 := by
  have := h.wd
  rw [wid] at this
  omega
section
variable {P : Program} {w : World} {K : PySem.W.Frag} {mg : Str → Option Value} {base : Heap}
abbrev sIs_node : Stmt := top 44
abbrev nIs_node : List Str := ["method", "node", "tail", "word"]
theorem scIs_node : FnScope nIs_node ["method", "node", "tail"] (defScope sIs_node) := ⟨rfl, rfl, rfl, by decide +kernel, rfl, by decide +kernel, by decide +kernel⟩
def spNode (K : PySem.W.Frag) : Sp := fun vs H Q _ => ∃ (v : V) (m : Str) (d : PyData) (tail : Bool), vs = [.str m, v, .bl tail] ∧ Dp K H v d ∧ Uni d ∧ m ∈ methods ∧ ∀ H', Same H H' → Q (.bl (nodeD m tail d)) H'
set_option pp.maxSteps 3000 in
theorem ok_node (T : Txt K mg) {p_PARTS : Addr} (pt : PartsA K w mg p_PARTS) (D : DefAt K mg "_is_node" sIs_node ["method", "node", "tail"]) (CIs_count : CalG P w K mg base 2 "is_count" (spCnt K)) (CIs_ask : CalG P w K mg base 6 "_is_ask" (spAsk K)) (CIs_word_alone : CalG P w K mg base 5 "_is_word_alone" spAlone) :
    CalG P w K mg base 7 "_is_node" (spNode K) := by
  have g_PARTS := pt.g
  obtain ⟨es, n, D_PARTS⟩ := pt.D
  refine D.by scIs_node (fun vs H Q E h => ?_) (fun f cd A hg outer s H vs Q E hr h => ?_)
  · obtain ⟨_, _, _, _, rfl, _⟩ := h
    rfl
  · obtain ⟨v, m, d, tail, rfl, dp, uni, hm, q⟩ := h
    refine ⟨_, (pss_cons (ps_if (PW.pt (pw_or (pt_not (pt_val (pe_callB (r := rIsi K) call_isi (by rfl) T.isinstance (by decide +kernel) (pa_cons (pv 1) (pa_cons (pe_bltn (v := .ty "tuple") (by rfl) T.tuple (by decide +kernel) rfl) pa_nil))))) (pw_or (pt_not (Rd.ptTru (K := K) rfl (pt_truth (pv 1) (by intro _; rfl)))) (pw_or1 (pt_not (pt_val (pe_callB (r := rIsi K) call_isi (by rfl) T.isinstance (by decide +kernel) (pa_cons (pe_ix (r := rIxT K) ix_tup (pv 1) pe_int (fun _ _ => rfl)) (pa_cons (pe_bltn (v := .ty "str") (by rfl) T.str (by decide +kernel) rfl) pa_nil)))))))))
  (pss_one (ps_ret pe_bl))
  pss_nil)
  (pss_cons (ps_set (i := 3) scIs_node.nd rfl (Or.inl rfl) (pe_ix (r := rIxT K) ix_tup (pv 1) pe_int (fun _ _ => rfl)))
  (pss_cons (ps_if (pt_cmpR (r := rInKd K p_PARTS) (op_inKd D_PARTS) (pv 3) (pe_glob (v := .ref p_PARTS) (by rfl) g_PARTS rfl) (by rfl))
  (pss_one (ps_ret (pe_cmpR op_eq (pe_callB (r := Rd.rLenK K) Rd.callLen (by rfl) T.len PySem.boot_len (pa_cons (pv 1) pa_nil)) (pe_op op_add pe_int (pe_ix (r := rIxD K w) ix_kdict (pe_glob (v := .ref p_PARTS) (by rfl) g_PARTS rfl) (pv 3) (fun _ _ => rfl))) (nomark _))))
  pss_nil)
  (pss_cons (ps_if (pt_cmpR op_eq (pv 3) pe_str (nomark _))
  (pss_one (ps_ret (pe_and (pe_cmpR op_eq (pe_callB (r := Rd.rLenK K) Rd.callLen (by rfl) T.len PySem.boot_len (pa_cons (pv 1) pa_nil)) pe_int (nomark _)) (pe_one (pe_cG CIs_count hg hr (by decide) (pa_cons (pe_ix (r := rIxT K) ix_tup (pv 1) pe_int (fun _ _ => rfl)) pa_nil))))))
  pss_nil)
  (pss_cons (ps_if (pt_cmpR op_eq (pv 3) pe_str (nomark _))
  (pss_one (ps_ret (pe_cG CIs_ask hg hr (by decide) (pa_cons (pv 0) (pa_cons (pv 1) pa_nil)))))
  pss_nil)
  (pss_one (ps_ret (pe_and (pe_cmpR op_eq (pe_callB (r := Rd.rLenK K) Rd.callLen (by rfl) T.len PySem.boot_len (pa_cons (pv 1) pa_nil)) pe_int (nomark _)) (pe_one (pe_cG CIs_word_alone hg hr (by decide) (pa_cons (pv 0) (pa_cons (pv 3) (pa_cons (pv 2) pa_nil))))))))))))), ?_⟩
    have q0 := q H (Same.refl _)
    repeat walk_at "rd"
    have other : ∀ tn, TyX K H v (.type tn) → kitB tn "tuple" = some false → nodeD m tail d = false → rIsi K [v, .ty "tuple"] H (fun x H' => x = .bl false ∧ H' = H) := fun tn ty kt _ => isi ty kt ⟨rfl, rfl⟩
    clear other
    have bad : nodeD m tail d = false → Q (.bl false) H := fun e => by rw [e] at q0; exact q0
    cases d with
    | none => refine isi (.base (by cases dp; exact .non)) (by show kitB "NoneType" "tuple" = some false; decide +kernel) ?_; repeat walk_at "rd"; exact bad rfl
    | bool b => refine isi (.base (by cases dp; exact .bl b)) (by show kitB "bool" "tuple" = some false; decide +kernel) ?_; repeat walk_at "rd"; exact bad rfl
    | int i => refine isi (.base (by cases dp; exact .int i)) (by show kitB "int" "tuple" = some false; decide +kernel) ?_; repeat walk_at "rd"; exact bad rfl
    | str z => refine isi (.base (by cases dp; exact .str z)) (by show kitB "str" "tuple" = some false; decide +kernel) ?_; repeat walk_at "rd"; exact bad rfl
    | list xs =>
      cases dp with
      | lst a b => refine isi (lst_ty a) (by show kitB "list" "tuple" = some false; decide +kernel) ?_; repeat walk_at "rd"; exact bad rfl
    | dict xs => cases dp
    | tuple ds =>
      obtain ⟨p, xs, rfl, hs, ha⟩ := dpT dp
      have len := dpa_len ha
      refine isi (tup_ty hs) (by show kitB "tuple" "tuple" = some true; decide +kernel) ?_
      refine ⟨_, rfl, ?_⟩
      refine offI ?_
      repeat walk_at "rd"
      refine ⟨!xs.isEmpty, .inr (.inl ⟨_, hs, rfl⟩), ?_⟩
      cases ds with
      | nil =>
        obtain rfl := dpN ha
        refine Rd.tt_ ?_
        repeat walk_at "rd"
        exact bad rfl
      | cons d0 ds =>
        obtain ⟨x0, xs, rfl, h0, hax⟩ := dpC ha
        have lenx := dpa_len hax
        refine Rd.ff_ ?_
        repeat walk_at "rd"
        refine Rd.ixT hs (Rd.atN (by decide) rfl) ?_
        repeat walk_at "rd"
        obtain ⟨tn0, kd0⟩ := dp_kd h0
        refine isi kd0.ty kd0.s ?_
        rw [dp_strD h0]
        by_cases hw : ∃ z, d0 = .str z
        · obtain ⟨z, rfl⟩ := hw
          obtain rfl := dpS h0
          have zU : PyData.strOk z = true := (uni.mem List.mem_cons_self).ok
          obtain ⟨r, hr1, hr2⟩ := pt.h _ zU
          have dsU : ∀ x ∈ ds, Uni x := fun x hx => uni.mem (List.mem_cons_of_mem _ hx)
          have dl := uni.len
          rw [List.length_cons] at dl
          refine ⟨_, rfl, ?_⟩
          refine Rd.ff_ ?_
          repeat walk_at "rd"
          refine Rd.ixT hs (Rd.atN (by decide) rfl) ?_
          repeat walk_at "rd"
          refine ⟨z, r, rfl, rfl, hr1, ?_⟩
          rw [hr2]
          refine ⟨_, rfl, ?_⟩
          have q0 : Q (.bl (wordD m z ds tail)) H := q0
          have q : ∀ H', Same H H' → Q (.bl (wordD m z ds tail)) H' := q
          refine Rd.dec (fun c => ?_) (fun c => ?_)
          · have c : z = "not" ∨ z = "if" := by simpa [partW] using c
            repeat walk_at "rd"
            refine Rd.lenT hs ?_
            repeat walk_at "rd"
            rcases c with rfl | rfl
            · refine ⟨p_PARTS, "not", _, rfl, rfl, pt.n1, ?_⟩
              repeat walk_at "rd"
              have e : decide (V.int (((V.str "not" :: xs).length : Nat) : Int) = V.int (1 + 1)) = wordD m "not" ds tail := by
                show _ = (if ("not" : Str) = "not" then ds.length == 1 else _)
                rw [if_pos rfl, List.length_cons, lenx]
                by_cases e : ds.length = 1
                · rw [e]; rfl
                · rw [decide_eq_false (fun z => e (by have := V.int.inj z; omega))]
                  exact (beq_eq_false_iff_ne.mpr e).symm
              rw [e]
              exact q0
            · refine ⟨p_PARTS, "if", _, rfl, rfl, pt.n3, ?_⟩
              repeat walk_at "rd"
              have e : decide (V.int (((V.str "if" :: xs).length : Nat) : Int) = V.int (1 + 3)) = wordD m "if" ds tail := by
                show _ = (if ("if" : Str) = "not" then _ else if ("if" : Str) = "if" then ds.length == 3 else _)
                rw [if_neg (by decide +kernel), if_pos rfl, List.length_cons, lenx]
                by_cases e : ds.length = 3
                · rw [e]; rfl
                · rw [decide_eq_false (fun z => e (by have := V.int.inj z; omega))]
                  exact (beq_eq_false_iff_ne.mpr e).symm
              rw [e]
              exact q0
          · have c : z ≠ "not" ∧ z ≠ "if" := by simpa [partW, not_or] using c
            rw [wordD, if_neg c.1, if_neg c.2] at q0
            repeat walk_at "rd"
            refine Rd.dec (fun cc => ?_) (fun cc => ?_)
            · obtain rfl := V.str.inj cc
              rw [if_pos rfl] at q0
              repeat walk_at "rd"
              refine Rd.lenT hs ?_
              repeat walk_at "rd"
              refine Rd.dec (fun l2 => ?_) (fun l2 => ?_)
              · have l2 := V.int.inj l2
                rw [List.length_cons, lenx] at l2
                match ds, xs, hax, q0, l2 with
                | [dc], [y], hax, q0, _ =>
                  obtain ⟨y', _, e, hy, _⟩ := dpC hax
                  cases e
                  obtain ⟨tn, kd⟩ := dp_kd hy
                  repeat walk_at "rd"
                  refine Rd.ixT hs (Rd.atN (by decide) rfl) ?_
                  repeat walk_at "rd"
                  refine ⟨y, tn, rfl, kd, ?_⟩
                  rw [dp_isCnt hy]
                  exact q0
                | [], _, _, _, l2 => exact absurd l2 (by decide)
                | _ :: _ :: _, _, _, _, l2 => simp at l2; omega
              · match ds, q0, l2 with
                | [], q0, _ => exact q0
                | [_], _, l2 => exact absurd (by rw [List.length_cons, lenx]; rfl) l2
                | _ :: _ :: _, q0, _ => exact q0
            · have cc : z ≠ "count" := fun e => cc (by rw [e])
              rw [if_neg cc] at q0
              repeat walk_at "rd"
              refine Rd.dec (fun ca => ?_) (fun ca => ?_)
              · obtain rfl := V.str.inj ca
                repeat walk_at "rd"
                refine ⟨.ref p, m, ds, rfl, dp, okUA_iff.mpr fun x hx => (dsU x hx).ok, hm, by omega, fun H' s' => ?_⟩
                have := q H' s'
                rw [wordD, if_neg c.1, if_neg c.2, if_neg cc, if_pos rfl] at this
                exact this
              · have ca : z ≠ "ask" := fun e => ca (by rw [e])
                rw [if_neg ca] at q0
                repeat walk_at "rd"
                refine Rd.lenT hs ?_
                repeat walk_at "rd"
                refine Rd.dec (fun l1 => ?_) (fun l1 => ?_)
                · have l1 := V.int.inj l1
                  rw [List.length_cons, lenx] at l1
                  have e : ds = [] := List.length_eq_zero_iff.mp (by omega)
                  rw [e] at q0
                  repeat walk_at "rd"
                  exact ⟨m, z, tail, rfl, hm, q0⟩
                · have e : ds.isEmpty = false := by
                    cases ds with
                    | nil => exact absurd (by rw [List.length_cons, lenx]; rfl) l1
                    | cons _ _ => rfl
                  rw [e, Bool.false_and] at q0
                  exact q0
        · have e1 : strD d0 = false := by
            cases d0 with
            | str z => exact absurd ⟨z, rfl⟩ hw
            | _ => rfl
          have e2 : nodeD m tail (.tuple (d0 :: ds)) = false := by
            cases d0 with
            | str z => exact absurd ⟨z, rfl⟩ hw
            | _ => rfl
          rw [e1]
          refine ⟨_, rfl, ?_⟩
          refine Rd.tt_ ?_
          repeat walk_at "rd"
          exact bad e2
end
end Ab
namespace Ab
open PySem.Spec PyProof.Rows
local macro_rules | `(tactic| walk_at "rd") => `(tactic| (with_reducible first | refine Rd.tt_ ?_ | refine Rd.ff_ ?_))
theorem walk_zipT {K : PySem.W.Frag} {a b : Addr} {xs ys : List V} (e : ys.length = xs.length) : Walk (RZ.ItzT K a b) xs.length (fun H => SqT K H a xs ∧ SqT K H b ys) (YPair (fun i => xs[i]?) (fun i => ys[i]?)) :=
  ⟨fun i _ hi q => ⟨xs, ys, xs[i], ys[i]'(by omega), q.1, q.2, List.getElem?_eq_getElem hi, List.getElem?_eq_getElem (by omega)⟩, fun _ q => ⟨xs, ys, q.1, q.2, .inl (Nat.le_refl _)⟩,
    fun _ _ _ _ _ q ⟨t, x, y, h1, h2, h3, h4, h5⟩ => ⟨t, x, y, h1, h2, h3, h4 xs q.1, h5 ys q.2⟩⟩
/-- all but what stands at p stays -/
def Keep (p : Addr) (H H' : Hp) : Prop := ∀ b o, b ≠ p → H b = some o → H' b = some o
theorem Keep.same {p : Addr} {H H1 : Hp} (s : Same H H1) : Keep p H H1 := fun b u _ e => s b u e
theorem Keep.put {p : Addr} {H H1 : Hp} {o : HO} (a : Keep p H H1) : Keep p H (upd H1 p o) := fun b u n e => by rw [upd_ne n]; exact a b u n e
theorem Keep.trans {p : Addr} {H H1 H2 : Hp} (a : Keep p H H1) (b : Keep p H1 H2) : Keep p H H2 := fun q u n e => b q u n (a q u n e)
theorem sqT_keep {K : PySem.W.Frag} {p a : Addr} {H H' : Hp} {xs : List V} (k : Keep p H H') (n : NoTup H p) (h : SqT K H a xs) : SqT K H' a xs := by
  rcases h with (h | ⟨o, h⟩) | h
  · exact .inl (.inl (k _ _ (fun e => by subst e; exact (n _ h).1 _ rfl) h))
  · exact .inl (.inr ⟨o, k _ _ (fun e => by subst e; exact (n _ h).2 _ _ rfl) h⟩)
  · exact .inr h
/-- it waits in the heap; its data stand in H0 -/
def ItB (K : PySem.W.Frag) (H0 H : Hp) (z : Wt) (x : V) : Prop := ∃ t v, x = .ref t ∧ SqT K H t [v, .int (z.2.1 : Int), .bl z.2.2] ∧ Dp K H0 v z.1 ∧ Uni z.1
theorem ItB.keep {K : PySem.W.Frag} {p : Addr} {H0 H H' : Hp} {z : Wt} {x : V} (k : Keep p H H') (n : NoTup H p) (h : ItB K H0 H z x) : ItB K H0 H' z x :=
  let ⟨t, v, e, h1, h2⟩ := h
  ⟨t, v, e, sqT_keep k n h1, h2⟩
theorem ItB.mono {K : PySem.W.Frag} {H0 H H' : Hp} {z : Wt} {x : V} (s : Same H H') (h : ItB K H0 H z x) : ItB K H0 H' z x :=
  let ⟨t, v, e, h1, h2⟩ := h
  ⟨t, v, e, sqT_same s h1, h2⟩
theorem pair_cat {α β : Type} {F : α → β → Prop} : ∀ {as as' : List α} {bs bs' : List β}, Paired F as bs → Paired F as' bs' → Paired F (as ++ as') (bs ++ bs')
  | _, _, _, _, .nil, h => h
  | _, _, _, _, .cons a b, h => .cons a (pair_cat b h)
theorem pair_len' {α β : Type} {F : α → β → Prop} : ∀ {as : List α} {bs : List β}, Paired F as bs → as.length = bs.length
  | _, _, .nil => rfl
  | _, _, .cons _ t => by rw [List.length_cons, List.length_cons, pair_len' t]
theorem dpa_get {K : PySem.W.Frag} {H : Hp} : ∀ {xs : List V} {ds : List PyData} {i : Nat} {x : V} {d : PyData}, DpAll K H xs ds → xs[i]? = some x → ds[i]? = some d → Dp K H x d
  | _, _, 0, _, _, .cons a _, h1, h2 => by
    rw [List.getElem?_cons_zero] at h1 h2
    cases h1
    cases h2
    exact a
  | _, _, i + 1, _, _, .cons _ b, h1, h2 => by
    rw [List.getElem?_cons_succ] at h1 h2
    exact dpa_get b h1 h2
  | _, _, _, _, _, .nil, h1, _ => by simp at h1
theorem zipK {K : PySem.W.Frag} {te : TE} {vs : List Nat} {i j d : Nat} {σ : L2.St} {H0 H1 : Hp} {Q : VK} {a b : Addr} {xs : List V} {ds : List PyData} {ts : List Bool} (hx : SqT K H1 a xs) (hd : DpAll K H0 xs ds) (hu : ∀ x ∈ ds, Uni x) (hb : SqT K H1 b (ts.map V.bl)) (kt : ts.length = ds.length) (l3 : ds.length ≤ 3)
    (hw : ∀ x y, wipe (((wipe σ vs).set i (some x)).set j (some y)) vs = wipe σ vs)
    (elem : ∀ x (c : Bool) H2 (R : VK), Same H1 H2 → (∀ p, H2 p = none → R (.ref p) (upd H2 p (.tup [x, .int ((d + 1 : Nat) : Int), .bl c]))) → te (((wipe σ vs).set i (some x)).set j (some (.bl c))) H2 R)
    (fin : ∀ D ys H2, H1 D = none → Same H1 H2 → H2 D = some (.lst ys) → Paired (ItB K H0 H2) ((ds.zip ts).map fun p => (p.1, d + 1, p.2)) ys → Q (.ref D) H2) : Rd.LcGo (RZ.ItzT K a b) (gTup K 2 (gCons (gName i) (gCons (gName j) gNil))) tYes te vs σ Q H1 := by
  intro D hD
  have len := dpa_len hd
  have lk : ((ds.zip ts).map fun p => ((p.1, d + 1, p.2) : Wt)).length = xs.length := by
    rw [List.length_map, List.length_zip, kt, len]
    omega
  have le : (ts.map V.bl).length = xs.length := by rw [List.length_map, kt, len]
  have lx : xs.length ≤ 3 := by rw [len]; exact l3
  refine lc_it (walk_zipT (K := K) (a := a) (b := b) (xs := xs) (ys := ts.map V.bl) le) (fun n H2 => ∃ ys, H2 D = some (.lst ys) ∧ ys.length ≤ n ∧ Same H1 H2 ∧ Paired (ItB K H0 H2) (((ds.zip ts).map fun p => ((p.1, d + 1, p.2) : Wt)).take n) ys) ⟨[], upd_same, Nat.le_refl _, Rd.sNew hD, .nil⟩ ?_ ?_ ?_
  · rintro n H2 _ ⟨ys, _, _, s, _⟩
    exact ⟨sqT_same s hx, sqT_same s hb⟩
  · rintro n v H2 H3 hn ⟨ys, h2, hy, s, pr⟩ ⟨T, x, y, rfl, hT, rfl, ex, ey⟩
    have ex : xs[n]? = some x := ex
    have ey : (ts.map V.bl)[n]? = some y := ey
    rw [List.getElem?_map] at ey
    have ln : n < ts.length := by rw [List.length_map] at le; omega
    rw [List.getElem?_eq_getElem ln] at ey
    cases ey
    have lkn : n < ds.length := by omega
    have s3 := Rd.sNew (o := .tup [x, V.bl ts[n]]) hT
    refine ⟨T, _, rfl, .inl (.inl upd_same), rfl, ⟨_, _, rfl, ⟨_, _, rfl, ⟨rfl, ?_⟩⟩⟩⟩
    refine ⟨hw _ _, Rd.yes (Rd.tt_ ?_)⟩
    refine elem _ _ _ _ (s.trans s3) fun p hp => ?_
    have s4 := Rd.sNew (o := .tup [x, .int ((d + 1 : Nat) : Int), .bl ts[n]]) hp
    have h4 := s4 _ _ (s3 _ _ h2)
    have nt := nt_lst h4
    refine ⟨ys, h4, Rd.szl (by omega), ys ++ [.ref p], upd_same, by rw [List.length_append]; simp; omega, Rd.sMut ((s.trans s3).trans s4) hD, ?_⟩
    have kz : ((ds.zip ts).map fun p => ((p.1, d + 1, p.2) : Wt))[n]? = some (ds[n], d + 1, ts[n]) := by
      rw [List.getElem?_map, (List.getElem?_zip_eq_some (z := (ds[n], ts[n]))).mpr ⟨List.getElem?_eq_getElem lkn, List.getElem?_eq_getElem ln⟩]
      rfl
    rw [List.take_add_one, kz]
    have kp : Keep D H2 (upd (upd (upd H2 T (.tup [x, V.bl ts[n]])) p (.tup [x, .int ((d + 1 : Nat) : Int), .bl ts[n]])) D (.lst (ys ++ [.ref p]))) := (Keep.same (s3.trans s4)).put
    refine pair_cat (Rd.pair_imp (fun z x h => ItB.keep kp (nt_lst h2) h) pr) (.cons ⟨p, x, rfl, sqT_upd nt (.inl (.inl upd_same)), ?_⟩ .nil)
    exact ⟨dpa_get hd ex (List.getElem?_eq_getElem lkn), hu _ (List.getElem_mem lkn)⟩
  · rintro H2 ⟨ys, h2, hy, s, pr⟩
    rw [← lk, List.take_length] at pr
    exact fin D ys H2 hD s h2 pr
theorem zipD {K : PySem.W.Frag} {ta : TA} {g : TG} {tt : TT} {te : TE} {vs0 : List Nat} {σ : L2.St} {H : Hp} {Q : VK} (k : ta σ H fun vs H1 => ∃ a b xs ys, vs = [.ref a, .ref b] ∧ ((SqL K H1 a xs ∧ SqL K H1 b ys ∧ Rd.LcGo (Itz K a b) g tt te vs0 σ Q H1) ∨ (SqT K H1 a xs ∧ SqT K H1 b ys ∧ Rd.LcGo (RZ.ItzT K a b) g tt te vs0 σ Q H1))) : tLc (RZ.iZipA K ta) g tt te vs0 σ H Q := k
theorem revL {K : PySem.W.Frag} {te : TE} {σ : L2.St} {H : Hp} {Q : VK} (k : te σ H fun x H1 => ∃ a xs, x = .ref a ∧ SqL K H1 a xs ∧ ∀ p, H1 p = none → Q (.ref p) (upd H1 p (.lst xs.reverse))) : tRevL K te σ H Q := k
def numV : Option Nat → V
  | none => .non
  | some n => .int (n : Int)
/-- a right node by itself -/
theorem node_ok {m : Str} {t : Bool} {d : PyData} (h : nodeD m t d = true) : ∃ z ds, d = .tuple (.str z :: ds) ∧ (z = "not" → ds.length = 1) ∧ (z = "if" → ds.length = 3) ∧ (tailsW z t).length = (if z ∈ partW then ds else []).length ∧ (if z ∈ partW then ds else []).length ≤ 3 := by
  match d, h with
  | .tuple (.str z :: ds), h =>
    have h : wordD m z ds t = true := h
    have n1 : z = "not" → ds.length = 1 := fun e => by
      rw [wordD, if_pos e] at h
      exact beq_iff_eq.mp h
    have n3 : z = "if" → ds.length = 3 := fun e => by
      rw [wordD, if_neg (fun z' => by rw [z'] at e; exact absurd e (by decide +kernel)), if_pos e] at h
      exact beq_iff_eq.mp h
    refine ⟨z, ds, rfl, n1, n3, ?_⟩
    by_cases a : z = "if"
    · rw [tailsW, if_pos a, if_pos (show z ∈ partW by rw [a]; decide +kernel), n3 a]
      exact ⟨rfl, by decide⟩
    · by_cases b : z = "not"
      · rw [tailsW, if_neg a, if_pos b, if_pos (show z ∈ partW by rw [b]; decide +kernel), n1 b]
        exact ⟨rfl, by decide⟩
      · rw [tailsW, if_neg a, if_neg b, if_neg (show z ∉ partW by simp only [partW, List.mem_cons, List.not_mem_nil, or_false, not_or]; exact ⟨b, a⟩)]
        exact ⟨rfl, by decide⟩
section
variable {P : Program} {w : World} {K : PySem.W.Frag} {mg : Str → Option Value} {base : Heap}
abbrev sFirst_wrong : Stmt := top 47
abbrev nFirst_wrong : List Str := ["method", "expression", "waiting", "place", "node", "depth", "tail", "parts", "part", "at_tail"]
theorem scFirst_wrong : FnScope nFirst_wrong ["method", "expression"] (defScope sFirst_wrong) := ⟨rfl, rfl, rfl, by decide +kernel, rfl, by decide +kernel, by decide +kernel⟩
def spFirst (K : PySem.W.Frag) : Sp := fun vs H Q _ => ∃ (v : V) (m : Str) (d : PyData), vs = [.str m, v] ∧ Dp K H v d ∧ Uni d ∧ m ∈ methods ∧ ∀ H', Same H H' → Q (numV (goW m 16 [(d, 1, true)])) H'
set_option pp.maxSteps 3000 in
theorem ok_first (T : Txt K mg) {t16 t6 : Tok} (g_MOST_NODES : mg "MOST_NODES" = some (.int 16 t16)) (g_MOST_DEPTH : mg "MOST_DEPTH" = some (.int 6 t6)) (D : DefAt K mg "_first_wrong" sFirst_wrong ["method", "expression"]) (CParts : CalG P w K mg base 1 "_parts" (spParts K)) (CTails : CalG P w K mg base 2 "_tails" (spTails K))
    (CIs_node : CalG P w K mg base 7 "_is_node" (spNode K)) : CalG P w K mg base 8 "_first_wrong" (spFirst K) := by
  refine D.by scFirst_wrong (fun vs H Q E h => ?_) (fun f cd A hg outer s H vs Q E hr h => ?_)
  · obtain ⟨_, _, _, rfl, _⟩ := h
    rfl
  · obtain ⟨v0, m, d0, rfl, dp0, un0, hm, q⟩ := h
    refine ⟨_, (pss_cons (ps_set (i := 2) scFirst_wrong.nd rfl (Or.inl rfl) (pe_lst (pa_cons (pe_tup (pa_cons (pv 1) (pa_cons pe_int (pa_cons pe_bl pa_nil)))) pa_nil)))
  (pss_cons (ps_set (i := 3) scFirst_wrong.nd rfl (Or.inl rfl) pe_int)
  (pss_cons (ps_while PassesOwn.never (Rd.ptTru (K := K) rfl (pt_truth (pv 2) (by intro _; rfl)))
  (pss_cons (ps_asg (pe_bm0 PySem.F.plainAttrs_list PySem.F.slot_list_pop PySem.F.type_list_pop mt_pop (pv 2)) (pg_tup (by rfl) (pgs_cons (pg_name (i := 4) scFirst_wrong.nd rfl (Or.inl rfl)) (pgs_cons (pg_name (i := 5) scFirst_wrong.nd rfl (Or.inr rfl)) (pgs_cons (pg_name (i := 6) scFirst_wrong.nd rfl (Or.inl rfl)) pgs_nil)))))
  (pss_cons (ps_if (PW.pt (pw_or (pt_cmpR op_eq (pv 3) (pe_glob (v := .int 16) (by rfl) g_MOST_NODES ⟨_, rfl⟩) (nomark _)) (pw_or (pt_cmpR op_gt (pv 5) (pe_glob (v := .int 6) (by rfl) g_MOST_DEPTH ⟨_, rfl⟩) (nomark _)) (pw_or1 (pt_not (pt_val (pe_cG CIs_node hg hr (by decide) (pa_cons (pv 0) (pa_cons (pv 4) (pa_cons (pv 6) pa_nil))))))))))
  (pss_one (ps_ret (pv 3)))
  pss_nil)
  (pss_cons (ps_setLc (i := 7) (wi := RZ.iZipA K _) (own := [("part", 8), ("at_tail", 9)]) (g := gTup K 2 (gCons (gName 8) (gCons (gName 9) gNil))) (by rfl) scFirst_wrong.nd rfl rfl (sw_true rfl rfl rfl (by decide +kernel)) (RZ.pi_zipA (by rfl) T.zip (pa_cons (pe_cG CParts hg hr (by decide) (pa_cons (pv 4) pa_nil)) (pa_cons (pe_cG CTails hg hr (by decide) (pa_cons (pv 4) (pa_cons (pv 6) pa_nil))) pa_nil))) (blkOk_by (N := nFirst_wrong) (sc := defScope sFirst_wrong) (by decide +kernel)) (fun _ _ _ _ _ => pg_tup (by rfl) (pgs_cons (pg_name (i := 8) scFirst_wrong.nd rfl (Or.inl rfl)) (pgs_cons (pg_name (i := 9) scFirst_wrong.nd rfl (Or.inl rfl)) pgs_nil))) (fun _ _ _ _ _ => pts_nil) (fun _ _ _ _ _ => (pe_tup (pa_cons (pv 8) (pa_cons (pe_op op_add (pv 5) pe_int) (pa_cons (pv 9) pa_nil))))))
  (pss_cons (ps_expr (pe_bm PySem.F.plainAttrs_list PySem.F.slot_list_extend PySem.F.type_list_extend mt_extend (pv 2) (pa_cons (pe_revL (pv 7)) pa_nil)))
  (pss_one (ps_aug (i := 3) scFirst_wrong.nd rfl (Or.inl rfl) pe_int ip_add)))))))
  (pss_one (ps_ret pe_non))))), ?_⟩
    repeat walk_at "rd"
    refine ⟨Rd.sz (by simp), fun t0 ht0 => ?_⟩
    have s1 := Rd.sNew (o := .tup [v0, .int 1, .bl true]) ht0
    have e1 : upd H t0 (.tup [v0, .int 1, .bl true]) t0 = some (.tup [v0, .int 1, .bl true]) := upd_same
    generalize upd H t0 (.tup [v0, .int 1, .bl true]) = H1 at s1 e1 ⊢
    repeat walk_at "rd"
    refine ⟨Rd.sz (by simp), fun wl hwl => ?_⟩
    have s2 := Rd.sNew (o := .lst [.ref t0]) hwl
    have nw : H wl = none := by
      cases z : H wl with
      | none => rfl
      | some u => rw [s1 _ _ z] at hwl; cases hwl
    have e2 : upd H1 wl (.lst [.ref t0]) wl = some (.lst [.ref t0]) := upd_same
    have e3 := s2 _ _ e1
    have s12 := s1.trans s2
    generalize upd H1 wl (.lst [.ref t0]) = H2 at s2 e2 e3 s12 ⊢
    repeat walk_at "rd"
    refine ⟨fun k σ H' => ∃ (pl : Int) (st : List Wt) (xs : List V) (z4 z5 z6 z7 : Option V), σ = [some (.str m), some v0, some (.ref wl), some (.int pl), z4, z5, z6, z7, none, none] ∧ pl = 16 - (k : Int) ∧ k ≤ 16 ∧ Same H H' ∧ H' wl = some (.lst xs) ∧ Paired (ItB K H H') st xs.reverse ∧ goW m k st = goW m 16 [(d0, 1, true)] ∧ xs.length ≤ 1000 - 3 * k,
      ⟨16, 0, [(d0, 1, true)], [.ref t0], _, _, _, _, rfl, rfl, Nat.le_refl _, s12, e2, .cons ⟨t0, v0, rfl, .inl (.inl e3), dp0, un0⟩ .nil, rfl, by simp⟩, ?_⟩
    · rintro k σ H3 ⟨pl, st, xs, z4, z5, z6, z7, rfl, epl, k16, s3, hw, pr, eq, xl⟩
      repeat walk_at "rd"
      refine Rd.bool (fun c => ?_) (fun c => ?_)
      · have xne : xs ≠ [] := fun e => by rw [e] at c; cases c
        obtain ⟨r, x, rfl⟩ : ∃ r x, xs = r ++ [x] := ⟨xs.dropLast, xs.getLast xne, (List.dropLast_concat_getLast xne).symm⟩
        rw [List.reverse_append, List.reverse_singleton, List.singleton_append] at pr
        cases pr with
        | @cons z _ st' _ iz pr =>
          obtain ⟨nd, d, b⟩ := z
          obtain ⟨t, v, rfl, ht, dp, un⟩ := iz
          have ht : SqT K H3 t [v, .int (d : Int), .bl b] := ht
          have dp : Dp K H v nd := dp
          have un : Uni nd := un
          refine ⟨fun σ' H' => ∃ m', m' < k ∧ (∃ (pl : Int) (st : List Wt) (xs : List V) (z4 z5 z6 z7 : Option V), σ' = [some (.str m), some v0, some (.ref wl), some (.int pl), z4, z5, z6, z7, none, none] ∧ pl = 16 - (m' : Int) ∧ m' ≤ 16 ∧ Same H H' ∧ H' wl = some (.lst xs) ∧ Paired (ItB K H H') st xs.reverse ∧ goW m m' st = goW m 16 [(d0, 1, true)] ∧ xs.length ≤ 1000 - 3 * m'), fun _ _ h => h, ?_⟩
          repeat walk_at "rd"
          refine ⟨Rd.ty_list hw, ?_⟩
          refine ⟨wl, _, .ref t, rfl, rfl, hw, by simp, ?_⟩
          rw [List.dropLast_concat]
          have k4 : Keep wl H3 (upd H3 wl (.lst r)) := Keep.put (fun _ _ _ e => e)
          have ht4 := sqT_keep k4 (nt_lst hw) ht
          have hw4 : upd H3 wl (.lst r) wl = some (.lst r) := upd_same
          have s4 : Same H (upd H3 wl (.lst r)) := Rd.sMut s3 nw
          have pr4 := Rd.pair_imp (fun z x h => ItB.keep k4 (nt_lst hw) h) pr
          rw [List.length_append] at xl
          generalize upd H3 wl (.lst r) = H4 at ht4 hw4 s4 pr4 ⊢
          refine ⟨t, _, rfl, ht4, rfl, ?_⟩
          have stop : ∀ H', Same H H' → (k = 0 ∨ ¬ (d ≤ 6 ∧ nodeD m b nd = true)) → Q (.int pl) H' := fun H' s' h => by
            have := q H' s'
            rw [← eq] at this
            have e1 : pl = ((16 - k : Nat) : Int) := by omega
            rw [e1]
            cases k with
            | zero => exact this
            | succ k =>
              rw [goW, if_neg (h.resolve_left (by omega))] at this
              exact this
          repeat walk_at "rd"
          refine Rd.dec (fun c => ?_) (fun ck => ?_)
          · have := V.int.inj c
            repeat walk_at "rd"
            exact stop _ s4 (.inl (by omega))
          have kp : 0 < k := by
            have : pl ≠ 16 := fun e => ck (by rw [e])
            omega
          obtain ⟨k, rfl⟩ : ∃ j, k = j + 1 := ⟨k - 1, by omega⟩
          repeat walk_at "rd"
          refine Rd.dec (fun c => ?_) (fun cd => ?_)
          · repeat walk_at "rd"
            exact stop _ s4 (.inr fun h => by omega)
          repeat walk_at "rd"
          refine ⟨v, m, nd, b, rfl, dp_mono s4 dp, un, hm, fun H5 s5 => ?_⟩
          refine ⟨_, rfl, ?_⟩
          refine Rd.bool (fun c => ?_) (fun c => ?_)
          · repeat walk_at "rd"
            exact stop _ (s4.trans s5) (.inr fun h => by rw [h.2] at c; cases c)
          have nok : nodeD m b nd = true := by
            cases e : nodeD m b nd with
            | true => rfl
            | false => rw [e] at c; cases c
          rw [goW, if_pos ⟨by show d ≤ 6; omega, nok⟩] at eq
          obtain ⟨z, ds, rfl, hn1, hn3, kt, l3⟩ := node_ok nok
          have dp5 := dp_mono (s4.trans s5) dp
          obtain ⟨pn, xs5, rfl, hs5, ha5⟩ := dpT dp
          obtain ⟨x5, xs5, rfl, hx5, hb5⟩ := dpC ha5
          obtain rfl := dpS hx5
          have zU : PyData.strOk z = true := (un.mem List.mem_cons_self).ok
          have len5 := dpa_len hb5
          have hs5' := sqT_same (s4.trans s5) hs5
          repeat walk_at "rd"
          refine zipD ?_
          repeat walk_at "rd"
          refine ⟨pn, z, xs5, rfl, hs5', zU, fun pa H6 s6 ha6 => ?_⟩
          repeat walk_at "rd"
          refine ⟨pn, z, xs5, b, rfl, sqT_same s6 hs5', zU, fun e => by rw [len5]; exact hn1 e, fun pb H7 s7 hb7 => ?_⟩
          repeat walk_at "rd"
          have hdk : DpAll K H (if z ∈ partW then xs5 else []) (if z ∈ partW then ds else []) := by
            split
            · exact hb5
            · exact .nil
          have huk : ∀ x ∈ (if z ∈ partW then ds else []), Uni x := by
            intro x hx
            split at hx
            · exact un.mem (List.mem_cons_of_mem _ hx)
            · cases hx
          refine ⟨pa, pb, (if z ∈ partW then xs5 else []), _, rfl, .inr ⟨sqT_same s7 ha6, hb7, zipK (i := 8) (j := 9) (d := d) (ds := if z ∈ partW then ds else []) (ts := tailsW z b) (sqT_same s7 ha6) hdk huk hb7 kt l3 (fun _ _ => rfl) (fun x c H8 R s8 k => ?_) fun Dl ys H8 hD s8 hd8 pr8 => ?_⟩⟩
          · repeat walk_at "rd"
            exact ⟨Rd.sz (by simp), fun p hp => k p hp⟩
          · have S48 := ((s5.trans s6).trans s7).trans s8
            have hw8 := S48 _ _ hw4
            repeat walk_at "rd"
            refine ⟨Rd.ty_list hw8, ?_⟩
            repeat walk_at "rd"
            refine revL ?_
            repeat walk_at "rd"
            refine ⟨Dl, ys, rfl, SqL.of hd8, fun p hp => ?_⟩
            have s9 := Rd.sNew (o := .lst ys.reverse) hp
            have hw9 := s9 _ _ hw8
            have lys := pair_len' pr8
            rw [List.length_map, List.length_zip] at lys
            rw [List.length_singleton] at xl
            have ys3 : ys.length ≤ 3 := by omega
            repeat walk_at "rd"
            refine ⟨wl, p, r, ys.reverse, rfl, rfl, hw9, upd_same, by rw [List.length_reverse]; exact Nat.le_of_lt (Rd.szl (by omega)), ?_⟩
            have kf : Keep wl H4 (upd (upd H8 p (.lst ys.reverse)) wl (.lst (r ++ ys.reverse))) := (Keep.same (S48.trans s9)).put
            have kf8 : Keep wl H8 (upd (upd H8 p (.lst ys.reverse)) wl (.lst (r ++ ys.reverse))) := (Keep.same s9).put
            repeat walk_at "rd"
            refine ⟨_, rfl, ?_⟩
            repeat walk_at "rd"
            refine ⟨_, _, rfl, rfl, ?_⟩
            refine ⟨k, Nat.lt_succ_self k, _, kidsZ (.tuple (.str z :: ds), d, b) ++ st', r ++ ys.reverse, _, _, _, _, rfl, (by show pl + 1 = 16 - (k : Int); omega), by omega, Rd.sMut (s4.trans (S48.trans s9)) nw, upd_same, ?_, eq, ?_⟩
            · rw [List.reverse_append, List.reverse_reverse]
              exact pair_cat (Rd.pair_imp (fun z x h => ItB.keep kf8 (nt_lst hw8) h) pr8) (Rd.pair_imp (fun z x h => ItB.keep kf (nt_lst hw4) h) pr4)
            · rw [List.length_append, List.length_reverse]
              omega
      · have xe : xs = [] := by cases xs with
          | nil => rfl
          | cons a l => cases c
        subst xe
        cases pr
        have := q H3 s3
        rw [← eq] at this
        repeat walk_at "rd"
        cases k <;> exact this
end
end Ab
namespace Ab
open PySem.Spec PyProof.Rows
local macro_rules | `(tactic| walk_at "rd") => `(tactic| (with_reducible first | refine Rd.tt_ ?_ | refine Rd.ff_ ?_))
/-! ### nodes of a body -/
inductive Nd where
  | word (z : Str)
  | cnt (i : Int)
  | ask1 (o r : Str)
  | ask2 (o r q : Str)
  | no (a : Nd)
  | iff (a b c : Nd)
def Nd.d : Nd → PyData
  | .word z => .tuple [.str z]
  | .cnt i => .tuple [.str "count", .int i]
  | .ask1 o r => .tuple [.str "ask", .str o, .str r]
  | .ask2 o r q => .tuple [.str "ask", .str o, .str r, .str q]
  | .no a => .tuple [.str "not", a.d]
  | .iff a b c => .tuple [.str "if", a.d, b.d, c.d]
/-- the node itself is right for m -/
def Nd.top (m : Str) (tail : Bool) : Nd → Bool
  | .word z => if z = "further" then tail else if z = "decline" then tail && decide (m ∈ decliners) else decide (z ∈ answerW)
  | .cnt i => decide (0 ≤ i) && decide (i ≤ 4)
  | .ask1 o r => decide (o ∈ askOne) && decide (r ∈ rolesOf m)
  | .ask2 o r q => decide (o ∈ askTwo) && decide (r ∈ rolesOf m) && decide (q ∈ rolesOf m) && decide (r ≠ q)
  | .no _ => true
  | .iff _ _ _ => true
def headW : List Str := ["yes", "no", "raise", "further", "decline", "count", "ask", "not", "if"]
def Nd.head : Nd → Str
  | .word z => z
  | .cnt _ => "count"
  | .ask1 _ _ => "ask"
  | .ask2 _ _ _ => "ask"
  | .no _ => "not"
  | .iff _ _ _ => "if"
def Nd.kids : Nd → List Nd
  | .no a => [a]
  | .iff a b c => [a, b, c]
  | _ => []
def Nd.tails (tail : Bool) : Nd → List Bool
  | .no _ => [false]
  | .iff _ _ _ => [false, tail, tail]
  | _ => []
/-- the words of the document, none of them a part's -/
def Nd.wd : Nd → Bool
  | .word z => decide (z ∈ (["yes", "no", "raise", "further", "decline"] : List Str))
  | _ => true
theorem top_wd {m : Str} {tail : Bool} {nd : Nd} (h : nd.top m tail = true) : nd.wd = true := by
  cases nd with
  | word z =>
    have h : (if z = "further" then tail else if z = "decline" then tail && decide (m ∈ decliners) else decide (z ∈ answerW)) = true := h
    by_cases e1 : z = "further"
    · subst e1; decide +kernel
    · rw [if_neg e1] at h
      by_cases e2 : z = "decline"
      · subst e2; decide +kernel
      · rw [if_neg e2] at h
        have h := of_decide_eq_true h
        simp only [answerW, List.mem_cons, List.not_mem_nil, or_false] at h
        rcases h with rfl | rfl | rfl <;> decide +kernel
  | _ => rfl
theorem head_in {nd : Nd} (h : nd.wd = true) : nd.head ∈ headW ∧ (nd.head ∈ partW ↔ nd.kids ≠ []) := by
  cases nd with
  | word z =>
    have h := of_decide_eq_true h
    simp only [List.mem_cons, List.not_mem_nil, or_false] at h
    rcases h with rfl | rfl | rfl | rfl | rfl <;> exact ⟨by decide +kernel, ⟨fun z => absurd z (by decide +kernel), fun z => absurd rfl z⟩⟩
  | cnt i => exact ⟨by show ("count" : Str) ∈ headW; decide +kernel, ⟨fun z => absurd (show ("count" : Str) ∈ partW from z) (by decide +kernel), fun z => absurd rfl z⟩⟩
  | ask1 o r => exact ⟨by show ("ask" : Str) ∈ headW; decide +kernel, ⟨fun z => absurd (show ("ask" : Str) ∈ partW from z) (by decide +kernel), fun z => absurd rfl z⟩⟩
  | ask2 o r q => exact ⟨by show ("ask" : Str) ∈ headW; decide +kernel, ⟨fun z => absurd (show ("ask" : Str) ∈ partW from z) (by decide +kernel), fun z => absurd rfl z⟩⟩
  | no a => exact ⟨by show ("not" : Str) ∈ headW; decide +kernel, ⟨fun _ => by simp [Nd.kids], fun _ => by show ("not" : Str) ∈ partW; decide +kernel⟩⟩
  | iff a b c => exact ⟨by show ("if" : Str) ∈ headW; decide +kernel, ⟨fun _ => by simp [Nd.kids], fun _ => by show ("if" : Str) ∈ partW; decide +kernel⟩⟩
/-- a node in the heap: its tuple, the word first -/
theorem nd_at {K : PySem.W.Frag} {H : Hp} {v : V} {nd : Nd} (h : Dp K H v nd.d) : ∃ p xs ds, v = .ref p ∧ SqT K H p (.str nd.head :: xs) ∧ DpAll K H xs ds ∧ nd.d = .tuple (.str nd.head :: ds) ∧ (nd.kids ≠ [] → ds = nd.kids.map Nd.d) := by
  have go : ∀ ds, nd.d = .tuple (.str nd.head :: ds) → (nd.kids ≠ [] → ds = nd.kids.map Nd.d) → ∃ p xs ds, v = .ref p ∧ SqT K H p (.str nd.head :: xs) ∧ DpAll K H xs ds ∧ nd.d = .tuple (.str nd.head :: ds) ∧ (nd.kids ≠ [] → ds = nd.kids.map Nd.d) := by
    intro ds e k
    rw [e] at h
    obtain ⟨p, xs, rfl, hs, ha⟩ := dpT h
    obtain ⟨x, r, rfl, hx, hr⟩ := dpC ha
    rw [dpS hx] at hs
    exact ⟨p, r, ds, rfl, hs, hr, e, k⟩
  cases nd with
  | word z => exact go [] rfl fun z => absurd rfl z
  | cnt i => exact go _ rfl fun z => absurd rfl z
  | ask1 o r => exact go _ rfl fun z => absurd rfl z
  | ask2 o r q => exact go _ rfl fun z => absurd rfl z
  | no a => exact go _ rfl fun _ => rfl
  | iff a b c => exact go _ rfl fun _ => rfl
def spPartsN (K : PySem.W.Frag) : Sp := fun vs H Q _ => ∃ (v : V) (nd : Nd), vs = [v] ∧ Dp K H v nd.d ∧ nd.wd = true ∧ ∀ p xs H', Same H H' → SqT K H' p xs → DpAll K H' xs (nd.kids.map Nd.d) → Q (.ref p) H'
theorem nd_keep {K : PySem.W.Frag} {p : Addr} {H H' : Hp} (k : Keep p H H') (n : NoTup H p) : ∀ (nd : Nd) (v : V), Dp K H v nd.d → Dp K H' v nd.d
  | .word z, v, h => by
    obtain ⟨a, xs, rfl, hs, ha⟩ := dpT h
    obtain ⟨x, l, rfl, h1, h2⟩ := dpC ha
    obtain rfl := dpN h2
    obtain rfl := dpS h1
    exact .tup (sqT_keep k n hs) (.cons (.str _) .nil)
  | .cnt i, v, h => by
    obtain ⟨a, xs, rfl, hs, ha⟩ := dpT h
    obtain ⟨x, l, rfl, h1, h2⟩ := dpC ha
    obtain ⟨y, l2, rfl, h3, h4⟩ := dpC h2
    obtain rfl := dpN h4
    obtain rfl := dpS h1
    obtain rfl := dpI h3
    exact .tup (sqT_keep k n hs) (.cons (.str _) (.cons (.int _) .nil))
  | .ask1 o r, v, h => by
    obtain ⟨a, xs, rfl, hs, ha⟩ := dpT h
    obtain ⟨x, l, rfl, h1, h2⟩ := dpC ha
    obtain ⟨y, l2, rfl, h3, h4⟩ := dpC h2
    obtain ⟨y2, l3, rfl, h5, h6⟩ := dpC h4
    obtain rfl := dpN h6
    obtain rfl := dpS h1
    obtain rfl := dpS h3
    obtain rfl := dpS h5
    exact .tup (sqT_keep k n hs) (.cons (.str _) (.cons (.str _) (.cons (.str _) .nil)))
  | .ask2 o r q, v, h => by
    obtain ⟨a, xs, rfl, hs, ha⟩ := dpT h
    obtain ⟨x, l, rfl, h1, h2⟩ := dpC ha
    obtain ⟨y, l2, rfl, h3, h4⟩ := dpC h2
    obtain ⟨y2, l3, rfl, h5, h6⟩ := dpC h4
    obtain ⟨y3, l4, rfl, h7, h8⟩ := dpC h6
    obtain rfl := dpN h8
    obtain rfl := dpS h1
    obtain rfl := dpS h3
    obtain rfl := dpS h5
    obtain rfl := dpS h7
    exact .tup (sqT_keep k n hs) (.cons (.str _) (.cons (.str _) (.cons (.str _) (.cons (.str _) .nil))))
  | .no b, v, h => by
    obtain ⟨a, xs, rfl, hs, ha⟩ := dpT h
    obtain ⟨x, l, rfl, h1, h2⟩ := dpC ha
    obtain ⟨y, l2, rfl, h3, h4⟩ := dpC h2
    obtain rfl := dpN h4
    obtain rfl := dpS h1
    exact .tup (sqT_keep k n hs) (.cons (.str _) (.cons (nd_keep k n b y h3) .nil))
  | .iff b c d, v, h => by
    obtain ⟨a, xs, rfl, hs, ha⟩ := dpT h
    obtain ⟨x, l, rfl, h1, h2⟩ := dpC ha
    obtain ⟨y, l2, rfl, h3, h4⟩ := dpC h2
    obtain ⟨y2, l3, rfl, h5, h6⟩ := dpC h4
    obtain ⟨y3, l4, rfl, h7, h8⟩ := dpC h6
    obtain rfl := dpN h8
    obtain rfl := dpS h1
    exact .tup (sqT_keep k n hs) (.cons (.str _) (.cons (nd_keep k n b y h3) (.cons (nd_keep k n c y2 h5) (.cons (nd_keep k n d y3 h7) .nil))))
def Nd.size : Nd → Nat
  | .no a => a.size + 1
  | .iff a b c => a.size + b.size + c.size + 1
  | _ => 1
def Nd.dep : Nd → Nat
  | .no a => a.dep + 1
  | .iff a b c => max a.dep (max b.dep c.dep) + 1
  | _ => 1
def Nd.all (m : Str) : Bool → Nd → Bool
  | _, .no a => a.all m false
  | t, .iff a b c => a.all m false && b.all m t && c.all m t
  | t, nd => nd.top m t
theorem all_top {m : Str} {t : Bool} {nd : Nd} (h : nd.all m t = true) : nd.top m t = true := by
  cases nd with
  | no a => rfl
  | iff a b c => rfl
  | word z => exact h
  | cnt i => exact h
  | ask1 o r => exact h
  | ask2 o r q => exact h
theorem size_pos (nd : Nd) : 1 ≤ nd.size := by cases nd <;> simp [Nd.size]
theorem dep_pos (nd : Nd) : 1 ≤ nd.dep := by cases nd <;> simp [Nd.dep]
theorem FnG.imp {P : Program} {w : World} {K : PySem.W.Frag} {mg : Str → Option Value} {base : Heap} {CX : CXT} {k : Nat} {f : Addr} {fd : FuncData} {ps : List Str} {sp sp' : Sp} (F : FnG P w K mg base CX k f fd ps sp) (h : ∀ vs H Q E, sp' vs H Q E → sp vs H Q E) : FnG P w K mg base CX k f fd ps sp' :=
  ⟨fun vs H Q E z => F.len vs H Q E (h _ _ _ _ z), fun A g outer s H args us vs Q E hr e0 hb r z => F.go A g outer s H args us vs Q E hr e0 hb r (h _ _ _ _ z)⟩
theorem CalG.imp {P : Program} {w : World} {K : PySem.W.Frag} {mg : Str → Option Value} {base : Heap} {k : Nat} {x : Str} {sp sp' : Sp} (C : CalG P w K mg base k x sp) (h : ∀ vs H Q E, sp' vs H Q E → sp vs H Q E) : CalG P w K mg base k x sp' :=
  let ⟨f, fd, ps, F, a, b, c⟩ := C
  ⟨f, fd, ps, FnG.imp F h, a, b, c⟩
theorem parts_nd {K : PySem.W.Frag} : ∀ vs H Q E, spPartsN K vs H Q E → spParts K vs H Q E := by
  rintro vs H Q E ⟨v, nd, rfl, dp, wd, q⟩
  obtain ⟨p, xs, ds, rfl, hs, ha, e, kd⟩ := nd_at dp
  obtain ⟨hh, hk⟩ := head_in wd
  have hU : PyData.strOk nd.head = true := (show ∀ z ∈ headW, PyData.strOk z = true by decide +kernel) _ hh
  refine ⟨p, nd.head, xs, rfl, hs, hU, fun t H' s' ht => ?_⟩
  by_cases c : nd.head ∈ partW
  · rw [if_pos c] at ht
    exact q t xs H' s' ht (by rw [← kd (hk.mp c)]; exact dpa_mono s' ha)
  · rw [if_neg c] at ht
    have ne : nd.kids = [] := Classical.byContradiction fun z => c (hk.mpr z)
    exact q t [] H' s' ht (by rw [ne]; exact .nil)
end Ab
namespace Ab
open PySem.Spec PyProof.Rows
mutual
def noList : PyData → Bool
  | .list _ => false
  | .tuple xs => noListA xs
  | .dict _ => false
  | _ => true
def noListA : List PyData → Bool
  | [] => true
  | x :: xs => noList x && noListA xs
end
mutual
theorem dp_keepT {K : PySem.W.Frag} {p : Addr} {H H' : Hp} (k : Keep p H H') (n : NoTup H p) : ∀ {v : V} {d : PyData}, Dp K H v d → noList d = true → Dp K H' v d
  | _, _, .non, _ => .non
  | _, _, .bl b, _ => .bl b
  | _, _, .int i, _ => .int i
  | _, _, .str x, _ => .str x
  | _, _, .lst _ _, h => by cases h
  | _, _, .tup a b, h => .tup (sqT_keep k n a) (dpa_keepT k n b h)
theorem dpa_keepT {K : PySem.W.Frag} {p : Addr} {H H' : Hp} (k : Keep p H H') (n : NoTup H p) : ∀ {vs : List V} {ds : List PyData}, DpAll K H vs ds → noListA ds = true → DpAll K H' vs ds
  | _, _, .nil, _ => .nil
  | _, _, .cons a b, h => by
    have h : (noList _ && noListA _) = true := h
    rw [Bool.and_eq_true] at h
    exact .cons (dp_keepT k n a h.1) (dpa_keepT k n b h.2)
end
theorem noListA_app : ∀ a b : List PyData, noListA (a ++ b) = (noListA a && noListA b)
  | [], _ => rfl
  | x :: a, b => by
    show (noList x && noListA (a ++ b)) = ((noList x && noListA a) && noListA b)
    rw [noListA_app a b, Bool.and_assoc]
def Nd.rows : Nd → Nat → List PyData
  | .no a, i => .tuple [.str "not", .int ((i + 1 : Nat) : Int)] :: a.rows (i + 1)
  | .iff a b c, i => .tuple [.str "if", .int ((i + 1 : Nat) : Int), .int ((i + 1 + a.size : Nat) : Int), .int ((i + 1 + a.size + b.size : Nat) : Int)] :: (a.rows (i + 1) ++ (b.rows (i + 1 + a.size) ++ c.rows (i + 1 + a.size + b.size)))
  | nd, _ => [nd.d]
def numsL : Nat → List Nd → List Nat
  | _, [] => []
  | i, k :: r => i :: numsL (i + k.size) r
def rowsL : Nat → List Nd → List PyData
  | _, [] => []
  | i, k :: r => k.rows i ++ rowsL (i + k.size) r
def sumL (l : List Nd) : Nat := (l.map Nd.size).sum
def Nd.headD (nd : Nd) (i : Nat) : PyData := if nd.kids = [] then nd.d else .tuple (.str nd.head :: (numsL (i + 1) nd.kids).map fun n : Nat => PyData.int (n : Int))
theorem rows_eq (nd : Nd) (i : Nat) : nd.rows i = nd.headD i :: rowsL (i + 1) nd.kids := by
  cases nd <;> simp [Nd.rows, Nd.headD, Nd.kids, rowsL, numsL, Nd.head]
theorem rows_len : ∀ (nd : Nd) (i : Nat), (nd.rows i).length = nd.size
  | .no a, i => by simp [Nd.rows, Nd.size, rows_len a]
  | .iff a b c, i => by
    simp [Nd.rows, Nd.size, rows_len a, rows_len b, rows_len c]
    omega
  | .word _, _ => rfl
  | .cnt _, _ => rfl
  | .ask1 _ _, _ => rfl
  | .ask2 _ _ _, _ => rfl
theorem nd_noList : ∀ nd : Nd, noList nd.d = true
  | .no a => by
    show (true && (noList a.d && true)) = true
    rw [nd_noList a]; rfl
  | .iff a b c => by
    show (true && (noList a.d && (noList b.d && (noList c.d && true)))) = true
    rw [nd_noList a, nd_noList b, nd_noList c]; rfl
  | .word _ => rfl
  | .cnt _ => rfl
  | .ask1 _ _ => rfl
  | .ask2 _ _ _ => rfl
theorem rows_noList : ∀ (nd : Nd) (i : Nat), noListA (nd.rows i) = true
  | .no a, i => by
    show (true && noListA (a.rows (i + 1))) = true
    rw [rows_noList a]; rfl
  | .iff a b c, i => by
    show (true && noListA (a.rows (i + 1) ++ (b.rows (i + 1 + a.size) ++ c.rows (i + 1 + a.size + b.size)))) = true
    rw [noListA_app, noListA_app, rows_noList a, rows_noList b, rows_noList c]; rfl
  | .word _, _ => rfl
  | .cnt _, _ => rfl
  | .ask1 _ _, _ => rfl
  | .ask2 _ _ _, _ => rfl
theorem rowsL_noList : ∀ (l : List Nd) (i : Nat), noListA (rowsL i l) = true
  | [], _ => rfl
  | k :: r, i => by
    show noListA (k.rows i ++ rowsL (i + k.size) r) = true
    rw [noListA_app, rows_noList, rowsL_noList r]; rfl
theorem sumL_snoc (l : List Nd) (k : Nd) : sumL (l ++ [k]) = sumL l + k.size := by simp [sumL]
theorem rowsL_snoc : ∀ (l : List Nd) (k : Nd) (i : Nat), rowsL i (l ++ [k]) = rowsL i l ++ k.rows (i + sumL l)
  | [], k, i => by simp [rowsL, sumL]
  | a :: l, k, i => by
    show a.rows i ++ rowsL (i + a.size) (l ++ [k]) = (a.rows i ++ rowsL (i + a.size) l) ++ k.rows (i + sumL (a :: l))
    rw [rowsL_snoc l k, List.append_assoc]
    have : i + a.size + sumL l = i + sumL (a :: l) := by simp [sumL]; omega
    rw [this]
theorem numsL_snoc : ∀ (l : List Nd) (k : Nd) (i : Nat), numsL i (l ++ [k]) = numsL i l ++ [i + sumL l]
  | [], k, i => by simp [numsL, sumL]
  | a :: l, k, i => by
    show i :: numsL (i + a.size) (l ++ [k]) = i :: numsL (i + a.size) l ++ [i + sumL (a :: l)]
    rw [numsL_snoc l k]
    have : i + a.size + sumL l = i + sumL (a :: l) := by simp [sumL]; omega
    rw [this]
    rfl
theorem rowsL_len : ∀ (l : List Nd) (i : Nat), (rowsL i l).length = sumL l
  | [], _ => rfl
  | a :: l, i => by
    show (a.rows i ++ rowsL (i + a.size) l).length = sumL (a :: l)
    rw [List.length_append, rows_len, rowsL_len l]
    simp [sumL]
theorem numsL_len : ∀ (l : List Nd) (i : Nat), (numsL i l).length = l.length
  | [], _ => rfl
  | a :: l, i => by
    show (numsL (i + a.size) l).length + 1 = l.length + 1
    rw [numsL_len l]
theorem dpa_app {K : PySem.W.Frag} {H : Hp} : ∀ {xs ys : List V} {ds es : List PyData}, DpAll K H xs ds → DpAll K H ys es → DpAll K H (xs ++ ys) (ds ++ es)
  | _, _, _, _, .nil, h => h
  | _, _, _, _, .cons a b, h => .cons a (dpa_app b h)
theorem dpa_ints {K : PySem.W.Frag} {H : Hp} : ∀ l : List Nat, DpAll K H (l.map fun n : Nat => V.int (n : Int)) (l.map fun n : Nat => PyData.int (n : Int))
  | [] => .nil
  | _ :: l => .cons (.int _) (dpa_ints l)
theorem starT {K : PySem.W.Frag} {te : TE} {t : TA} {σ : L2.St} {H : Hp} {Q : List V → Hp → Prop} (k : te σ H fun x H1 => ∃ p xs, x = V.ref p ∧ (SqT K H1 p xs ∨ SqL K H1 p xs) ∧ t σ H1 fun ys H2 => Q (xs ++ ys) H2) : StX.tStar K te t σ H Q := k
theorem forT {K : PySem.W.Frag} {tl : TE} {g : TG} {tb : TS} {D : Ends} {σ : L2.St} {H : Hp} (k : tl σ H fun x H1 => tFor (iTup K (tC x)) g tb D σ H1) : tFor (iTup K tl) g tb D σ H := k
/-- right words all over -/
def Nd.wdA : Nd → Bool
  | .no a => a.wdA
  | .iff a b c => a.wdA && b.wdA && c.wdA
  | nd => nd.wd
theorem wdA_wd {nd : Nd} (h : nd.wdA = true) : nd.wd = true ∧ ∀ k ∈ nd.kids, k.wdA = true := by
  cases nd with
  | no a => exact ⟨rfl, fun k hk => by rw [List.mem_singleton.mp hk]; exact h⟩
  | iff a b c =>
    have h : (a.wdA && b.wdA && c.wdA) = true := h
    rw [Bool.and_eq_true, Bool.and_eq_true] at h
    refine ⟨rfl, fun k hk => ?_⟩
    have hk : k ∈ [a, b, c] := hk
    simp only [List.mem_cons, List.not_mem_nil, or_false] at hk
    rcases hk with rfl | rfl | rfl
    · exact h.1.1
    · exact h.1.2
    · exact h.2
  | word z => exact ⟨h, fun k hk => by cases hk⟩
  | cnt i => exact ⟨rfl, fun k hk => by cases hk⟩
  | ask1 o r => exact ⟨rfl, fun k hk => by cases hk⟩
  | ask2 o r q => exact ⟨rfl, fun k hk => by cases hk⟩
theorem kid_dep {nd k : Nd} (h : k ∈ nd.kids) : k.dep + 1 ≤ nd.dep ∧ sumL nd.kids + 1 = nd.size := by
  cases nd with
  | no a => rw [List.mem_singleton.mp h]; exact ⟨Nat.le_refl _, by simp [sumL, Nd.kids, Nd.size]⟩
  | iff a b c =>
    have hk : k ∈ [a, b, c] := h
    simp only [List.mem_cons, List.not_mem_nil, or_false] at hk
    refine ⟨?_, by simp [sumL, Nd.kids, Nd.size]; omega⟩
    rcases hk with rfl | rfl | rfl <;> simp [Nd.dep] <;> omega
  | word z => cases h
  | cnt i => cases h
  | ask1 o r => cases h
  | ask2 o r q => cases h
end Ab
namespace Ab
open PySem.Spec PyProof.Rows
theorem sumL_app (a b : List Nd) : sumL (a ++ b) = sumL a + sumL b := by simp [sumL]
section
variable {P : Program} {w : World} {K : PySem.W.Frag} {mg : Str → Option Value} {base : Heap}
abbrev sNumbered : Stmt := top 48
abbrev nNumbered : List Str := ["node", "number", "rows", "numbers", "part", "at", "head"]
theorem scNumbered : FnScope nNumbered ["node", "number"] (defScope sNumbered) := ⟨rfl, rfl, rfl, by decide +kernel, rfl, by decide +kernel, by decide +kernel⟩
def spNumb (K : PySem.W.Frag) (n : Nat) : Sp := fun vs H Q _ => ∃ (v : V) (nd : Nd) (i : Nat), vs = [v, .int (i : Int)] ∧ Dp K H v nd.d ∧ nd.wdA = true ∧ nd.dep ≤ n ∧ nd.size ≤ 16 ∧
  ∀ L ys H', Same H H' → H L = none → H' L = some (.lst ys) → DpAll K H' ys (nd.rows i) → Q (.ref L) H'
theorem ok_numb (T : Txt K mg) (D : DefAt K mg "_numbered" sNumbered ["node", "number"]) (CParts : CalG P w K mg base 1 "_parts" (spPartsN K)) : ∀ n, CalG P w K mg base (n + 2) "_numbered" (spNumb K n)
  | 0 => D.by scNumbered (fun vs H Q E h => by obtain ⟨_, _, _, rfl, _⟩ := h; rfl) (fun f cd A hg outer s H vs Q E hr h => by
    obtain ⟨_, nd, _, _, _, _, h, _⟩ := h
    have := dep_pos nd
    omega)
  | n + 1 => by
    have CNumbered := ok_numb T D CParts n
    refine D.by scNumbered (fun vs H Q E h => ?_) (fun f cd A hg outer s H vs Q E hr h => ?_)
    · obtain ⟨_, _, _, rfl, _⟩ := h
      rfl
    · obtain ⟨v, nd, i, rfl, dp, wda, hdep, hsz, q⟩ := h
      obtain ⟨wd, wdk⟩ := wdA_wd wda
      refine ⟨_, (pss_cons (ps_set (i := 2) scNumbered.nd rfl (Or.inl rfl) (pe_lst pa_nil))
  (pss_cons (ps_set (i := 3) scNumbered.nd rfl (Or.inl rfl) (pe_lst pa_nil))
  (pss_cons (ps_for (wi := iTup K _) PassesOwn.never rfl (pi_tup (pe_cG CParts hg hr (by omega) (pa_cons (pv 0) pa_nil))) (pg_name (i := 4) scNumbered.nd rfl (Or.inl rfl))
  (pss_cons (ps_set (i := 5) scNumbered.nd rfl (Or.inl rfl) (pe_op op_add (pe_op op_add (pv 1) pe_int) (pe_callB (r := Rd.rLenK K) Rd.callLen (by rfl) T.len PySem.boot_len (pa_cons (pv 2) pa_nil))))
  (pss_cons (ps_expr (pe_bm PySem.F.plainAttrs_list PySem.F.slot_list_append PySem.F.type_list_append mt_append (pv 3) (pa_cons (pv 5) pa_nil)))
  (pss_one (ps_expr (pe_bm PySem.F.plainAttrs_list PySem.F.slot_list_extend PySem.F.type_list_extend mt_extend (pv 2) (pa_cons (pe_cG CNumbered hg hr (by omega) (pa_cons (pv 4) (pa_cons (pv 5) pa_nil))) pa_nil)))))))
  (pss_cons (ps_set (i := 6) scNumbered.nd rfl (Or.inl rfl) (pe_ifExp (Rd.ptTru (K := K) rfl (pt_truth (pv 3) (by intro _; rfl))) (pe_tup (pa_cons (pe_ix (r := rIxT K) ix_tup (pv 0) pe_int (fun _ _ => rfl)) (StX.pa_star (pv 3) pa_nil))) (pv 0)))
  (pss_one (ps_ret (pe_lst (pa_cons (pv 6) (StX.pa_star (pv 2) pa_nil))))))))), ?_⟩
      repeat walk_at "rd"
      refine ⟨Rd.sz (by simp), fun R hR => ?_⟩
      have s1 := Rd.sNew (o := .lst []) hR
      have r1 : upd H R (.lst []) R = some (.lst []) := upd_same
      generalize upd H R (.lst []) = H1 at s1 r1 ⊢
      repeat walk_at "rd"
      refine ⟨Rd.sz (by simp), fun N hN => ?_⟩
      have s2 := Rd.sNew (o := .lst []) hN
      have n2 : upd H1 N (.lst []) N = some (.lst []) := upd_same
      have r2 := s2 _ _ r1
      have RN : R ≠ N := fun e => by rw [← e, r1] at hN; cases hN
      have nN : H N = none := by
        cases z : H N with
        | none => rfl
        | some u => rw [s1 _ _ z] at hN; cases hN
      have s12 := s1.trans s2
      generalize upd H1 N (.lst []) = H2 at s2 n2 r2 s12 ⊢
      repeat walk_at "rd"
      refine forT ?_
      repeat walk_at "rd"
      refine ⟨v, nd, rfl, dp_mono s12 dp, wd, fun pa xs H3 s3 ha hd => ?_⟩
      have lk := dpa_len hd
      rw [List.length_map] at lk
      refine ⟨pa, rfl, ⟨_, ha⟩, ?_⟩
      refine for_tup (K := K) (a := pa) (xs := xs) (fun j σ H' => ∃ z4 z5 ys, σ = [some v, some (.int (i : Int)), some (.ref R), some (.ref N), z4, z5, none] ∧ Same H H' ∧ SqT K H' pa xs ∧ DpAll K H' xs (nd.kids.map Nd.d) ∧ H' R = some (.lst ys) ∧
        DpAll K H' ys (rowsL (i + 1) (nd.kids.take j)) ∧ H' N = some (.lst ((numsL (i + 1) (nd.kids.take j)).map fun n : Nat => V.int (n : Int)))) ⟨_, _, [], rfl, s12.trans s3, ha, hd, s3 _ _ r2, .nil, s3 _ _ n2⟩ ?_ ?_ ?_
      · rintro j σ H' _ ⟨_, _, _, _, _, h, _⟩
        exact h
      · rintro j x σ H4 hx ⟨z4, z5, ys, rfl, s4, ha4, hd4, r4, dr4, n4⟩
        have hj : j < nd.kids.length := by
          have := (List.getElem?_eq_some_iff.mp hx).1
          omega
        have dk : Dp K H4 x (nd.kids[j]).d := dpa_get hd4 hx (by rw [List.getElem?_map, List.getElem?_eq_getElem hj]; rfl)
        have km : nd.kids[j] ∈ nd.kids := List.getElem_mem hj
        have ylen := dpa_len dr4
        rw [rowsL_len] at ylen
        have tk : nd.kids.take (j + 1) = nd.kids.take j ++ [nd.kids[j]] := by rw [List.take_add_one, List.getElem?_eq_getElem hj]; rfl
        obtain ⟨kdep, ksum⟩ := kid_dep km
        have kw := wdk _ km
        have tot : sumL (nd.kids.take j) + (nd.kids[j]).size ≤ sumL nd.kids := by
          have : sumL nd.kids = sumL (nd.kids.take (j + 1)) + sumL (nd.kids.drop (j + 1)) := by
            rw [← sumL_app, List.take_append_drop]
          rw [tk, sumL_snoc] at this
          omega
        generalize nd.kids[j] = k at dk km tk kdep kw tot
        have nlen : (numsL (i + 1) (nd.kids.take j)).length ≤ 100 := by
          rw [numsL_len, List.length_take]
          have : nd.kids.length ≤ 3 := by cases nd <;> simp [Nd.kids]
          omega
        repeat walk_at "rd"
        have at_ : (i : Int) + 1 + (ys.length : Int) = ((i + 1 + sumL (nd.kids.take j) : Nat) : Int) := by rw [ylen]; omega
        rw [at_]
        refine ⟨Rd.ty_list n4, ?_⟩
        repeat walk_at "rd"
        refine Rd.app n4 (by rw [List.length_map]; exact Rd.szl (by omega)) ?_
        have k5 : Keep N H4 (upd H4 N (.lst ((numsL (i + 1) (nd.kids.take j)).map (fun n : Nat => V.int (n : Int)) ++ [.int ((i + 1 + sumL (nd.kids.take j) : Nat) : Int)]))) := Keep.put (fun _ _ _ e => e)
        have nt4 := nt_lst n4
        have n5 : upd H4 N (.lst ((numsL (i + 1) (nd.kids.take j)).map (fun n : Nat => V.int (n : Int)) ++ [.int ((i + 1 + sumL (nd.kids.take j) : Nat) : Int)])) N = some (.lst ((numsL (i + 1) (nd.kids.take (j + 1))).map fun n : Nat => V.int (n : Int))) := by
          rw [upd_same, tk, numsL_snoc, List.map_append]
          rfl
        have r5 := k5 _ _ RN r4
        have s5 : Same H (upd H4 N (.lst ((numsL (i + 1) (nd.kids.take j)).map (fun n : Nat => V.int (n : Int)) ++ [.int ((i + 1 + sumL (nd.kids.take j) : Nat) : Int)]))) := Rd.sMut s4 nN
        have ha5 := sqT_keep k5 nt4 ha4
        have kidsNL : noListA (nd.kids.map Nd.d) = true := by
          generalize nd.kids = l
          induction l with
          | nil => rfl
          | cons a l ih =>
            show (noList a.d && noListA (l.map Nd.d)) = true
            rw [nd_noList, ih]; rfl
        have hd5 := dpa_keepT k5 nt4 hd4 kidsNL
        have dr5 := dpa_keepT k5 nt4 dr4 (rowsL_noList _ _)
        have dk5 := dp_keepT k5 nt4 dk (nd_noList _)
        generalize upd H4 N (.lst ((numsL (i + 1) (nd.kids.take j)).map (fun n : Nat => V.int (n : Int)) ++ [.int ((i + 1 + sumL (nd.kids.take j) : Nat) : Int)])) = H5 at k5 n5 r5 s5 ha5 hd5 dr5 dk5 ⊢
        repeat walk_at "rd"
        refine ⟨Rd.ty_list r5, ?_⟩
        repeat walk_at "rd"
        refine ⟨x, k, i + 1 + sumL (nd.kids.take j), rfl, dk5, kw, by omega, by omega, fun L zs H6 s6 _ hL dz => ?_⟩
        have r6 := s6 _ _ r5
        have zl := dpa_len dz
        rw [rows_len] at zl
        repeat walk_at "rd"
        refine ⟨R, L, ys, zs, rfl, rfl, r6, hL, Nat.le_of_lt (Rd.szl (by omega)), ?_⟩
        have k7 : Keep R H6 (upd H6 R (.lst (ys ++ zs))) := Keep.put (fun _ _ _ e => e)
        have nt6 := nt_lst r6
        repeat walk_at "rd"
        refine ⟨_, _, ys ++ zs, rfl, Rd.sMut (s5.trans s6) hR, sqT_keep k7 nt6 (sqT_same s6 ha5), dpa_keepT k7 nt6 (dpa_mono s6 hd5) kidsNL, upd_same, ?_, k7 _ _ (fun e => RN e.symm) (s6 _ _ n5)⟩
        rw [tk, rowsL_snoc]
        refine dpa_app (dpa_keepT k7 nt6 (dpa_mono s6 dr5) (rowsL_noList _ _)) (dpa_keepT k7 nt6 dz (rows_noList _ _))
      · rintro σ H4 ⟨z4, z5, ys, rfl, s4, ha4, hd4, r4, dr4, n4⟩
        rw [lk, List.take_length] at dr4 n4
        have dp4 := dp_mono s4 dp
        obtain ⟨p, hx, ds, rfl, hs, hh, he, hk⟩ := nd_at dp4
        have ylen := dpa_len dr4
        rw [rowsL_len] at ylen
        have fin : ∀ (hv : V) H5, Same H4 H5 → Dp K H5 hv (nd.headD i) → ∀ L, H5 L = none → Q (.ref L) (upd H5 L (.lst (hv :: (ys ++ [])))) := fun hv H5 s5 dh L hL => by
          rw [List.append_nil]
          have s6 := Rd.sNew (o := .lst (hv :: ys)) hL
          refine q L _ _ ((s4.trans s5).trans s6) ?_ upd_same ?_
          · cases z : H L with
            | none => rfl
            | some u => rw [s5 _ _ (s4 _ _ z)] at hL; cases hL
          · rw [rows_eq]
            exact .cons (dp_mono s6 dh) (dpa_mono (s5.trans s6) dr4)
        repeat walk_at "rd"
        refine Rd.bool (fun c => ?_) (fun c => ?_)
        · have ne : nd.kids ≠ [] := fun e => by rw [e] at c; cases c
          repeat walk_at "rd"
          refine Rd.ixT hs (Rd.atN (by decide) rfl) ?_
          refine starT ?_
          repeat walk_at "rd"
          refine ⟨N, _, rfl, .inr (SqL.of n4), ?_⟩
          have nlen : (numsL (i + 1) nd.kids).length ≤ 100 := by
            rw [numsL_len]
            have : nd.kids.length ≤ 3 := by cases nd <;> simp [Nd.kids]
            omega
          repeat walk_at "rd"
          rw [List.append_nil]
          refine ⟨Rd.sz (by rw [List.length_cons, List.length_map]; omega), fun t ht => ?_⟩
          have s5 := Rd.sNew (o := .tup (.str nd.head :: (numsL (i + 1) nd.kids).map fun n : Nat => V.int (n : Int))) ht
          have dh : Dp K (upd H4 t (.tup (.str nd.head :: (numsL (i + 1) nd.kids).map fun n : Nat => V.int (n : Int)))) (.ref t) (nd.headD i) := by
            rw [Nd.headD, if_neg ne]
            exact .tup (.inl (.inl upd_same)) (.cons (.str _) (dpa_ints _))
          generalize upd H4 t (.tup (.str nd.head :: (numsL (i + 1) nd.kids).map fun n : Nat => V.int (n : Int))) = H5 at s5 dh ⊢
          repeat walk_at "rd"
          refine starT ?_
          repeat walk_at "rd"
          refine ⟨R, ys, rfl, .inr (SqL.of (s5 _ _ r4)), ?_⟩
          repeat walk_at "rd"
          refine ⟨Rd.sz ?_, fun L hL => fin _ H5 s5 dh L hL⟩
          obtain ⟨_, ks⟩ := kid_dep (List.head_mem ne)
          rw [List.length_cons, List.length_append]
          simp only [List.length_nil]
          omega
        · have ne : nd.kids = [] := by
            cases z : nd.kids with
            | nil => rfl
            | cons a l => rw [z] at c; cases c
          have dh : Dp K H4 (.ref p) (nd.headD i) := by
            rw [Nd.headD, if_pos ne]
            exact dp4
          repeat walk_at "rd"
          refine starT ?_
          repeat walk_at "rd"
          refine ⟨R, ys, rfl, .inr (SqL.of r4), ?_⟩
          repeat walk_at "rd"
          refine ⟨Rd.sz ?_, fun L hL => fin _ H4 (Same.refl _) dh L hL⟩
          rw [ne] at ylen
          have : sumL [] = 0 := rfl
          rw [List.length_cons, List.length_append]
          simp only [List.length_nil]
          omega
end
end Ab
namespace Ab
open PySem.Spec PyProof.Rows
/-! ### the same, by recursion -/
def foldW (g : PyData → Bool → Nat → Option Nat × Nat) : List (PyData × Bool) → Nat → Option Nat × Nat
  | [], k => (none, k)
  | p :: r, k => match g p.1 p.2 k with
    | (some n, k') => (some n, k')
    | (none, k') => foldW g r k'
/-- f levels are left, k numbers -/
def wrF (m : Str) : Nat → PyData → Bool → Nat → Option Nat × Nat
  | 0, _, _, k => (some (16 - k), k)
  | f + 1, d, t, k => if k = 0 ∨ nodeD m t d = false then (some (16 - k), k) else foldW (wrF m f) ((kidsD d).zip (tailsD t d)) (k - 1)
def onW (m : Str) (st : List Wt) : Option Nat × Nat → Option Nat
  | (some n, _) => some n
  | (none, k) => goW m k st
theorem goW_wr (m : Str) : ∀ (f : Nat), f ≤ 6 → ∀ (d : PyData) (t : Bool) (k : Nat) (st : List Wt), goW m k ((d, 7 - f, t) :: st) = onW m st (wrF m f d t k)
  | 0, _, d, t, k, st => by
    cases k with
    | zero => rfl
    | succ k =>
      rw [goW, if_neg (fun h => absurd h.1 (by show ¬ (7 ≤ 6); decide))]
      rfl
  | f + 1, hf, d, t, k, st => by
    have ih := goW_wr m f (by omega)
    have fold : ∀ (l : List (PyData × Bool)) (k : Nat) (st : List Wt), goW m k (l.map (fun p => ((p.1, 7 - f, p.2) : Wt)) ++ st) = onW m st (foldW (wrF m f) l k) := by
      intro l
      induction l with
      | nil => intro k st; rfl
      | cons p r ihl =>
        intro k st
        rw [List.map_cons, List.cons_append, ih, foldW]
        cases e : wrF m f p.1 p.2 k with
        | mk a k' =>
          cases a with
          | none =>
            show goW m k' _ = _
            rw [ihl]
          | some n => rfl
    rw [wrF]
    cases k with
    | zero => rw [if_pos (.inl rfl)]; rfl
    | succ k =>
      rw [goW]
      by_cases h : nodeD m t d = true
      · rw [if_pos ⟨by show 7 - (f + 1) ≤ 6; omega, h⟩, if_neg (fun z => z.elim (fun e => absurd e (Nat.succ_ne_zero k)) (fun e => by rw [h] at e; cases e))]
        have e : kidsZ (d, 7 - (f + 1), t) = ((kidsD d).zip (tailsD t d)).map (fun p => ((p.1, 7 - f, p.2) : Wt)) := by
          unfold kidsZ
          have : 7 - (f + 1) + 1 = 7 - f := by omega
          show ((kidsD d).zip (tailsD t d)).map (fun p => ((p.1, 7 - (f + 1) + 1, p.2) : Wt)) = _
          rw [this]
        rw [e]
        exact fold _ _ _
      · have h' : nodeD m t d = false := by cases z : nodeD m t d with
          | true => exact absurd z h
          | false => rfl
        rw [if_neg (fun z => h z.2), if_pos (.inr h')]
        rfl
theorem goW_top (m : Str) (d : PyData) : goW m 16 [(d, 1, true)] = (wrF m 6 d true 16).1 := by
  have h := goW_wr m 6 (Nat.le_refl _) d true 16 []
  rw [show ((d, 7 - 6, true) : Wt) = (d, 1, true) from rfl] at h
  rw [h]
  cases e : wrF m 6 d true 16 with
  | mk a k =>
    cases a with
    | none => show goW m k [] = none; cases k <;> rfl
    | some n => rfl
theorem inD_str {ws : List Str} {d : PyData} (h : inD ws d = true) : ∃ z, d = .str z ∧ z ∈ ws := by
  cases d with
  | str z => exact ⟨z, rfl, of_decide_eq_true h⟩
  | _ => cases h
theorem roleD_str {m : Str} {d : PyData} (h : roleD m d = true) : ∃ z, d = .str z ∧ z ∈ rolesOf m := by
  cases d with
  | str z => exact ⟨z, rfl, of_decide_eq_true h⟩
  | _ => cases h
/-- what has no wrong node is a right body -/
theorem wr_nd (m : Str) : ∀ (f : Nat) (d : PyData) (t : Bool) (k k' : Nat), wrF m f d t k = (none, k') → ∃ nd : Nd, d = nd.d ∧ nd.all m t = true ∧ nd.dep ≤ f ∧ nd.size + k' = k
  | 0, d, t, k, k', h => by rw [wrF] at h; cases h
  | f + 1, d, t, k, k', h => by
    have ih := wr_nd m f
    rw [wrF] at h
    by_cases c : k = 0 ∨ nodeD m t d = false
    · rw [if_pos c] at h; cases h
    · rw [if_neg c] at h
      have k0 : k ≠ 0 := fun e => c (.inl e)
      have nt : nodeD m t d = true := by
        cases z : nodeD m t d with
        | true => rfl
        | false => exact absurd (.inr z) c
      match d, nt, h with
      | .tuple (.str w :: ds), nt, h =>
        have nt : wordD m w ds t = true := nt
        have h : foldW (wrF m f) ((if w ∈ partW then ds else []).zip (tailsW w t)) (k - 1) = (none, k') := h
        by_cases wn : w = "not"
        · subst wn
          rw [wordD, if_pos rfl] at nt
          rw [if_pos (by decide +kernel), tailsW, if_neg (by decide +kernel), if_pos rfl] at h
          match ds, nt, h with
          | [c], _, h =>
            have h : (match wrF m f c false (k - 1) with | (some n, k') => (some n, k') | (none, k') => (none, k')) = ((none : Option Nat), k') := h
            cases e : wrF m f c false (k - 1) with
            | mk a k2 =>
              rw [e] at h
              cases a with
              | some n => cases h
              | none =>
                cases h
                obtain ⟨nd, rfl, h1, h2, h3⟩ := ih _ _ _ _ e
                exact ⟨.no nd, rfl, h1, by show nd.dep + 1 ≤ f + 1; omega, by show nd.size + 1 + k' = k; omega⟩
          | [], nt, _ => exact absurd nt (by decide)
          | _ :: _ :: _, nt, _ => exact absurd nt (by simp)
        · by_cases wi : w = "if"
          · subst wi
            rw [wordD, if_neg (by decide +kernel), if_pos rfl] at nt
            rw [if_pos (by decide +kernel), tailsW, if_pos rfl] at h
            match ds, nt, h with
            | [c1, c2, c3], _, h =>
              have h : foldW (wrF m f) [(c1, false), (c2, t), (c3, t)] (k - 1) = (none, k') := h
              rw [foldW] at h
              cases e1 : wrF m f c1 false (k - 1) with
              | mk a k2 =>
                rw [e1] at h
                cases a with
                | some n => cases h
                | none =>
                  have h : foldW (wrF m f) [(c2, t), (c3, t)] k2 = (none, k') := h
                  rw [foldW] at h
                  cases e2 : wrF m f c2 t k2 with
                  | mk a k3 =>
                    rw [e2] at h
                    cases a with
                    | some n => cases h
                    | none =>
                      have h : foldW (wrF m f) [(c3, t)] k3 = (none, k') := h
                      rw [foldW] at h
                      cases e3 : wrF m f c3 t k3 with
                      | mk a k4 =>
                        rw [e3] at h
                        cases a with
                        | some n => cases h
                        | none =>
                          have h : ((none : Option Nat), k4) = (none, k') := h
                          cases h
                          obtain ⟨n1, rfl, a1, a2, a3⟩ := ih _ _ _ _ e1
                          obtain ⟨n2, rfl, b1, b2, b3⟩ := ih _ _ _ _ e2
                          obtain ⟨n3, rfl, d1, d2, d3⟩ := ih _ _ _ _ e3
                          refine ⟨.iff n1 n2 n3, rfl, ?_, ?_, ?_⟩
                          · show (n1.all m false && n2.all m t && n3.all m t) = true
                            rw [a1, b1, d1]; rfl
                          · show max n1.dep (max n2.dep n3.dep) + 1 ≤ f + 1; omega
                          · show n1.size + n2.size + n3.size + 1 + k' = k; omega
            | [], nt, _ => exact absurd nt (by decide)
            | [_], nt, _ => exact absurd nt (by simp)
            | [_, _], nt, _ => exact absurd nt (by simp)
            | _ :: _ :: _ :: _ :: _, nt, _ => exact absurd nt (by simp)
          · rw [wordD, if_neg wn, if_neg wi] at nt
            rw [if_neg (show w ∉ partW by simp only [partW, List.mem_cons, List.not_mem_nil, or_false, not_or]; exact ⟨wn, wi⟩), List.zip_nil_left, foldW] at h
            have h : k - 1 = k' := by cases h; rfl
            by_cases wc : w = "count"
            · subst wc
              rw [if_pos rfl] at nt
              match ds, nt with
              | [c], nt =>
                cases c with
                | int i => exact ⟨.cnt i, rfl, nt, by show 1 ≤ f + 1; omega, by show 1 + k' = k; omega⟩
                | _ => cases nt
              | [], nt => cases nt
              | _ :: _ :: _, nt => cases nt
            · rw [if_neg wc] at nt
              by_cases wa : w = "ask"
              · subst wa
                rw [if_pos rfl] at nt
                match ds, nt with
                | [o, r], nt =>
                  have nt : (inD askOne o && roleD m r) = true := nt
                  rw [Bool.and_eq_true] at nt
                  obtain ⟨o, rfl, ho⟩ := inD_str nt.1
                  obtain ⟨r, rfl, hr⟩ := roleD_str nt.2
                  refine ⟨.ask1 o r, rfl, ?_, by show 1 ≤ f + 1; omega, by show 1 + k' = k; omega⟩
                  show (decide (o ∈ askOne) && decide (r ∈ rolesOf m)) = true
                  rw [decide_eq_true ho, decide_eq_true hr]; rfl
                | [o, r, q], nt =>
                  have nt : (inD askTwo o && roleD m r && roleD m q && !(PyData.eqv r q)) = true := nt
                  simp only [Bool.and_eq_true] at nt
                  obtain ⟨o, rfl, ho⟩ := inD_str nt.1.1.1
                  obtain ⟨r, rfl, hr⟩ := roleD_str nt.1.1.2
                  obtain ⟨q, rfl, hq⟩ := roleD_str nt.1.2
                  have ne := nt.2
                  rw [eqv_str] at ne
                  have ne : r ≠ q := by simpa using ne
                  refine ⟨.ask2 o r q, rfl, ?_, by show 1 ≤ f + 1; omega, by show 1 + k' = k; omega⟩
                  show (decide (o ∈ askTwo) && decide (r ∈ rolesOf m) && decide (q ∈ rolesOf m) && decide (r ≠ q)) = true
                  rw [decide_eq_true ho, decide_eq_true hr, decide_eq_true hq, decide_eq_true ne]; rfl
                | [], nt => cases nt
                | [_], nt => cases nt
                | _ :: _ :: _ :: _ :: _, nt => cases nt
              · rw [if_neg wa, Bool.and_eq_true] at nt
                match ds, nt with
                | [], nt => exact ⟨.word w, rfl, nt.2, by show 1 ≤ f + 1; omega, by show 1 + k' = k; omega⟩
                | _ :: _, nt => exact absurd nt.1 (by simp)
theorem goW_none {m : Str} {d : PyData} (h : goW m 16 [(d, 1, true)] = none) : ∃ nd : Nd, d = nd.d ∧ nd.all m true = true ∧ nd.dep ≤ 6 ∧ nd.size ≤ 16 := by
  rw [goW_top] at h
  cases e : wrF m 6 d true 16 with
  | mk a k =>
    rw [e] at h
    cases (show a = none from h)
    obtain ⟨nd, h1, h2, h3, h4⟩ := wr_nd m 6 d true 16 k e
    exact ⟨nd, h1, h2, h3, by omega⟩
end Ab
namespace Rd
open PySem.Spec PyProof.Rows
section
variable {K : PySem.W.Frag} {σ : L2.St} {H : Hp} {Q : VK} {D : Ends} {n : Nat} {a C dx : Addr} {fs : List (Str × V)} {f : Str} {v : V} {ta tb tv td ty : TE} {t : TA} {sp : Sp} {E : XK}
theorem fldV (h : σ[n]? = some (some (.ref a))) (e : H a = some (.ins C dx fs)) (c : L2.Cls K C) (na : NoAttr K C f) (l : fs.lookup f = some v) (k : Q v H) : tFld K (tVar n) f σ H Q := ⟨.ref a, h, a, C, dx, fs, v, rfl, e, c, na, l, k⟩
theorem sfld (k : tv σ H fun y H1 => ta σ H1 fun x H2 => ∃ a C dx fs, x = .ref a ∧ H2 a = some (.ins C dx fs) ∧ L2.Cls K C ∧ NoAttr K C f ∧ fs.length < 1000 ∧ D.nx σ (upd H2 a (.ins C dx (putF f y fs)))) : sFld K ta tv f D σ H := k
theorem dget (k : td σ H fun x H1 => ty σ H1 fun y H2 => ∃ a v, x = .ref a ∧ DGet H2 a y (some v) ∧ Q v H2) : tDGet td ty σ H Q := k
theorem methR {m : Str} (k : ta σ H fun x H1 => ∃ a dx fs, x = .ref a ∧ H1 a = some (.ins C dx fs) ∧ fs.lookup m = none ∧ t σ H1 fun vs H2 => sp (x :: (vs ++ [])) H2 Q E) : tMeth C m sp [] E ta t σ H Q := k
theorem propR (k : ta σ H fun x H1 => ∃ a dx fs, x = .ref a ∧ H1 a = some (.ins C dx fs) ∧ sp [.ref a] H1 Q E) : tProp C sp [] E ta σ H Q := k
theorem statR (k : ta σ H fun x H1 => x = .ref C ∧ sp [] H1 Q E) : Ob.tStat C sp E ta σ H Q := k
theorem getR (k : ta σ H fun x H1 => tb σ H1 fun y H2 => ∃ a dx fs, x = .ref a ∧ H2 a = some (.ins C dx fs) ∧ sp [.ref a, y] H2 Q E) : Ow.tGetO C sp E ta tb σ H Q := k
theorem makeR (k : t σ H fun vs H1 => ∀ x dx, H1 x = none → H1 dx = none → dx ≠ x → sp (.ref x :: (vs ++ [])) (upd (upd H1 dx (.own x)) x (.ins C dx [])) (fun v H2 => v = .non ∧ Q (.ref x) H2) E) : tMake C sp [] E t σ H Q := k
end
end Rd
namespace Ab
open PySem.Spec PyProof.Rows
local macro_rules | `(tactic| walk_at "rd") => `(tactic| (with_reducible first | refine Rd.tt_ ?_ | refine Rd.ff_ ?_ | refine Rd.sfld ?_ | refine Rd.dget ?_ | refine Rd.methR ?_ | refine Rd.propR ?_ | refine Rd.getR ?_))
structure BdF (K : PySem.W.Frag) (mg : Str → Option Value) (C : Addr) : Prop extends Ob.CF K mg "Body" C where
  n1 : NoAttr K C "method"
  n2 : NoAttr K C "expression"
  n3 : NoAttr K C "_nodes"
/-- a body in the heap -/
structure BdA (K : PySem.W.Frag) (C : Addr) (H : Hp) (b L : Addr) (m : Str) (v : V) (nd : Nd) : Prop where
  ins : ∃ dx, H b = some (.ins C dx [("method", .str m), ("expression", v), ("_nodes", .ref L)])
  dp : Dp K H v nd.d
theorem BdA.mono {K : PySem.W.Frag} {C : Addr} {H H' : Hp} {b L : Addr} {m : Str} {v : V} {nd : Nd} (k : BdA K C H b L m v nd) (s : Same H H') : BdA K C H' b L m v nd :=
  ⟨let ⟨dx, h⟩ := k.ins; ⟨dx, s _ _ h⟩, dp_mono s k.dp⟩
/-- a right body for m -/
structure BdOk (m : Str) (nd : Nd) : Prop where
  mm : m ∈ methods
  kk : kindOf m ∈ bodyKinds
  all : nd.all m true = true
  size : nd.size ≤ 16
  dep : nd.dep ≤ 6
theorem all_wdA {m : Str} : ∀ (nd : Nd) (t : Bool), nd.all m t = true → nd.wdA = true
  | .no a, t, h => all_wdA a false h
  | .iff a b c, t, h => by
    have h : (a.all m false && b.all m t && c.all m t) = true := h
    rw [Bool.and_eq_true, Bool.and_eq_true] at h
    show (a.wdA && b.wdA && c.wdA) = true
    rw [all_wdA a _ h.1.1, all_wdA b _ h.1.2, all_wdA c _ h.2]
    rfl
  | .word z, t, h => top_wd (nd := .word z) h
  | .cnt _, _, _ => rfl
  | .ask1 _ _, _, _ => rfl
  | .ask2 _ _ _, _, _ => rfl
section
variable {P : Program} {w : World} {K : PySem.W.Frag} {mg : Str → Option Value} {base : Heap}
def bodyM : List Str := ["truth", "length", "has", "like", "unlike", "before", "behind", "hash"]
theorem bodyM_iff : ∀ m ∈ methods, (kindOf m ∈ bodyKinds ↔ m ∈ bodyM) := by decide +kernel
theorem bodyM_in : ∀ m ∈ bodyM, m ∈ methods := by decide +kernel
/-- an error out of the class at C, that keeps v as its f -/
def OutF (C : Addr) (f : Str) (v : V) (H : Hp) (E : XK) : Prop := ∀ d, H d = none → E (.ref C) (some d) (upd H d (.xd [(f, v)]))
abbrev sCheck_body_method : Stmt := top 40
abbrev nCheck_body_method : List Str := ["method"]
theorem scCheck_body_method : FnScope nCheck_body_method ["method"] (defScope sCheck_body_method) := ⟨rfl, rfl, rfl, by decide +kernel, rfl, by decide +kernel, by decide +kernel⟩
def spCheckB (K : PySem.W.Frag) (C : Addr) : Sp := fun vs H Q E => ∃ (v : V) (tn : String), vs = [v] ∧ Kd K H v tn ∧ (isIn v bodyM = true → Q .non H) ∧ (isIn v bodyM = false → OutF C "value" v H E)
theorem ok_checkB (T : Txt K mg) {C p_BODY_KINDS : Addr} (g_BODY_KINDS : mg "BODY_KINDS" = some (.ref p_BODY_KINDS)) (tB : ∀ H, SqT K H p_BODY_KINDS (bodyKinds.map V.str)) (T_NoName : Ex.ErrC K mg "NoName" "value" C) (M_NoName : Ex.InitOk P w K mg base "value" C)
    (D : DefAt K mg "check_body_method" sCheck_body_method ["method"]) (CKind_of : Ex.CalX P w K mg base 4 "kind_of" (spKind K C)) : Ex.CalX P w K mg base 5 "check_body_method" (spCheckB K C) := by
  refine Ex.byX D scCheck_body_method (fun vs H Q E h => ?_) (fun f cd A hg outer s H vs Q E hr h => ?_)
  · obtain ⟨_, _, rfl, _⟩ := h
    rfl
  · obtain ⟨v, tn, rfl, kd, q1, q2⟩ := h
    refine ⟨_, (pss_one (ps_if (pt_cmpR (r := rIn K true) op_notIn_seq (Ex.pe_x CKind_of hg hr (by decide) (takes_of rfl rfl rfl rfl) (pa_cons (pv 0) pa_nil)) (pe_glob (v := .ref p_BODY_KINDS) (by rfl) g_BODY_KINDS rfl) (by rfl))
  (pss_one (ps_raise rfl (takes_of rfl rfl rfl rfl) (Ex.pmkE T_NoName M_NoName hr (by decide) (pa_cons (pv 0) pa_nil))))
  pss_nil)), ?_⟩
    repeat walk_at "rd"
    refine ⟨v, tn, rfl, kd, fun z ez hm => ?_, fun c => ?_⟩
    · subst ez
      have iff := bodyM_iff z hm
      repeat walk_at "rd"
      refine inT (tB _) rfl (flat_strs _) ?_
      rw [if_pos rfl, inV_str]
      refine ⟨_, rfl, ?_⟩
      refine Rd.ndec (fun c => ?_) (fun c => ?_)
      · repeat walk_at "rd"
        refine Ex.mk ?_
        repeat walk_at "rd"
        exact Ex.made (q2 (decide_eq_false fun z => c (iff.mpr z)))
      · repeat walk_at "rd"
        exact q1 (decide_eq_true (iff.mp c))
    · have e : isIn v bodyM = false := by
        cases v with
        | str z => exact decide_eq_false fun h => (show z ∉ methods from of_decide_eq_false c) (bodyM_in z h)
        | _ => rfl
      exact q2 e
abbrev sBody___init__ : Stmt := meth 49 0
abbrev nBody___init__ : List Str := ["self", "method", "expression", "place"]
theorem scBody___init__ : FnScope nBody___init__ ["self", "method", "expression"] (defScope sBody___init__) := ⟨rfl, rfl, rfl, by decide +kernel, rfl, by decide +kernel, by decide +kernel⟩
def spBInit (K : PySem.W.Frag) (C CN CB : Addr) : Sp := fun vs H Q E => ∃ (b dx : Addr) (x v : V) (tn : String) (d : PyData), vs = [.ref b, x, v] ∧ H b = some (.ins C dx []) ∧ Kd K H x tn ∧ Dp K H v d ∧ Uni d ∧
  (isIn x bodyM = false → OutF CN "value" x H E) ∧
  ∀ m, x = .str m → m ∈ bodyM → (∀ n, goW m 16 [(d, 1, true)] = some n → ∀ H', Same H H' → OutF CB "place" (.int (n : Int)) H' E) ∧
    (goW m 16 [(d, 1, true)] = none → ∀ L H', Keep b H H' → H L = none → H' b = some (.ins C dx [("method", .str m), ("expression", v), ("_nodes", .ref L)]) → Q .non H')
set_option pp.maxSteps 3000 in
theorem ok_bdinit (T : Txt K mg) {C_Body C_NoName C_NoBody : Addr} (B : BdF K mg C_Body) (T_NoBody : Ex.ErrC K mg "NoBody" "place" C_NoBody) (M_NoBody : Ex.InitOk P w K mg base "place" C_NoBody) (CCheck_body_method : Ex.CalX P w K mg base 5 "check_body_method" (spCheckB K C_NoName))
    (CFirst_wrong : CalG P w K mg base 8 "_first_wrong" (spFirst K)) (CNumbered : CalG P w K mg base 8 "_numbered" (spNumb K 6)) {f : Addr} {fd : FuncData} (D : Ob.MethAt K "__init__" "Body.__init__" sBody___init__ ["self", "method", "expression"] f fd) :
    FnG P w K mg base (L2.CX P w) 9 f fd ["self", "method", "expression"] (spBInit K C_Body C_NoName C_NoBody) := by
  refine Ob.byGX D scBody___init__ (fun vs H Q E h => ?_) (fun cd A hg outer s H vs Q E hr h => ?_)
  · obtain ⟨_, _, _, _, _, _, rfl, _⟩ := h
    rfl
  · obtain ⟨b, dx, x, v, tn, d, rfl, hb, kd, dp, un, q1, q2⟩ := h
    refine ⟨_, (pss_cons (ps_expr (Ex.pe_x CCheck_body_method hg hr (by decide) (takes_of rfl rfl rfl rfl) (pa_cons (pv 1) pa_nil)))
  (pss_cons (ps_set (i := 3) scBody___init__.nd rfl (Or.inl rfl) (pe_cG CFirst_wrong hg hr (by decide) (pa_cons (pv 1) (pa_cons (pv 2) pa_nil))))
  (pss_cons (ps_if (pt_cmpR op_notN (pv 3) pe_non (nomark _))
  (pss_one (ps_raise rfl (takes_of rfl rfl rfl rfl) (Ex.pmkE T_NoBody M_NoBody hr (by decide) (pa_cons (pv 3) pa_nil))))
  pss_nil)
  (pss_cons (ps_fld (pv 0) (pv 1) (by rfl))
  (pss_cons (ps_fld (pv 0) (pv 2) (by rfl))
  (pss_one (ps_fld (pv 0) (pe_cG CNumbered hg hr (by decide) (pa_cons (pv 2) (pa_cons pe_int pa_nil))) (by rfl)))))))), ?_⟩
    repeat walk_at "rd"
    refine ⟨x, tn, rfl, kd, fun c => ?_, q1⟩
    obtain ⟨m, rfl, hm⟩ := isIn_str c
    obtain ⟨q2, q3⟩ := q2 m rfl hm
    have mm := bodyM_in m hm
    repeat walk_at "rd"
    refine ⟨v, m, d, rfl, dp, un, mm, fun H1 s1 => ?_⟩
    have hb1 := s1 _ _ hb
    have nt1 := nt_ins hb1
    repeat walk_at "rd"
    cases eg : goW m 16 [(d, 1, true)] with
    | some n =>
      refine Rd.ndec (fun c => ?_) (fun c => absurd c (by intro z; cases z))
      repeat walk_at "rd"
      refine Ex.mk ?_
      repeat walk_at "rd"
      exact Ex.made (q2 n eg H1 s1)
    | none =>
      refine Rd.ndec (fun c => absurd rfl c) (fun _ => ?_)
      obtain ⟨nd, rfl, al, dep, sz⟩ := goW_none eg
      have dp1 := dp_mono s1 dp
      repeat walk_at "rd"
      refine ⟨b, C_Body, dx, [], rfl, hb1, B.cl, B.n1, by decide, ?_⟩
      have e1 : putF "method" (.str m) [] = [(("method" : Str), V.str m)] := rfl
      rw [e1]
      repeat walk_at "rd"
      refine ⟨b, C_Body, dx, [("method", .str m)], rfl, upd_same, B.cl, B.n2, by simp, ?_⟩
      have e2 : putF "expression" v [(("method" : Str), V.str m)] = [(("method" : Str), V.str m), ("expression", v)] := rfl
      rw [e2, upd_upd]
      have k2 : Keep b H1 (upd H1 b (.ins C_Body dx [("method", .str m), ("expression", v)])) := Keep.put (fun _ _ _ e => e)
      have dp2 := nd_keep k2 nt1 _ _ dp1
      have hb2 : upd H1 b (.ins C_Body dx [("method", .str m), ("expression", v)]) b = some (.ins C_Body dx [("method", .str m), ("expression", v)]) := upd_same
      have k02 : Keep b H (upd H1 b (.ins C_Body dx [("method", .str m), ("expression", v)])) := (Keep.same s1).put
      generalize upd H1 b (.ins C_Body dx [("method", .str m), ("expression", v)]) = H2 at k2 dp2 hb2 k02 ⊢
      repeat walk_at "rd"
      refine ⟨v, nd, 0, rfl, dp2, all_wdA nd true al, dep, sz, fun L ys H4 s4 nL hL dy => ?_⟩
      have hb4 := s4 _ _ hb2
      have bL : L ≠ b := fun e => by rw [e, hb4] at hL; cases hL
      repeat walk_at "rd"
      refine ⟨b, C_Body, dx, [("method", .str m), ("expression", v)], rfl, hb4, B.cl, B.n3, by simp, ?_⟩
      have e3 : putF "_nodes" (.ref L) [(("method" : Str), V.str m), ("expression", v)] = [(("method" : Str), V.str m), ("expression", v), ("_nodes", .ref L)] := rfl
      rw [e3]
      have k5 : Keep b H4 (upd H4 b (.ins C_Body dx [("method", .str m), ("expression", v), ("_nodes", .ref L)])) := Keep.put (fun _ _ _ e => e)
      repeat walk_at "rd"
      refine q3 eg L _ (fun a u n e => k5 a u n (s4 _ _ (k02 a u n e))) ?_ upd_same
      cases z : H L with
      | none => rfl
      | some u => rw [k02 _ _ bL z] at nL; cases nL
end
end Ab
namespace M7
open M6 PyProof.Rows PySem.Spec
/-! ### sorted texts -/
theorem le_of_not {a b : List Nat} (h : (!ltCps b a) = true) : a ≤ b := by
  rw [ltCps_eq] at h
  have h : ¬ b < a := by simpa using h
  exact List.not_lt.mp h
theorem rising_le : ∀ {r : List Str} {p : Str}, risingS p r = true → ∀ x ∈ r, p.cps.toList ≤ x.cps.toList
  | [], _, _, x, hx => by simp at hx
  | y :: r, p, h, x, hx => by
    have h : (!ltCps y.cps.toList p.cps.toList && risingS y r) = true := h
    rw [Bool.and_eq_true] at h
    have h1 := le_of_not h.1
    rcases List.mem_cons.mp hx with e | e
    · subst e; exact h1
    · exact List.le_trans h1 (rising_le h.2 x e)
theorem rising_pw : ∀ {r : List Str} {p : Str}, risingS p r = true → (p :: r).Pairwise fun a b => a.cps.toList ≤ b.cps.toList
  | [], _, _ => by simp
  | y :: r, p, h => by
    have h' : (!ltCps y.cps.toList p.cps.toList && risingS y r) = true := h
    rw [Bool.and_eq_true] at h'
    exact List.pairwise_cons.mpr ⟨rising_le h, rising_pw h'.2⟩
theorem sorted_pw {l : List Str} (h : sortedS l = true) : l.Pairwise fun a b => a.cps.toList ≤ b.cps.toList := by
  cases l with
  | nil => simp
  | cons p r => exact rising_pw h
theorem sorted_same {a b : List Str} (p : a.Perm b) (ha : sortedS a = true) (hb : sortedS b = true) : a = b :=
  List.Perm.eq_of_pairwise (le := fun a b => a.cps.toList ≤ b.cps.toList) (fun x y _ _ h1 h2 => by
    have e := List.le_antisymm h1 h2
    exact Str.ext' (Array.toList_inj.mp e)) (sorted_pw ha) (sorted_pw hb) p
/-! ### what a merge keeps -/
section
variable {α : Type} [DecidableEq α]
structure Merges (rows : List (List α)) (m : List α) : Prop where
  keeps : ∀ r ∈ rows, m.filter (fun x => decide (x ∈ r)) = r
  nd : m.Nodup
  mem : ∀ x, x ∈ m ↔ ∃ r ∈ rows, x ∈ r
theorem filter_none {m : List α} {p : α → Bool} (h : ∀ x ∈ m, p x = false) : m.filter p = [] := List.filter_eq_nil_iff.mpr fun x hx => by simp [h x hx]
theorem merges_step {rows : List (List α)} {w : α} {m : List α} (h : headOf rows = some w) (M : Merges (without rows w) m) : Merges rows (w :: m) := by
  obtain ⟨r0, hr0, t0, rfl, ok⟩ := head_found h
  have hok : ∀ r ∈ rows, w ∉ r.tail := by
    intro r hr
    unfold okHead at ok
    have := List.all_eq_true.mp ok r hr
    simpa using this
  have wm : w ∉ m := by
    intro e
    obtain ⟨r, hr, hw⟩ := (M.mem w).mp e
    unfold M6.without at hr
    obtain ⟨h1, _⟩ := List.mem_filter.mp hr
    obtain ⟨r1, _, rfl⟩ := List.mem_map.mp h1
    have := (List.mem_filter.mp hw).2
    simp at this
  have inw : ∀ r ∈ rows, (r.filter fun x => decide (x ≠ w)) ≠ [] → (r.filter fun x => decide (x ≠ w)) ∈ without rows w := by
    intro r hr hn
    unfold M6.without
    exact List.mem_filter.mpr ⟨List.mem_map.mpr ⟨r, hr, rfl⟩, by
      generalize (r.filter fun x => decide (x ≠ w)) = z at hn
      cases z with
      | nil => exact absurd rfl hn
      | cons a t => rfl⟩
  have same : ∀ t : List α, w ∉ t → (t.filter fun x => decide (x ≠ w)) = t := by
    intro t ht
    refine List.filter_eq_self.mpr fun x hx => ?_
    have : x ≠ w := fun e => ht (e ▸ hx)
    simpa using this
  have core : ∀ t : List α, w ∉ t → (t ≠ [] → t ∈ without rows w) → m.filter (fun x => decide (x ∈ t)) = t := by
    intro t ht hin
    cases t with
    | nil => exact filter_none fun x _ => by simp
    | cons a t => exact M.keeps _ (hin (by simp))
  refine ⟨fun r hr => ?_, List.nodup_cons.mpr ⟨wm, M.nd⟩, fun x => ?_⟩
  · have hw := hok r hr
    cases r with
    | nil => exact filter_none fun x _ => by simp
    | cons a t =>
      by_cases e : a = w
      · subst e
        rw [List.filter_cons_of_pos (by simp)]
        have e1 : (m.filter fun x => decide (x ∈ a :: t)) = m.filter fun x => decide (x ∈ t) := by
          refine List.filter_congr fun x hx => ?_
          have : x ≠ a := fun e => wm (e ▸ hx)
          simp [this]
        rw [e1]
        have ht : a ∉ t := hw
        have e2 : ((a :: t).filter fun x => decide (x ≠ a)) = t := by rw [List.filter_cons_of_neg (by simp)]; exact same t ht
        rw [core t ht fun hn => by rw [← e2]; exact inw _ hr (by rw [e2]; exact hn)]
      · have hwr : w ∉ a :: t := by
          intro z
          rcases List.mem_cons.mp z with z | z
          · exact e z.symm
          · exact hw z
        rw [List.filter_cons_of_neg (by simpa using hwr)]
        have e2 := same _ hwr
        exact core _ hwr fun hn => by rw [← e2]; exact inw _ hr (by rw [e2]; exact hn)
  · rw [List.mem_cons]
    constructor
    · rintro (e | e)
      · subst e; exact ⟨_, hr0, by simp⟩
      · obtain ⟨r, hr, hx⟩ := (M.mem x).mp e
        unfold M6.without at hr
        obtain ⟨h1, _⟩ := List.mem_filter.mp hr
        obtain ⟨r1, hr1, rfl⟩ := List.mem_map.mp h1
        exact ⟨r1, hr1, (List.mem_filter.mp hx).1⟩
    · rintro ⟨r, hr, hx⟩
      by_cases e : x = w
      · exact .inl e
      · have hx' : x ∈ r.filter fun x => decide (x ≠ w) := List.mem_filter.mpr ⟨hx, by simpa using e⟩
        exact .inr ((M.mem x).mpr ⟨_, inw r hr (List.ne_nil_of_mem hx'), hx'⟩)
theorem merges_fuel : ∀ {n : Nat} {rows : List (List α)} {acc l : List α}, mrgF n rows acc = some l → ∃ m, l = acc ++ m ∧ Merges rows m
  | 0, _, _, _, h => by simp [mrgF] at h
  | n + 1, rows, acc, l, h => by
    unfold mrgF at h
    split at h
    · rename_i he
      obtain rfl : rows = [] := by simpa using he
      refine ⟨[], by simpa using h.symm, ?_, by simp, by simp⟩
      simp
    · cases e : headOf rows with
      | none => rw [e] at h; cases h
      | some w =>
        rw [e] at h
        obtain ⟨m, hm, M⟩ := merges_fuel (n := n) h
        exact ⟨w :: m, by rw [hm]; simp, merges_step e M⟩
theorem merges {rows : List (List α)} {l : List α} (h : mrg rows = some l) : Merges rows l := by
  obtain ⟨m, hm, M⟩ := merges_fuel h
  obtain rfl : l = m := by simpa using hm
  refine ⟨fun r hr => ?_, M.nd, fun x => ?_⟩
  · cases r with
    | nil => exact filter_none fun x _ => by simp
    | cons a t => exact M.keeps _ (List.mem_filter.mpr ⟨hr, by simp⟩)
  · rw [M.mem]
    constructor
    · rintro ⟨r, hr, hx⟩
      exact ⟨r, (List.mem_filter.mp hr).1, hx⟩
    · rintro ⟨r, hr, hx⟩
      refine ⟨r, List.mem_filter.mpr ⟨hr, ?_⟩, hx⟩
      cases r with
      | nil => cases hx
      | cons a t => rfl
/-- the words of the lists, each once -/
def every (rows : List (List α)) : List α := rows.foldl (fun e r => e ++ r.filter fun x => decide (x ∉ e)) []
structure EvInv (rows : List (List α)) (e : List α) : Prop where
  nd : e.Nodup
  mem : ∀ x, x ∈ e ↔ ∃ r ∈ rows, x ∈ r
theorem ev_step {rows : List (List α)} {e r : List α} (h : EvInv rows e) (hr : r.Nodup) : EvInv (rows ++ [r]) (e ++ r.filter fun x => decide (x ∉ e)) := by
  refine ⟨?_, fun x => ?_⟩
  · rw [List.nodup_append]
    refine ⟨h.nd, hr.filter _, fun a ha b hb e => ?_⟩
    subst e
    have := (List.mem_filter.mp hb).2
    simp at this
    exact this ha
  · rw [List.mem_append, List.mem_filter]
    constructor
    · rintro (hx | ⟨hx, _⟩)
      · obtain ⟨q, hq, hx⟩ := (h.mem x).mp hx
        exact ⟨q, List.mem_append_left _ hq, hx⟩
      · exact ⟨r, List.mem_append_right _ (by simp), hx⟩
    · rintro ⟨q, hq, hx⟩
      by_cases he : x ∈ e
      · exact .inl he
      · rcases List.mem_append.mp hq with hq | hq
        · exact absurd ((h.mem x).mpr ⟨q, hq, hx⟩) he
        · obtain rfl : q = r := by simpa using hq
          exact .inr ⟨hx, by simpa using he⟩
theorem row_nodup {rows : List (List α)} {l r : List α} (M : Merges rows l) (hr : r ∈ rows) : r.Nodup := by
  rw [← M.keeps r hr]
  exact M.nd.filter _
theorem every_perm {rows : List (List α)} {l e : List α} (M : Merges rows l) (h : EvInv rows e) : e.Perm l :=
  (List.perm_ext_iff_of_nodup h.nd M.nd).mpr fun x => by rw [h.mem, M.mem]
theorem full_more (rows : List (List α)) : mrg (rows ++ [[]]) = mrg rows := by
  unfold mrg full
  rw [List.filter_append]
  simp
end
end M7
/-! a list or a tuple -/
namespace Sq
open PySem.Spec PyProof.Rows
def A (K : PySem.W.Frag) (H : Hp) (p : Addr) (xs : List V) : Prop := SqL K H p xs ∨ SqT K H p xs
theorem A.same {K : PySem.W.Frag} {H H' : Hp} {p : Addr} {xs : List V} (s : Same H H') (h : A K H p xs) : A K H' p xs := h.elim (fun h => .inl (s.seq h)) (fun h => .inr (by
  rcases h with (h | ⟨o, h⟩) | h
  · exact .inl (.inl (s _ _ h))
  · exact .inl (.inr ⟨o, s _ _ h⟩)
  · exact .inr h))
def rIxA (K : PySem.W.Frag) : R2 := fun x y H Q => rIxL K x y H Q ∨ rIxT K x y H Q
def rSlA (K : PySem.W.Frag) : V → Option Int → Option Int → Hp → VK → Prop := fun x lo hi H Q => rSlL K x lo hi H Q ∨ L2.rSlA K x lo hi H Q
def iAny (K : PySem.W.Frag) (te : TE) : TI := fun σ H R => te σ H fun x H1 => ∃ a, x = .ref a ∧ (((∃ xs, SqL K H1 a xs) ∧ R (Itl K a) H1) ∨ ((∃ xs, SqT K H1 a xs) ∧ R (Itt K a) H1))
section
variable {X : Cx}
theorem ix_any : IxR X (rIxA X.K) := fun a b pins s σ H x y v u Q I rx ry h hs => Or.elim h (fun h => ix_list a b pins s σ H x y v u Q I rx ry h hs) (fun h => ix_tup a b pins s σ H x y v u Q I rx ry h hs)
theorem sl_any : SlR X (rSlA X.K) := by
  intro pins s σ H x v vl vu lo hi sl Q I rx hs pl pu h
  exact h.elim (sl_list pins s σ H x v vl vu lo hi sl Q I rx hs pl pu) (sl_tupA pins s σ H x v vl vu lo hi sl Q I rx hs pl pu)
theorem pi_any {tg l : Expr} {tl : TE} (hl : PE X l tl) : PI X tg l (iAny X.K tl) := by
  refine ⟨fun pins s σ H R I h => thn (hl.run pins s σ H _ I h) fun v s1 ⟨x, H1, I1, r1, a, e, q1⟩ => ?_⟩
  subst e
  cases r1
  have fp : ∀ (h' : Heap), ∀ b ∈ [s1.heap.objs.size], _ := fun h' b hb => by
    have e : b = s1.heap.objs.size := by simpa using hb
    subst e
    exact I1.fpOk (Nat.le_refl _) (I1.hok.fresh (Nat.le_refl _))
  rcases q1 with ⟨⟨xs, hq⟩, q⟩ | ⟨⟨xs, hq⟩, q⟩
  · obtain ⟨its, rv, p, hz⟩ := I1.list hq
    exact wpAny_pyIter_list p.isList ⟨s1.heap.objs.size, [s1.heap.objs.size], _, _, H1, rfl, I1.kept (t' := s1.toks) fun b o e => Heap.get?_push_of_some _ e, turn_list a _, ⟨_, Heap.get?_push_size _ rfl, rfl, rfl⟩, fp s1.heap, q⟩
  · obtain ⟨its, rv, p, hz⟩ := I1.tuple hq
    exact wpAny_pyIter_tuple (show s1.heap.IsTuple a its.toArray from p) ⟨s1.heap.objs.size, [s1.heap.objs.size], _, _, H1, rfl, I1.kept (t' := s1.toks) fun b o e => Heap.get?_push_of_some _ e, turn_tuple a _, ⟨_, Heap.get?_push_size _ rfl, rfl, rfl⟩, fp s1.heap, q⟩
end
section
variable {K : PySem.W.Frag} {σ : L2.St} {H : Hp} {Q : VK} {p : Addr} {xs : List V} {i : Int} {v : V} {x : V}
theorem ixR (h : A K H p xs) (a : atI xs i = some v) (k : Q v H) : rIxA K (.ref p) (.int i) H Q := h.elim (fun h => .inl (Rd.ixL h a k)) (fun h => .inr (Rd.ixT h a k))
theorem inR {neg : Bool} (h : A K H p xs) (hx : flatV x = true) (ha : xs.all flatV = true) (k : Q (.bl (if neg then !inV x xs else inV x xs)) H) : rIn K neg x (.ref p) H Q := ⟨p, xs, rfl, h, hx, ha, k⟩
theorem truR {R : Bool → Prop} (h : A K H p xs) (k : R (!xs.isEmpty)) : ∃ k, TruV K (.ref p) H k ∧ R k := h.elim (fun h => Rd.truL h k) (fun h => ⟨_, .inr (.inl ⟨xs, h, rfl⟩), k⟩)
theorem cut1 (l : List V) : cutV l (some 1) none = l.tail := by
  unfold cutV
  cases l with
  | nil => rfl
  | cons a l =>
    have e : HT.sIx (a :: l).length 0 (some 1) = 1 := by simp [HT.sIx]
    rw [e]
    show (List.drop 1 (a :: l)).take ((a :: l).length - 1) = l
    simp
/-- xs[1:] -/
theorem sl1R (h : A K H p xs) (k : ∀ q H', Same H H' → A K H' q xs.tail → Q (.ref q) H') : rSlA K (.ref p) (some 1) none H Q := by
  rcases h with h | h
  · refine .inl (Rd.slL h fun q hq => k q _ (Rd.sNew hq) (.inl (SqL.of ?_)))
    rw [upd_same, cut1]
  · refine .inr ⟨p, xs, rfl, h, fun e => k p H (Same.refl _) (.inr ?_), fun _ q hq => k q _ (Rd.sNew hq) (.inr (.inl (.inl ?_)))⟩
    · have e0 : xs = [] := by
        cases xs with
        | nil => rfl
        | cons a l =>
          have e1 : HT.sIx (a :: l).length 0 (some 1) = 1 := by simp [HT.sIx]
          rw [e1] at e
          cases e.1
      rw [e0] at h ⊢
      exact h
    · rw [upd_same, cut1]
/-- a comprehension over a list or a tuple of things -/
theorem lcA {α β : Type} {tl te : TE} {tt : TT} {vs : List Nat} {j : Nat} {a : Addr} {bs : List α} (P : α → V → Hp → Prop) (B : β → V → Hp → Prop) (f : α → Bool) (g : α → β)
    (htl : ∀ R : V → Hp → Prop, R (.ref a) H → tl σ H R) (hl : A K H a xs) (hA : Rd.Stays P) (hB : Rd.Stays B) (pr : Paired (fun b x => P b x H) bs xs) (hz : xs.length ≤ 10000)
    (hw : ∀ x, wipe ((wipe σ vs).set j (some x)) vs = wipe σ vs)
    (turn : ∀ b x H1 (R : Bool → Hp → Prop), b ∈ bs → P b x H → P b x H1 → Same H H1 → (∀ H2, Same H1 H2 → R (f b) H2) → tt ((wipe σ vs).set j (some x)) H1 R)
    (elem : ∀ b x H1 (R : VK), b ∈ bs → f b = true → P b x H → P b x H1 → Same H H1 → (∀ y H2, Same H1 H2 → Rd.Off H H1 H2 (B (g b)) y → R y H2) → te ((wipe σ vs).set j (some x)) H1 R)
    (fin : ∀ D ys H1, H D = none → Same H H1 → H1 D = some (.lst ys) → Paired (fun c y => B c y H1) ((bs.filter f).map g) ys → Q (.ref D) H1) :
    tLc (iAny K tl) (gName j) tt te vs σ H Q := by
  rcases hl with h | h
  · have z : tLc (iList K (tC (.ref a))) (gName j) tt te vs σ H Q := Rd.lcL P B f g (fun R k => k) h hA hB pr hz hw turn elem fin
    obtain ⟨a', e, hx, r⟩ := z
    cases e
    exact htl _ ⟨a, rfl, .inl ⟨hx, r⟩⟩
  · have z : tLc (iTup K (tC (.ref a))) (gName j) tt te vs σ H Q := Rd.lcT P B f g (fun R k => k) h hA hB pr hz hw turn elem fin
    obtain ⟨a', e, hx, r⟩ := z
    cases e
    exact htl _ ⟨a, rfl, .inr ⟨hx, r⟩⟩
end
end Sq
namespace Ab
open PySem.Spec PyProof.Rows
local macro_rules | `(tactic| walk_at "rd") => `(tactic| (with_reducible first | refine Rd.tt_ ?_ | refine Rd.ff_ ?_))
section
variable {P : Program} {w : World} {K : PySem.W.Frag} {mg : Str → Option Value} {base : Heap}
/-- the error of the class at C with the field f = v goes out -/
def OutB (C : Addr) (f : Str) (v : V) (H : Hp) (E : XK) : Prop := ∀ H1, Same H H1 → ∀ d, H1 d = none → E (.ref C) (some d) (upd H1 d (.xd [(f, v)]))
theorem OutB.at {C : Addr} {f : Str} {v : V} {H H1 : Hp} {E : XK} (o : OutB C f v H E) (s : Same H H1) : OutB C f v H1 E := fun H2 s2 => o H2 (s.trans s2)
abbrev sCheck_flag : Stmt := top 18
abbrev nCheck_flag : List Str := ["value"]
theorem scCheck_flag : FnScope nCheck_flag ["value"] (defScope sCheck_flag) := ⟨rfl, rfl, rfl, by decide +kernel, rfl, by decide +kernel, by decide +kernel⟩
def spFlag (K : PySem.W.Frag) (C : Addr) : Sp := fun vs H Q E => ∃ (v : V) (tn : String), vs = [v] ∧ Kd K H v tn ∧ (isBl v = true → Q .non H) ∧ (isBl v = false → OutB C "value" v H E)
theorem ok_check_flag (T : Txt K mg) {C : Addr} (T_NoFlag : Ex.ErrC K mg "NoFlag" "value" C) (M_NoFlag : Ex.InitOk P w K mg base "value" C) (D : DefAt K mg "check_flag" sCheck_flag ["value"]) : Ex.CalX P w K mg base 3 "check_flag" (spFlag K C) := by
  refine Ex.byX D scCheck_flag (fun vs H Q E h => ?_) (fun f cd A hg outer s H vs Q E hr h => ?_)
  · obtain ⟨v, tn, rfl, _⟩ := h
    rfl
  · obtain ⟨v, tn, rfl, k, q1, q2⟩ := h
    refine ⟨_, (pss_one (ps_if (pt_not (pt_val (pe_callB (r := rIsi K) call_isi (by rfl) T.isinstance (by decide +kernel) (pa_cons (pv 0) (pa_cons (pe_bltn (v := .ty "bool") (by rfl) T.bool (by decide +kernel) rfl) pa_nil)))))
  (pss_one (ps_raise rfl (takes_of rfl rfl rfl rfl) (Ex.pmkE T_NoFlag M_NoFlag hr (by decide) (pa_cons (pv 0) pa_nil))))
  pss_nil)), ?_⟩
    repeat walk_at "rd"
    refine isi k.ty k.b ?_
    repeat walk_at "rd"
    refine Rd.bool (fun c => ?_) (fun c => ?_)
    · have c' : isBl v = false := by simpa using c
      refine Ex.mk ?_
      repeat walk_at "rd"
      exact Ex.made (q2 c' H (Same.refl _))
    · have c' : isBl v = true := by simpa using c
      repeat walk_at "rd"
      exact q1 c'
abbrev sCheck_operation : Stmt := top 27
abbrev nCheck_operation : List Str := ["operation"]
theorem scCheck_operation : FnScope nCheck_operation ["operation"] (defScope sCheck_operation) := ⟨rfl, rfl, rfl, by decide +kernel, rfl, by decide +kernel, by decide +kernel⟩
def spCheckOp (K : PySem.W.Frag) (C : Addr) (ws : List Str) : Sp := fun vs H Q E => ∃ (v : V) (tn : String), vs = [v] ∧ Kd K H v tn ∧ (isIn v ws = true → Q .non H) ∧ (isIn v ws = false → OutB C "value" v H E)
theorem ok_check_operation (T : Txt K mg) {C p_OPERATIONS : Addr} {ws : List Str} (g_OPERATIONS : mg "OPERATIONS" = some (.ref p_OPERATIONS)) (tM : ∀ H, SqT K H p_OPERATIONS (ws.map V.str)) (T_NoName : Ex.ErrC K mg "NoName" "value" C) (M_NoName : Ex.InitOk P w K mg base "value" C)
    (D : DefAt K mg "check_operation" sCheck_operation ["operation"]) (CIs_one_of : CalG P w K mg base 1 "is_one_of" (spOneOf K)) : Ex.CalX P w K mg base 3 "check_operation" (spCheckOp K C ws) := by
  refine Ex.byX D scCheck_operation (fun vs H Q E h => ?_) (fun f cd A hg outer s H vs Q E hr h => ?_)
  · obtain ⟨v, tn, rfl, _⟩ := h
    rfl
  · obtain ⟨v, tn, rfl, k, q1, q2⟩ := h
    refine ⟨_, (pss_one (ps_if (pt_not (pt_val (pe_cG CIs_one_of hg hr (by decide) (pa_cons (pv 0) (pa_cons (pe_glob (v := .ref p_OPERATIONS) (by rfl) g_OPERATIONS rfl) pa_nil)))))
  (pss_one (ps_raise rfl (takes_of rfl rfl rfl rfl) (Ex.pmkE T_NoName M_NoName hr (by decide) (pa_cons (pv 0) pa_nil))))
  pss_nil)), ?_⟩
    repeat walk_at "rd"
    refine ⟨v, p_OPERATIONS, tn, ws, rfl, k, tM H, ?_⟩
    repeat walk_at "rd"
    refine Rd.bool (fun c => ?_) (fun c => ?_)
    · have c' : isIn v ws = false := by simpa using c
      refine Ex.mk ?_
      repeat walk_at "rd"
      exact Ex.made (q2 c' H (Same.refl _))
    · have c' : isIn v ws = true := by simpa using c
      repeat walk_at "rd"
      exact q1 c'
/-! ### ways -/
/-- the texts among values -/
def strsOf : List V → List Str
  | [] => []
  | .str s :: l => s :: strsOf l
  | _ :: l => strsOf l
theorem strs_of_in {ws : List Str} : ∀ {xs : List V}, (xs.all fun x => isIn x ws) = true → xs = (strsOf xs).map V.str
  | [], _ => rfl
  | x :: l, h => by
    rw [List.all_cons, Bool.and_eq_true] at h
    obtain ⟨s, rfl, _⟩ := isIn_str h.1
    show _ = V.str s :: (strsOf l).map V.str
    rw [← strs_of_in h.2]
def waysOk (op : Str) (xs : List V) : Bool := (xs.all fun x => isIn x (menu op)) && decide ((strsOf xs).Nodup)
abbrev sAre_ways : Stmt := top 53
abbrev nAre_ways : List Str := ["operation", "value", "way"]
theorem scAre_ways : FnScope nAre_ways ["operation", "value"] (defScope sAre_ways) := ⟨rfl, rfl, rfl, by decide +kernel, rfl, by decide +kernel, by decide +kernel⟩
def MenusAt (K : PySem.W.Frag) (w : World) (p : Addr) (gM : Str → Addr) : Prop := ∀ o ∈ ops, KDct K w p o (.ref (gM o)) ∧ ∀ H, SqT K H (gM o) ((menu o).map V.str)
def spWays (K : PySem.W.Frag) : Sp := fun vs H Q _ => ∃ (op : Str) (v : V), vs = [.str op, v] ∧ op ∈ ops ∧
  ((∃ tn, TyX K H v (.type tn) ∧ kitB tn "tuple" = some false ∧ Q (.bl false) H) ∨ ∃ (p : Addr) (xs : List V), v = .ref p ∧ SqT K H p xs ∧ xs.length ≤ 1000 ∧ (∀ x ∈ xs, ∀ H', Same H H' → ∃ tn, Kd K H' x tn) ∧ ∀ H', Same H H' → Q (.bl (waysOk op xs)) H')
theorem ok_are_ways (T : Txt K mg) {p_MENUS : Addr} {gM : Str → Addr} (g_MENUS : mg "MENUS" = some (.ref p_MENUS)) (tM : MenusAt K w p_MENUS gM) (D : DefAt K mg "are_ways" sAre_ways ["operation", "value"])
    (CIs_one_of : CalG P w K mg base 1 "is_one_of" (spOneOf K)) : CalG P w K mg base 2 "are_ways" (spWays K) := by
  refine D.by scAre_ways (fun vs H Q E h => ?_) (fun f cd A hg outer s H vs Q E hr h => ?_)
  · obtain ⟨op, v, rfl, _⟩ := h
    rfl
  · obtain ⟨op, v, rfl, ho, h⟩ := h
    refine ⟨_, (pss_cons (ps_if (pt_not (pt_val (pe_callB (r := rIsi K) call_isi (by rfl) T.isinstance (by decide +kernel) (pa_cons (pv 1) (pa_cons (pe_bltn (v := .ty "tuple") (by rfl) T.tuple (by decide +kernel) rfl) pa_nil)))))
  (pss_one (ps_ret pe_bl))
  pss_nil)
  (pss_cons (ps_if (pt_not (pt_val (pe_callB (r := rAll K) (cr_all rfl) (by rfl) T.all (by decide +kernel) (pa_cons (pe_lc (wi := iTup K _) (own := [("way", 2)]) (g := gName 2) (by rfl) scAre_ways.nd (pi_tup (pv 1)) (blkOk_by (N := nAre_ways) (sc := defScope sAre_ways) (by decide +kernel)) (fun _ _ _ _ _ => pg_name (i := 2) scAre_ways.nd rfl (Or.inl rfl)) (fun _ _ _ _ _ => pts_nil) (fun _ _ _ _ _ => (pe_cG CIs_one_of hg hr (by decide) (pa_cons (pv 2) (pa_cons (pe_ix (r := rIxD K w) ix_kdict (pe_glob (v := .ref p_MENUS) (by rfl) g_MENUS rfl) (pv 0) (fun _ _ => rfl)) pa_nil))))) pa_nil))))
  (pss_one (ps_ret pe_bl))
  pss_nil)
  (pss_one (ps_ret (pe_cmpR op_eq (Ss.pe_lenSetT rfl T.len T.set (pv 1)) (pe_callB (r := Rd.rLenK K) Rd.callLen (by rfl) T.len PySem.boot_len (pa_cons (pv 1) pa_nil)) (nomark _)))))), ?_⟩
    repeat walk_at "rd"
    rcases h with ⟨tn, ty, kt, q⟩ | ⟨p, xs, rfl, hp, hl, hk, q⟩
    · refine isi ty kt ?_
      repeat walk_at "rd"
      exact Rd.tt_ (by repeat walk_at "rd"; exact q)
    · refine isi (tup_ty hp) (by show kitB "tuple" "tuple" = some true; decide +kernel) ?_
      repeat walk_at "rd"
      refine Rd.ff_ ?_
      repeat walk_at "rd"
      refine Rd.lcT (tl := tVar 1) (a := p) (H := H) (xs := xs) (bs := xs) (fun b x _ => x = b) (fun (b : Bool) y _ => y = .bl b) (fun _ => true) (fun x => isIn x (menu op)) (fun R k => Rd.var rfl k) hp (fun _ _ _ _ _ h => h) (fun _ _ _ _ _ h => h) ?_ (by omega) (fun _ => rfl) ?_ ?_ ?_
      · clear hl hk q hp
        induction xs with
        | nil => exact .nil
        | cons a l ih => exact .cons rfl ih
      · intro b x H1 R _ _ _ _ k
        repeat walk_at "rd"
        exact k _ (Same.refl _)
      · rintro b x H1 R hm _ _ rfl s1 k
        repeat walk_at "rd"
        refine ⟨p_MENUS, op, _, rfl, rfl, (tM op ho).1, ?_⟩
        obtain ⟨tn, kd⟩ := hk x hm H1 s1
        refine ⟨x, gM op, tn, menu op, rfl, kd, (tM op ho).2 H1, ?_⟩
        exact k _ H1 (Same.refl _) (Rd.off_any rfl)
      · intro Dd ys H1 hD s1 hd pr
        have e : ys = (xs.map fun x => isIn x (menu op)).map V.bl := by
          rw [List.filter_eq_self.mpr (fun _ _ => rfl)] at pr
          exact Rd.pair_map pr
        rw [e] at hd
        repeat walk_at "rd"
        refine Rd.all_ (SqL.of hd) ?_
        repeat walk_at "rd"
        have ea : (xs.map fun x => isIn x (menu op)).all id = xs.all fun x => isIn x (menu op) := by rw [List.all_map]; rfl
        rw [ea]
        refine Rd.bool (fun c => ?_) (fun c => ?_)
        · have c' : (xs.all fun x => isIn x (menu op)) = false := by simpa using c
          repeat walk_at "rd"
          have := q _ s1
          rw [waysOk, c', Bool.false_and] at this
          exact this
        · have c' : (xs.all fun x => isIn x (menu op)) = true := by simpa using c
          repeat walk_at "rd"
          have ex := strs_of_in c'
          have hp1 := sqT_same s1 hp
          have hp2 : SqT K H1 p ((strsOf xs).map V.str) := by rw [← ex]; exact hp1
          have hz : (strsOf xs).length = xs.length := by
            have := congrArg List.length ex
            rw [List.length_map] at this
            exact this.symm
          refine Rd.var (n := 1) rfl ⟨p, strsOf xs, rfl, hp2, by omega, ?_⟩
          repeat walk_at "rd"
          refine Rd.lenT hp1 ?_
          repeat walk_at "rd"
          have := q _ s1
          rw [waysOk, c', Bool.true_and] at this
          have e2 : decide (V.int ((Ss.dcN (strsOf xs) (strsOf xs).length : Nat) : Int) = V.int ((xs.length : Nat) : Int)) = decide ((strsOf xs).Nodup) := by
            rw [Bool.eq_iff_iff, decide_eq_true_iff, decide_eq_true_iff, ← Ss.dc_iff, hz]
            constructor
            · intro z
              have := V.int.inj z
              omega
            · intro z
              rw [z]
          rw [e2]
          exact this
end
end Ab

namespace Ab
open PySem.Spec PyProof.Rows
local macro_rules | `(tactic| walk_at "rd") => `(tactic| (with_reducible first | refine Rd.sfld ?_ | refine Rd.dget ?_ | refine Rd.methR ?_ | refine Rd.propR ?_ | refine Rd.statR ?_ | refine Rd.getR ?_))
theorem get_tab {H : Hp} {a : Addr} {l : List Str} {f : Str → V} (h : H a = some (.dK (tab l f))) {o : Str} (m : o ∈ l) : DGet H a (.str o) (some (f o)) := by
  have := DGet.k (k := .inr o) h
  rw [val_tab l f m] at this
  exact this
/-- a dict comprehension over a tuple of texts that are its keys, the values read off -/
theorem dcP {K : PySem.W.Frag} {σ : L2.St} {H : Hp} {Q : VK} {tl tk tv : TE} {vs : List Nat} {j : Nat} {a : Addr} {l : List Str} {F : Str → V} (nd : l.Nodup) (z : l.length ≤ 1000) (htl : ∀ R : V → Hp → Prop, R (.ref a) H → tl σ H R) (ht : ∀ H, SqT K H a (l.map V.str))
    (hw : ∀ x, wipe ((wipe σ vs).set j (some x)) vs = wipe σ vs) (key : ∀ o H1 (R : VK), R (.str o) H1 → tk ((wipe σ vs).set j (some (.str o))) H1 R)
    (val : ∀ o, o ∈ l → ∀ H1 (R : VK), R (F o) H1 → tv ((wipe σ vs).set j (some (.str o))) H1 R) (fin : ∀ D, H D = none → Q (.ref D) (upd H D (.dK (tab l F)))) : tDc (iTup K tl) (gName j) tYes tk tv vs σ H Q := by
  refine htl _ ⟨a, rfl, ⟨_, ht H⟩, fun D hD => ?_⟩
  refine dc_tup (K := K) (a := a) (xs := l.map V.str) (fun i H1 => H1 = upd H D (.dK (tab (l.take i) F))) (by rw [List.take_zero]; rfl) (fun i H1 _ _ => ht H1) ?_ ?_
  · rintro i x H1 hx rfl
    obtain ⟨hi, e⟩ := List.getElem?_eq_some_iff.mp hx
    rw [List.length_map] at hi
    rw [List.getElem_map] at e
    subst e
    refine ⟨hw _, ?_⟩
    refine Rd.yes (Rd.tt_ ?_)
    refine key _ _ _ (val _ (List.getElem_mem hi) _ _ ⟨tab (l.take i) F, .inr l[i], rfl, upd_same, ?_, ?_⟩)
    · rw [tab_len, List.length_take]
      exact Rd.szl (by omega)
    · have nm : l[i] ∉ l.take i := fun m => by
        obtain ⟨k, hk, e⟩ := List.mem_iff_getElem.mp m
        rw [List.getElem_take] at e
        rw [List.length_take] at hk
        have := (List.getElem_inj nd).mp e
        omega
      show upd (upd H D _) D _ = _
      rw [upd_upd, putK_new _ _ _ nm, tab_snoc, List.take_add_one, List.getElem?_eq_getElem hi]
      rfl
  · rintro H1 rfl
    have := fin D hD
    rw [List.length_map, List.take_length]
    exact this
theorem ops_nd : ops.Nodup := by decide +kernel
theorem flags_nd : flagsW.Nodup := by decide +kernel
/-! ### a book in the heap -/
structure BF (K : PySem.W.Frag) (mg : Str → Option Value) (C : Addr) : Prop extends Ob.CF K mg "Book" C where
  n1 : NoAttr K C "_ways"
  n2 : NoAttr K C "_flags"
structure Bk (K : PySem.W.Frag) (C : Addr) (H : Hp) (b w f : Addr) (g : Str → Addr) (m : Str → List Str) (fl : Str → Bool) : Prop where
  ins : ∃ dx, H b = some (.ins C dx [("_ways", .ref w), ("_flags", .ref f)])
  wd : H w = some (.dK (tab ops fun o => .ref (g o)))
  fd : H f = some (.dK (tab flagsW fun x => .bl (fl x)))
  tp : ∀ o ∈ ops, SqT K H (g o) ((m o).map V.str)
  ne : w ≠ f
theorem Bk.mono {K : PySem.W.Frag} {C : Addr} {H H' : Hp} {b w f : Addr} {g : Str → Addr} {m : Str → List Str} {fl : Str → Bool} (k : Bk K C H b w f g m fl) (s : Same H H') : Bk K C H' b w f g m fl :=
  ⟨let ⟨dx, h⟩ := k.ins; ⟨dx, s _ _ h⟩, s _ _ k.wd, s _ _ k.fd, fun o ho => sqT_same s (k.tp o ho), k.ne⟩
def NewBk (K : PySem.W.Frag) (C : Addr) (g : Str → Addr) (m : Str → List Str) (fl : Str → Bool) (Q : VK) (H : Hp) : Prop := ∀ b w f H', Same H H' → H b = none → H w = none → H f = none → Bk K C H' b w f g m fl → Q (.ref b) H'
/-- the tables that the top has written -/
structure Tb (K : PySem.W.Frag) (w : World) (mg : Str → Option Value) (pO pM pF : Addr) (gM : Str → Addr) : Prop where
  o : mg "OPERATIONS" = some (.ref pO)
  m : mg "MENUS" = some (.ref pM)
  f : mg "FLAGS" = some (.ref pF)
  to : ∀ H, SqT K H pO (ops.map V.str)
  tf : ∀ H, SqT K H pF (flagsW.map V.str)
  tm : MenusAt K w pM gM
section
variable {P : Program} {w : World} {K : PySem.W.Frag} {mg : Str → Option Value} {base : Heap}
abbrev sBook___init__ : Stmt := meth 54 0
abbrev nBook___init__ : List Str := ["self", "operation", "word"]
theorem scBook___init__ : FnScope nBook___init__ ["self"] (defScope sBook___init__) := ⟨rfl, rfl, rfl, by decide +kernel, rfl, by decide +kernel, by decide +kernel⟩
def spBkInit (C : Addr) (gM : Str → Addr) : Sp := fun vs H Q _ => ∃ (b dx : Addr), vs = [.ref b] ∧ H b = some (.ins C dx []) ∧ ∀ w f, H w = none → upd (upd H w (.dK (tab ops fun o => .ref (gM o)))) b (.ins C dx [("_ways", .ref w)]) f = none →
  Q .non (upd (upd (upd (upd H w (.dK (tab ops fun o => .ref (gM o)))) b (.ins C dx [("_ways", .ref w)])) f (.dK (tab flagsW fun _ => .bl true))) b (.ins C dx [("_ways", .ref w), ("_flags", .ref f)]))
theorem ok_binit (T : Txt K mg) {C p_OPERATIONS p_MENUS p_FLAGS : Addr} {gM : Str → Addr} (B : BF K mg C) (t : Tb K w mg p_OPERATIONS p_MENUS p_FLAGS gM) {f : Addr} {fd : FuncData} (D : Ob.MethAt K "__init__" "Book.__init__" sBook___init__ ["self"] f fd) :
    FnG P w K mg base CX0 1 f fd ["self"] (spBkInit C gM) := by
  have g_OPERATIONS := t.o
  have g_MENUS := t.m
  have g_FLAGS := t.f
  refine Ob.byG D scBook___init__ (fun vs H Q E h => ?_) (fun cd A hg outer s H vs Q E hr h => ?_)
  · obtain ⟨b, dx, rfl, _⟩ := h
    rfl
  · obtain ⟨b, dx, rfl, hb, q⟩ := h
    refine ⟨_, (pss_cons (ps_fld (pv 0) (pe_dc (wi := iTup K _) (own := [("operation", 1)]) (g := gName 1) (by rfl) scBook___init__.nd (pi_tup (pe_glob (v := .ref p_OPERATIONS) (by rfl) g_OPERATIONS rfl)) (blkOk_by (N := nBook___init__) (sc := defScope sBook___init__) (by decide +kernel)) (fun _ _ _ _ _ => pg_name (i := 1) scBook___init__.nd rfl (Or.inl rfl)) (fun _ _ _ _ _ => pts_nil) (fun _ _ _ _ _ => (pv 1)) (fun _ _ _ _ _ => (pe_ix (r := rIxD K w) ix_kdict (pe_glob (v := .ref p_MENUS) (by rfl) g_MENUS rfl) (pv 1) (fun _ _ => rfl)))) (by rfl))
  (pss_one (ps_fld (pv 0) (pe_dc (wi := iTup K _) (own := [("word", 2)]) (g := gName 2) (by rfl) scBook___init__.nd (pi_tup (pe_glob (v := .ref p_FLAGS) (by rfl) g_FLAGS rfl)) (blkOk_by (N := nBook___init__) (sc := defScope sBook___init__) (by decide +kernel)) (fun _ _ _ _ _ => pg_name (i := 2) scBook___init__.nd rfl (Or.inl rfl)) (fun _ _ _ _ _ => pts_nil) (fun _ _ _ _ _ => (pv 2)) (fun _ _ _ _ _ => pe_bl)) (by rfl)))), ?_⟩
    repeat walk_at "rd"
    refine dcP (a := p_OPERATIONS) (l := ops) (F := fun o => .ref (gM o)) ops_nd (by decide) (fun R k => k) t.to (fun _ => rfl) (fun o H1 R k => Rd.var rfl k) (fun o ho H1 R k => ?_) (fun w0 hw => ?_)
    · repeat walk_at "rd"
      exact ⟨p_MENUS, o, _, rfl, rfl, (t.tm o ho).1, k⟩
    have b0 : b ≠ w0 := fun e => by rw [e, hw] at hb; cases hb
    repeat walk_at "rd"
    refine ⟨b, C, dx, [], rfl, by rw [upd_ne b0]; exact hb, B.cl, B.n1, by decide, ?_⟩
    repeat walk_at "rd"
    refine dcP (a := p_FLAGS) (l := flagsW) (F := fun _ => .bl true) flags_nd (by decide) (fun R k => k) t.tf (fun _ => rfl) (fun o H1 R k => Rd.var rfl k) (fun o ho H1 R k => k) (fun f0 hf => ?_)
    have e1 : putF "_ways" (.ref w0) [] = [(("_ways" : Str), V.ref w0)] := rfl
    rw [e1] at hf
    have b1 : b ≠ f0 := fun e => by rw [← e, upd_same] at hf; cases hf
    repeat walk_at "rd"
    refine ⟨b, C, dx, [("_ways", .ref w0)], rfl, by rw [upd_ne b1, e1, upd_same], B.cl, B.n2, by simp, ?_⟩
    exact q w0 f0 hw hf
/-- Book() -/
theorem mkBk {C : Addr} {gM : Str → Addr} {σ : L2.St} {H : Hp} {Q : VK} (t : ∀ o ∈ ops, ∀ H, SqT K H (gM o) ((menu o).map V.str)) (h : NewBk K C gM menu (fun _ => true) Q H) : tMake C (spBkInit C gM) [] E0 tNil σ H Q := by
  refine Rd.makeR (Rd.nil fun b dx hb hdx nb => ⟨b, dx, rfl, upd_same, fun w0 f0 hw hf => ⟨rfl, ?_⟩⟩)
  have wb : w0 ≠ b := fun e => by subst e; rw [upd_same] at hw; cases hw
  rw [upd_ne wb] at hw
  have wd : w0 ≠ dx := fun e => by subst e; rw [upd_same] at hw; cases hw
  rw [upd_ne wd] at hw
  have fb : f0 ≠ b := fun e => by subst e; rw [upd_same] at hf; cases hf
  rw [upd_ne fb] at hf
  have fw : f0 ≠ w0 := fun e => by subst e; rw [upd_same] at hf; cases hf
  rw [upd_ne fw, upd_ne fb] at hf
  have fdx : f0 ≠ dx := fun e => by subst e; rw [upd_same] at hf; cases hf
  rw [upd_ne fdx] at hf
  refine h b w0 f0 _ (fun a u e => ?_) hb hw hf ⟨⟨dx, upd_same⟩, ?_, ?_, fun o ho => t o ho _, fun e => fw e.symm⟩
  · rw [upd_ne (ne_of_none e hb), upd_ne (ne_of_none e hf), upd_ne (ne_of_none e hb), upd_ne (ne_of_none e hw), upd_ne (ne_of_none e hb), upd_ne (ne_of_none e hdx)]
    exact e
  · rw [upd_ne wb, upd_ne (fun e => fw e.symm), upd_ne wb, upd_same]
  · rw [upd_ne fb, upd_same]
end
end Ab
namespace Ab
open PySem.Spec PyProof.Rows
local macro_rules | `(tactic| walk_at "rd") => `(tactic| (with_reducible first | refine Rd.sfld ?_ | refine Rd.dget ?_ | refine Rd.methR ?_ | refine Rd.propR ?_ | refine Rd.statR ?_ | refine Rd.getR ?_))
/-- the words that ways are made of -/
def wayW : List Str := ["truth", "length", "walk", "item", "back", "count", "hash", "call", "has", "own", "turned", "like", "turned_like", "grow", "plus"]
theorem menu_in : ∀ o ∈ ops, ∀ x ∈ menu o, x ∈ wayW := by decide +kernel
theorem wayW_W : ∀ x ∈ wayW, W6.W 100 x := by
  have h : ∀ x ∈ wayW, x.length ≤ 100 ∧ (TL.tl x).all (fun c => decide (c < 1000)) = true := by decide +kernel
  intro x hx
  exact ⟨(h x hx).1, fun c hc => of_decide_eq_true (List.all_eq_true.mp (h x hx).2 c hc)⟩
def dT (r : List Str) : PyData := .tuple (r.map PyData.str)
theorem shaped_dT {r : List Str} (h : ∀ w ∈ r, w ∈ wayW) : SeqAt.shaped (dT r) = true := by
  have := Dt.dep_strs r
  simp [SeqAt.shaped, dT, PyData.canLay0, Dt.lay_strs (fun w hw => wayW_W w (h w hw)), PyData.depth]
  omega
theorem eqv_dT (a b : List Str) : PyData.eqv (dT a) (dT b) = decide (a = b) := by
  show PyData.eqv (.tuple _) (.tuple _) = _
  rw [PyData.eqv, Dt.eqv_strs]
theorem hit_tab {F : V → V → Bool → Prop} {l0 : List Str} {f f' : Str → V} {e : Str → Bool} : ∀ {l : List Str}, (∀ o ∈ l, o ∈ l0 ∧ F (f o) (f' o) (e o)) → Ob.HitF F (tab l0 f') (tab l f) (l.all e)
  | [], _ => .nil
  | o :: l, h => by
    obtain ⟨h1, h2⟩ := h o List.mem_cons_self
    exact .hit (val_tab l0 f' h1) h2 (hit_tab fun x hx => h x (List.mem_cons_of_mem _ hx))
/-- ways out of the menus -/
def OkM (m : Str → List Str) : Prop := ∀ o ∈ ops, ∀ x ∈ m o, x ∈ wayW
def eqWays (m m' : Str → List Str) : Bool := ops.all fun o => decide (m o = m' o)
def eqFlags (fl fl' : Str → Bool) : Bool := flagsW.all fun x => decide (fl x = fl' x)
theorem eq_ways {K : PySem.W.Frag} {H : Hp} {w w' : Addr} {g g' : Str → Addr} {m m' : Str → List Str} (hw : H w = some (.dK (tab ops fun o => .ref (g o)))) (hw' : H w' = some (.dK (tab ops fun o => .ref (g' o)))) (t : ∀ o ∈ ops, SqT K H (g o) ((m o).map V.str)) (t' : ∀ o ∈ ops, SqT K H (g' o) ((m' o).map V.str))
    (k : OkM m) (k' : OkM m') : ∃ ks ls r, H w = some (.dK ks) ∧ H w' = some (.dK ls) ∧ Ob.HitF (Ob.EqB K H 2) ls ks r ∧ (ks.length == ls.length && r) = eqWays m m' := by
  refine ⟨_, _, eqWays m m', hw, hw', hit_tab fun o ho => ⟨ho, .inl ⟨dT (m o), dT (m' o), .tup (t o ho) (Dt.dp_strs _), .tup (t' o ho) (Dt.dp_strs _), shaped_dT (k o ho), shaped_dT (k' o ho), (eqv_dT _ _).symm⟩⟩, ?_⟩
  rw [tab_len, tab_len, beq_self_eq_true, Bool.true_and]
theorem eq_flags {K : PySem.W.Frag} {H : Hp} {f f' : Addr} {fl fl' : Str → Bool} (hw : H f = some (.dK (tab flagsW fun x => .bl (fl x)))) (hw' : H f' = some (.dK (tab flagsW fun x => .bl (fl' x)))) :
    ∃ ks ls r, H f = some (.dK ks) ∧ H f' = some (.dK ls) ∧ Ob.HitF (Ob.EqB K H 2) ls ks r ∧ (ks.length == ls.length && r) = eqFlags fl fl' := by
  refine ⟨_, _, eqFlags fl fl', hw, hw', hit_tab fun o ho => ⟨ho, .inl ⟨.bool (fl o), .bool (fl' o), .bl _, .bl _, rfl, rfl, ?_⟩⟩, ?_⟩
  · show decide (fl o = fl' o) = PyData.eqv (.bool (fl o)) (.bool (fl' o))
    cases fl o <;> cases fl' o <;> rfl
  · rw [tab_len, tab_len, beq_self_eq_true, Bool.true_and]
def gput (g : Str → Addr) (o : Str) (p : Addr) : Str → Addr := fun x => if x = o then p else g x
theorem gput_tab (g : Str → Addr) (o : Str) (p : Addr) : put (fun o => V.ref (g o)) o (.ref p) = fun x => V.ref (gput g o p x) := by
  funext x
  unfold put gput
  split <;> rfl
def fput (fl : Str → Bool) (o : Str) (c : Bool) : Str → Bool := fun x => if x = o then c else fl x
theorem fput_tab (fl : Str → Bool) (o : Str) (c : Bool) : put (fun x => V.bl (fl x)) o (.bl c) = fun x => V.bl (fput fl o c x) := by
  funext x
  unfold put fput
  split <;> rfl
section
variable {P : Program} {w : World} {K : PySem.W.Frag} {mg : Str → Option Value} {base : Heap}
abbrev sBook___getitem__ : Stmt := meth 54 3
abbrev nBook___getitem__ : List Str := ["self", "operation"]
theorem scBook___getitem__ : FnScope nBook___getitem__ ["self", "operation"] (defScope sBook___getitem__) := ⟨rfl, rfl, rfl, by decide +kernel, rfl, by decide +kernel, by decide +kernel⟩
def spBkGet (K : PySem.W.Frag) (C CN : Addr) : Sp := fun vs H Q E => ∃ (b w f : Addr) (g : Str → Addr) (m : Str → List Str) (fl : Str → Bool) (v : V) (tn : String), vs = [.ref b, v] ∧ Bk K C H b w f g m fl ∧ Kd K H v tn ∧ (∀ o, v = .str o → o ∈ ops → Q (.ref (g o)) H) ∧ (isIn v ops = false → OutB CN "value" v H E)
theorem ok_bkget {C CN : Addr} (B : BF K mg C) (CCheck_operation : Ex.CalX P w K mg base 3 "check_operation" (spCheckOp K CN ops)) {f : Addr} {fd : FuncData} (D : Ob.MethAt K "__getitem__" "Book.__getitem__" sBook___getitem__ ["self", "operation"] f fd) :
    FnG P w K mg base (L2.CX P w) 4 f fd ["self", "operation"] (spBkGet K C CN) := by
  refine Ob.byGX D scBook___getitem__ (fun vs H Q E h => ?_) (fun cd A hg outer s H vs Q E hr h => ?_)
  · obtain ⟨_, _, _, _, _, _, _, _, rfl, _⟩ := h
    rfl
  · obtain ⟨b, w0, f0, g, m, fl, v, tn, rfl, bk, kd, q1, q2⟩ := h
    obtain ⟨dx, hb⟩ := bk.ins
    refine ⟨_, (pss_cons (ps_expr (Ex.pe_x CCheck_operation hg hr (by decide) (takes_of rfl rfl rfl rfl) (pa_cons (pv 1) pa_nil)))
  (pss_one (ps_ret (pe_dget (one_ hr.units) (pe_fld (pv 0) (by rfl)) (pv 1) (fun _ _ => rfl))))), ?_⟩
    repeat walk_at "rd"
    refine ⟨v, tn, rfl, kd, fun c => ?_, q2⟩
    obtain ⟨o, rfl, ho⟩ := isIn_str c
    repeat walk_at "rd"
    refine Rd.fldV rfl hb B.cl B.n1 rfl ?_
    repeat walk_at "rd"
    exact ⟨w0, _, rfl, get_tab bk.wd ho, q1 o rfl ho⟩
abbrev sBook___setitem__ : Stmt := meth 54 4
abbrev nBook___setitem__ : List Str := ["self", "operation", "ways"]
theorem scBook___setitem__ : FnScope nBook___setitem__ ["self", "operation", "ways"] (defScope sBook___setitem__) := ⟨rfl, rfl, rfl, by decide +kernel, rfl, by decide +kernel, by decide +kernel⟩
def spBkSet (K : PySem.W.Frag) (C CN CW : Addr) : Sp := fun vs H Q E => ∃ (b w f : Addr) (g : Str → Addr) (m : Str → List Str) (fl : Str → Bool) (v x : V) (tn : String), vs = [.ref b, v, x] ∧ Bk K C H b w f g m fl ∧ Kd K H v tn ∧ (isIn v ops = false → OutB CN "value" v H E) ∧
  ∀ o, v = .str o → o ∈ ops → (∃ tx, TyX K H x (.type tx) ∧ kitB tx "tuple" = some false ∧ OutB CW "operation" v H E) ∨
    ∃ (p : Addr) (xs : List V), x = .ref p ∧ SqT K H p xs ∧ xs.length ≤ 1000 ∧ (∀ y ∈ xs, ∀ H', Same H H' → ∃ tn, Kd K H' y tn) ∧ (waysOk o xs = false → OutB CW "operation" v H E) ∧ (waysOk o xs = true → ∀ H', Same H H' → Q .non (upd H' w (.dK (tab ops fun y => .ref (gput g o p y)))))
theorem ok_bkset (T : Txt K mg) {C CN CW : Addr} (B : BF K mg C) (T_NoWays : Ex.ErrC K mg "NoWays" "operation" CW) (M_NoWays : Ex.InitOk P w K mg base "operation" CW) (CCheck_operation : Ex.CalX P w K mg base 3 "check_operation" (spCheckOp K CN ops)) (CAre_ways : CalG P w K mg base 2 "are_ways" (spWays K)) {f : Addr} {fd : FuncData}
    (D : Ob.MethAt K "__setitem__" "Book.__setitem__" sBook___setitem__ ["self", "operation", "ways"] f fd) : FnG P w K mg base (L2.CX P w) 4 f fd ["self", "operation", "ways"] (spBkSet K C CN CW) := by
  refine Ob.byGX D scBook___setitem__ (fun vs H Q E h => ?_) (fun cd A hg outer s H vs Q E hr h => ?_)
  · obtain ⟨_, _, _, _, _, _, _, _, _, rfl, _⟩ := h
    rfl
  · obtain ⟨b, w0, f0, g, m, fl, v, x, tn, rfl, bk, kd, q1, q2⟩ := h
    obtain ⟨dx, hb⟩ := bk.ins
    refine ⟨_, (pss_cons (ps_expr (Ex.pe_x CCheck_operation hg hr (by decide) (takes_of rfl rfl rfl rfl) (pa_cons (pv 1) pa_nil)))
  (pss_cons (ps_if (pt_not (pt_val (pe_cG CAre_ways hg hr (by decide) (pa_cons (pv 1) (pa_cons (pv 2) pa_nil)))))
  (pss_one (ps_raise rfl (takes_of rfl rfl rfl rfl) (Ex.pmkE T_NoWays M_NoWays hr (by decide) (pa_cons (pv 1) pa_nil))))
  pss_nil)
  (pss_one (ps_asg (pe_callTy call_tuple_of (by rfl) T.tuple (by decide +kernel) (pa_cons (pv 2) pa_nil)) (pg_sub (pe_fld (pv 0) (by rfl)) (pv 1) (set_dict (one_ hr.units))))))), ?_⟩
    repeat walk_at "rd"
    refine ⟨v, tn, rfl, kd, fun c => ?_, q1⟩
    obtain ⟨o, rfl, ho⟩ := isIn_str c
    repeat walk_at "rd"
    have bad : ∀ H1, Same H H1 → OutB CW "operation" (.str o) H E → _ := fun H1 s1 q => Ex.made (Q := fun cls d H => E cls d H) (q.at s1 H1 (Same.refl _))
    rcases q2 o rfl ho with ⟨tx, ty, kt, q⟩ | ⟨p, xs, rfl, hp, hl, hk, qb, qg⟩
    · refine ⟨o, x, rfl, ho, .inl ⟨tx, ty, kt, ?_⟩⟩
      repeat walk_at "rd"
      refine Rd.tt_ (Ex.mk ?_)
      repeat walk_at "rd"
      exact bad H (Same.refl _) q
    · refine ⟨o, .ref p, rfl, ho, .inr ⟨p, xs, rfl, hp, hl, hk, fun H1 s1 => ?_⟩⟩
      repeat walk_at "rd"
      refine Rd.bool (fun c => ?_) (fun c => ?_)
      · have c' : waysOk o xs = false := by simpa using c
        refine Ex.mk ?_
        repeat walk_at "rd"
        exact bad H1 s1 (qb c')
      · have c' : waysOk o xs = true := by simpa using c
        repeat walk_at "rd"
        refine ⟨p, xs, rfl, .inr ⟨sqT_same s1 hp, ?_⟩⟩
        repeat walk_at "rd"
        refine Rd.fldV rfl (s1 _ _ hb) B.cl B.n1 rfl ?_
        repeat walk_at "rd"
        refine ⟨w0, _, rfl, .inl ⟨_, .inr o, s1 _ _ bk.wd, rfl, ?_, rfl⟩, ?_⟩
        · rw [tab_len]; exact Rd.szl (by decide)
        · rw [put_tab _ _ _ ho, gput_tab]
          exact qg c' H1 s1
def spFl (K : PySem.W.Frag) (C : Addr) (x : Str) : Sp := fun vs H Q _ => ∃ (b w f : Addr) (g : Str → Addr) (m : Str → List Str) (fl : Str → Bool), vs = [.ref b] ∧ Bk K C H b w f g m fl ∧ Q (.bl (fl x)) H
abbrev sBook_bars_hash : Stmt := meth 54 5
abbrev nBook_bars_hash : List Str := ["self"]
theorem scBook_bars_hash : FnScope nBook_bars_hash ["self"] (defScope sBook_bars_hash) := ⟨rfl, rfl, rfl, by decide +kernel, rfl, by decide +kernel, by decide +kernel⟩
theorem ok_bars {C : Addr} (B : BF K mg C) {f : Addr} {fd : FuncData} (D : Ob.MethAt K "bars_hash" "Book.bars_hash" sBook_bars_hash ["self"] f fd) : FnG P w K mg base CX0 1 f fd ["self"] (spFl K C "bars_hash") := by
  refine Ob.byG D scBook_bars_hash (fun vs H Q E h => ?_) (fun cd A hg outer s H vs Q E hr h => ?_)
  · obtain ⟨_, _, _, _, _, _, rfl, _⟩ := h
    rfl
  · obtain ⟨b, w0, f0, g, m, fl, rfl, bk, q⟩ := h
    obtain ⟨dx, hb⟩ := bk.ins
    refine ⟨_, (pss_one (ps_ret (pe_dget (one_ hr.units) (pe_fld (pv 0) (by rfl)) pe_str (fun _ _ => rfl)))), ?_⟩
    repeat walk_at "rd"
    refine Rd.fldV rfl hb B.cl B.n2 rfl ?_
    repeat walk_at "rd"
    exact ⟨f0, _, rfl, get_tab bk.fd (by decide), q⟩
abbrev sBook_ends_same : Stmt := meth 54 7
abbrev nBook_ends_same : List Str := ["self"]
theorem scBook_ends_same : FnScope nBook_ends_same ["self"] (defScope sBook_ends_same) := ⟨rfl, rfl, rfl, by decide +kernel, rfl, by decide +kernel, by decide +kernel⟩
theorem ok_same {C : Addr} (B : BF K mg C) {f : Addr} {fd : FuncData} (D : Ob.MethAt K "ends_same" "Book.ends_same" sBook_ends_same ["self"] f fd) : FnG P w K mg base CX0 1 f fd ["self"] (spFl K C "ends_same") := by
  refine Ob.byG D scBook_ends_same (fun vs H Q E h => ?_) (fun cd A hg outer s H vs Q E hr h => ?_)
  · obtain ⟨_, _, _, _, _, _, rfl, _⟩ := h
    rfl
  · obtain ⟨b, w0, f0, g, m, fl, rfl, bk, q⟩ := h
    obtain ⟨dx, hb⟩ := bk.ins
    refine ⟨_, (pss_one (ps_ret (pe_dget (one_ hr.units) (pe_fld (pv 0) (by rfl)) pe_str (fun _ _ => rfl)))), ?_⟩
    repeat walk_at "rd"
    refine Rd.fldV rfl hb B.cl B.n2 rfl ?_
    repeat walk_at "rd"
    exact ⟨f0, _, rfl, get_tab bk.fd (by decide), q⟩
abbrev sBook_ends_true : Stmt := meth 54 9
abbrev nBook_ends_true : List Str := ["self"]
theorem scBook_ends_true : FnScope nBook_ends_true ["self"] (defScope sBook_ends_true) := ⟨rfl, rfl, rfl, by decide +kernel, rfl, by decide +kernel, by decide +kernel⟩
theorem ok_true {C : Addr} (B : BF K mg C) {f : Addr} {fd : FuncData} (D : Ob.MethAt K "ends_true" "Book.ends_true" sBook_ends_true ["self"] f fd) : FnG P w K mg base CX0 1 f fd ["self"] (spFl K C "ends_true") := by
  refine Ob.byG D scBook_ends_true (fun vs H Q E h => ?_) (fun cd A hg outer s H vs Q E hr h => ?_)
  · obtain ⟨_, _, _, _, _, _, rfl, _⟩ := h
    rfl
  · obtain ⟨b, w0, f0, g, m, fl, rfl, bk, q⟩ := h
    obtain ⟨dx, hb⟩ := bk.ins
    refine ⟨_, (pss_one (ps_ret (pe_dget (one_ hr.units) (pe_fld (pv 0) (by rfl)) pe_str (fun _ _ => rfl)))), ?_⟩
    repeat walk_at "rd"
    refine Rd.fldV rfl hb B.cl B.n2 rfl ?_
    repeat walk_at "rd"
    exact ⟨f0, _, rfl, get_tab bk.fd (by decide), q⟩
abbrev sBook_set_flag : Stmt := meth 54 11
abbrev nBook_set_flag : List Str := ["self", "word", "value"]
theorem scBook_set_flag : FnScope nBook_set_flag ["self", "word", "value"] (defScope sBook_set_flag) := ⟨rfl, rfl, rfl, by decide +kernel, rfl, by decide +kernel, by decide +kernel⟩
def spSetFlag (K : PySem.W.Frag) (C CN CF : Addr) : Sp := fun vs H Q E => ∃ (b w f : Addr) (g : Str → Addr) (m : Str → List Str) (fl : Str → Bool) (v x : V) (tn tx : String), vs = [.ref b, v, x] ∧ Bk K C H b w f g m fl ∧ Kd K H v tn ∧ Kd K H x tx ∧ (isIn v flagsW = false → OutB CN "value" v H E) ∧
  ∀ o, v = .str o → o ∈ flagsW → (isBl x = false → OutB CF "value" x H E) ∧ ∀ c, x = .bl c → Q .non (upd H f (.dK (tab flagsW fun y => .bl (fput fl o c y))))
theorem ok_set_flag {C CN CF pO pM p_FLAGS : Addr} {gM : Str → Addr} (B : BF K mg C) (t : Tb K w mg pO pM p_FLAGS gM) (T_NoName : Ex.ErrC K mg "NoName" "value" CN) (M_NoName : Ex.InitOk P w K mg base "value" CN) (CIs_one_of : CalG P w K mg base 1 "is_one_of" (spOneOf K)) (CCheck_flag : Ex.CalX P w K mg base 3 "check_flag" (spFlag K CF))
    {f : Addr} {fd : FuncData} (D : Ob.MethAt K "set_flag" "Book.set_flag" sBook_set_flag ["self", "word", "value"] f fd) : FnG P w K mg base (L2.CX P w) 4 f fd ["self", "word", "value"] (spSetFlag K C CN CF) := by
  have g_FLAGS := t.f
  refine Ob.byGX D scBook_set_flag (fun vs H Q E h => ?_) (fun cd A hg outer s H vs Q E hr h => ?_)
  · obtain ⟨_, _, _, _, _, _, _, _, _, _, rfl, _⟩ := h
    rfl
  · obtain ⟨b, w0, f0, g, m, fl, v, x, tn, tx, rfl, bk, kd, kx, q1, q2⟩ := h
    obtain ⟨dx, hb⟩ := bk.ins
    refine ⟨_, (pss_cons (ps_if (pt_not (pt_val (pe_cG CIs_one_of hg hr (by decide) (pa_cons (pv 1) (pa_cons (pe_glob (v := .ref p_FLAGS) (by rfl) g_FLAGS rfl) pa_nil)))))
  (pss_one (ps_raise rfl (takes_of rfl rfl rfl rfl) (Ex.pmkE T_NoName M_NoName hr (by decide) (pa_cons (pv 1) pa_nil))))
  pss_nil)
  (pss_cons (ps_expr (Ex.pe_x CCheck_flag hg hr (by decide) (takes_of rfl rfl rfl rfl) (pa_cons (pv 2) pa_nil)))
  (pss_one (ps_asg (pv 2) (pg_sub (pe_fld (pv 0) (by rfl)) (pv 1) (set_dict (one_ hr.units))))))), ?_⟩
    repeat walk_at "rd"
    refine ⟨v, p_FLAGS, tn, flagsW, rfl, kd, t.tf H, ?_⟩
    repeat walk_at "rd"
    refine Rd.bool (fun c => ?_) (fun c => ?_)
    · have c' : isIn v flagsW = false := by simpa using c
      refine Ex.mk ?_
      repeat walk_at "rd"
      exact Ex.made (q1 c' H (Same.refl _))
    · have c' : isIn v flagsW = true := by simpa using c
      obtain ⟨o, rfl, ho⟩ := isIn_str c'
      obtain ⟨qb, qg⟩ := q2 o rfl ho
      repeat walk_at "rd"
      refine ⟨x, tx, rfl, kx, fun c => ?_, qb⟩
      obtain ⟨z, rfl⟩ : ∃ z, x = .bl z := by cases x <;> first | exact ⟨_, rfl⟩ | cases c
      repeat walk_at "rd"
      refine Rd.fldV rfl hb B.cl B.n2 rfl ?_
      repeat walk_at "rd"
      refine ⟨f0, _, rfl, .inl ⟨_, .inr o, bk.fd, rfl, ?_, rfl⟩, ?_⟩
      · rw [tab_len]; exact Rd.szl (by decide)
      · rw [put_tab _ _ _ ho, fput_tab]
        exact qg z rfl
abbrev sBook_twin : Stmt := meth 54 12
abbrev nBook_twin : List Str := ["self", "book"]
theorem scBook_twin : FnScope nBook_twin ["self"] (defScope sBook_twin) := ⟨rfl, rfl, rfl, by decide +kernel, rfl, by decide +kernel, by decide +kernel⟩
def spBkTwin (K : PySem.W.Frag) (C : Addr) : Sp := fun vs H Q _ => ∃ (b w f : Addr) (g : Str → Addr) (m : Str → List Str) (fl : Str → Bool), vs = [.ref b] ∧ Bk K C H b w f g m fl ∧ NewBk K C g m fl Q H
theorem ok_bktwin (T : Txt K mg) {C pO pM pF : Addr} {gM : Str → Addr} (B : BF K mg C) (t : Tb K w mg pO pM pF gM) (I_Book : Ob.MkCal P w K mg base CX0 C 1 "Book" (spBkInit C gM)) {f : Addr} {fd : FuncData} (D : Ob.MethAt K "twin" "Book.twin" sBook_twin ["self"] f fd) :
    FnG P w K mg base CX0 3 f fd ["self"] (spBkTwin K C) := by
  refine Ob.byG D scBook_twin (fun vs H Q E h => ?_) (fun cd A hg outer s H vs Q E hr h => ?_)
  · obtain ⟨_, _, _, _, _, _, rfl, _⟩ := h
    rfl
  · obtain ⟨b, w0, f0, g, m, fl, rfl, bk, q⟩ := h
    obtain ⟨dx, hb⟩ := bk.ins
    refine ⟨_, (pss_cons (ps_set (i := 1) scBook_twin.nd rfl (Or.inl rfl) (Ob.make0 I_Book hg hr (by decide) pass0))
  (pss_cons (ps_fld (pv 1) (pe_callTy (r := Od2.rDictD) Od2.call_dict (by rfl) T.dict (by decide +kernel) (pa_cons (pe_fld (pv 0) (by rfl)) pa_nil)) (by rfl))
  (pss_cons (ps_fld (pv 1) (pe_callTy (r := Od2.rDictD) Od2.call_dict (by rfl) T.dict (by decide +kernel) (pa_cons (pe_fld (pv 0) (by rfl)) pa_nil)) (by rfl))
  (pss_one (ps_ret (pv 1)))))), ?_⟩
    repeat walk_at "rd"
    refine mkBk (fun o ho => (t.tm o ho).2) fun b1 w1 f1 H1 s1 nb nw nf bk1 => ?_
    obtain ⟨dx1, hb1⟩ := bk1.ins
    have bb : b ≠ b1 := fun e => by rw [e, nb] at hb; cases hb
    have keep : ∀ {H2 : Hp} {a : Addr}, Same H1 H2 → H2 a = none → H a = none := fun s2 e => by
      cases z : H _ with
      | none => rfl
      | some u => rw [s2 _ _ (s1 _ _ z)] at e; cases e
    repeat walk_at "rd"
    refine Rd.fldV rfl (s1 _ _ hb) B.cl B.n1 rfl ?_
    repeat walk_at "rd"
    refine ⟨w0, _, rfl, .inl (s1 _ _ bk.wd), fun d hd => ?_⟩
    have s2 := Rd.sNew (o := .dK (tab ops fun o => .ref (g o))) hd
    repeat walk_at "rd"
    refine ⟨b1, C, dx1, _, rfl, s2 _ _ hb1, B.cl, B.n1, by simp, ?_⟩
    have e1 : putF "_ways" (.ref d) [(("_ways" : Str), V.ref w1), (("_flags" : Str), V.ref f1)] = [(("_ways" : Str), V.ref d), (("_flags" : Str), V.ref f1)] := rfl
    rw [e1]
    have d1 : d ≠ b1 := fun e => by rw [e, hb1] at hd; cases hd
    repeat walk_at "rd"
    refine Rd.fldV rfl (by rw [upd_ne bb]; exact s2 _ _ (s1 _ _ hb)) B.cl B.n2 rfl ?_
    repeat walk_at "rd"
    have ff : f0 ≠ b1 := fun e => by have := bk.fd; rw [e, nb] at this; cases this
    refine ⟨f0, _, rfl, .inl (by rw [upd_ne ff]; exact s2 _ _ (s1 _ _ bk.fd)), fun e he => ?_⟩
    have eb : e ≠ b1 := fun z => by rw [z, upd_same] at he; cases he
    rw [upd_ne eb] at he
    have ed : e ≠ d := fun z => by rw [z, upd_same] at he; cases he
    rw [upd_ne ed] at he
    repeat walk_at "rd"
    refine ⟨b1, C, dx1, _, rfl, by rw [upd_ne (fun z => eb z.symm), upd_same], B.cl, B.n2, by simp, ?_⟩
    have e2 : putF "_flags" (.ref e) [(("_ways" : Str), V.ref d), (("_flags" : Str), V.ref f1)] = [(("_ways" : Str), V.ref d), (("_flags" : Str), V.ref e)] := rfl
    rw [e2]
    repeat walk_at "rd"
    have fin : Same H (upd (upd (upd (upd H1 d (.dK (tab ops fun o => .ref (g o)))) b1 (.ins C dx1 [("_ways", .ref d), ("_flags", .ref f1)])) e (.dK (tab flagsW fun x => .bl (fl x)))) b1 (.ins C dx1 [("_ways", .ref d), ("_flags", .ref e)])) := fun a u z => by
      have z1 := s1 _ _ z
      rw [upd_ne (ne_of_none z nb), upd_ne (ne_of_none z1 he), upd_ne (ne_of_none z nb), upd_ne (ne_of_none z1 hd)]
      exact z1
    refine q b1 d e _ fin nb (keep (Same.refl _) hd) (keep (Same.refl _) he) ⟨⟨dx1, upd_same⟩, ?_, ?_, fun o ho => sqT_same fin (bk.tp o ho), fun z => ed z.symm⟩
    · rw [upd_ne d1, upd_ne (fun z => ed z.symm), upd_ne d1, upd_same]
    · rw [upd_ne eb, upd_same]
abbrev sBook___len__ : Stmt := meth 54 16
abbrev nBook___len__ : List Str := ["self"]
theorem scBook___len__ : FnScope nBook___len__ ["self"] (defScope sBook___len__) := ⟨rfl, rfl, rfl, by decide +kernel, rfl, by decide +kernel, by decide +kernel⟩
def spBkLen (K : PySem.W.Frag) (C : Addr) : Sp := fun vs H Q _ => ∃ (b w f : Addr) (g : Str → Addr) (m : Str → List Str) (fl : Str → Bool), vs = [.ref b] ∧ Bk K C H b w f g m fl ∧ Q (.int 12) H
theorem ok_bklen (T : Txt K mg) {C : Addr} (B : BF K mg C) {f : Addr} {fd : FuncData} (D : Ob.MethAt K "__len__" "Book.__len__" sBook___len__ ["self"] f fd) : FnG P w K mg base CX0 1 f fd ["self"] (spBkLen K C) := by
  refine Ob.byG D scBook___len__ (fun vs H Q E h => ?_) (fun cd A hg outer s H vs Q E hr h => ?_)
  · obtain ⟨_, _, _, _, _, _, rfl, _⟩ := h
    rfl
  · obtain ⟨b, w0, f0, g, m, fl, rfl, bk, q⟩ := h
    obtain ⟨dx, hb⟩ := bk.ins
    refine ⟨_, (pss_one (ps_ret (pe_callB call_lenD (by rfl) T.len PySem.boot_len (pa_cons (pe_fld (pv 0) (by rfl)) pa_nil)))), ?_⟩
    repeat walk_at "rd"
    refine Rd.fldV rfl hb B.cl B.n1 rfl ?_
    repeat walk_at "rd"
    refine ⟨w0, _, rfl, bk.wd, ?_⟩
    rw [tab_len]
    exact q
/-- what isinstance asks of the class -/
structure BkIC (K : PySem.W.Frag) (C : Addr) : Prop where
  hc : PySem.W.findIn K (.ref C) "__class__" = some (some (.builtin "object.__class__"))
  hs : PySem.W.specialIn K (.builtin "object.__class__") "__get__" = some (some (.builtin "getset_descriptor.__get__"))
  ht : PySem.W.takesIn K (.builtin "object.__class__") = some true
theorem bk_ty {C : Addr} (B : BF K mg C) (c : BkIC K C) {H : Hp} {b w f : Addr} {g : Str → Addr} {m : Str → List Str} {fl : Str → Bool} (bk : Bk K C H b w f g m fl) : TyX K H (.ref b) (.ref C) := by
  obtain ⟨dx, hb⟩ := bk.ins
  exact .base (.ins hb B.cl c.hc c.hs c.ht B.ob)
theorem kit_self {C : Addr} : PySem.W.kitOne K (.ref C) (.ref C) = some true := by
  show (if (Value.ref C == Value.ref C) = true then some true else _) = _
  rw [if_pos (beq_self_eq_true _)]
def bookEq (m m' : Str → List Str) (fl fl' : Str → Bool) : Bool := eqWays m m' && eqFlags fl fl'
abbrev sBook___eq__ : Stmt := meth 54 14
abbrev nBook___eq__ : List Str := ["self", "other"]
theorem scBook___eq__ : FnScope nBook___eq__ ["self", "other"] (defScope sBook___eq__) := ⟨rfl, rfl, rfl, by decide +kernel, rfl, by decide +kernel, by decide +kernel⟩
def spBkEq (K : PySem.W.Frag) (C : Addr) : Sp := fun vs H Q _ => ∃ (b w f : Addr) (g : Str → Addr) (m : Str → List Str) (fl : Str → Bool) (y : V), vs = [.ref b, y] ∧ Bk K C H b w f g m fl ∧ OkM m ∧
  ((∃ t, TyX K H y t ∧ PySem.W.kitOne K t (.ref C) = some false ∧ Q (.bl false) H) ∨ ∃ (c w' f' : Addr) (g' : Str → Addr) (m' : Str → List Str) (fl' : Str → Bool), y = .ref c ∧ Bk K C H c w' f' g' m' fl' ∧ OkM m' ∧ Q (.bl (bookEq m m' fl fl')) H)
theorem ok_bkeq (T : Txt K mg) {C_Book : Addr} (K_Book : BF K mg C_Book) (ic : BkIC K C_Book) {f : Addr} {fd : FuncData} (D : Ob.MethAt K "__eq__" "Book.__eq__" sBook___eq__ ["self", "other"] f fd) : FnG P w K mg base CX0 1 f fd ["self", "other"] (spBkEq K C_Book) := by
  refine Ob.byG D scBook___eq__ (fun vs H Q E h => ?_) (fun cd A hg outer s H vs Q E hr h => ?_)
  · obtain ⟨_, _, _, _, _, _, _, rfl, _⟩ := h
    rfl
  · obtain ⟨b, w0, f0, g, m, fl, y, rfl, bk, om, h⟩ := h
    obtain ⟨dx, hb⟩ := bk.ins
    refine ⟨_, (pss_one (ps_ret (pe_and (pe_callB (r := rIsi K) call_isi (by rfl) T.isinstance (by decide +kernel) (pa_cons (pv 1) (pa_cons (pe_glob (v := .ref C_Book) (by rfl) K_Book.g rfl) pa_nil))) (pe_and (pe_cmpR (r := Ob.rEqX K false) (Ob.op_eqX (un80 hr)) (pe_fld (pv 0) (by rfl)) (pe_fld (pv 1) (by rfl)) (nomark _)) (pe_one (pe_cmpR (r := Ob.rEqX K false) (Ob.op_eqX (un80 hr)) (pe_fld (pv 0) (by rfl)) (pe_fld (pv 1) (by rfl)) (nomark _))))))), ?_⟩
    repeat walk_at "rd"
    rcases h with ⟨t, ty, kt, q⟩ | ⟨c, w', f', g', m', fl', rfl, bk', om', q⟩
    · refine ⟨y, .ref C_Book, t, .ref C_Book, false, rfl, .own _, ty, kt, ?_⟩
      repeat walk_at "rd"
      exact Rd.ff_ q
    · obtain ⟨dy, hc⟩ := bk'.ins
      refine ⟨.ref c, .ref C_Book, .ref C_Book, .ref C_Book, true, rfl, .own _, bk_ty K_Book ic bk', kit_self, ?_⟩
      repeat walk_at "rd"
      refine Rd.tt_ ?_
      repeat walk_at "rd"
      refine Rd.fldV rfl hb K_Book.cl K_Book.n1 rfl ?_
      refine Rd.fldV rfl hc K_Book.cl K_Book.n1 rfl ?_
      obtain ⟨ks, ls, r, h1, h2, h3, h4⟩ := eq_ways bk.wd bk'.wd bk.tp bk'.tp om om'
      refine ⟨w0, w', ks, ls, r, rfl, rfl, h1, h2, h3, ?_⟩
      rw [if_neg Bool.false_ne_true, h4]
      refine ⟨_, rfl, ?_⟩
      refine Rd.bool (fun c => ?_) (fun c => ?_)
      · repeat walk_at "rd"
        refine Rd.fldV rfl hb K_Book.cl K_Book.n2 rfl ?_
        refine Rd.fldV rfl hc K_Book.cl K_Book.n2 rfl ?_
        obtain ⟨ks, ls, r, h1, h2, h3, h4⟩ := eq_flags (K := K) bk.fd bk'.fd
        refine ⟨f0, f', ks, ls, r, rfl, rfl, h1, h2, h3, ?_⟩
        rw [if_neg Bool.false_ne_true, h4]
        rw [bookEq, c, Bool.true_and] at q
        exact q
      · rw [bookEq, c, Bool.false_and] at q
        exact q
end
end Ab
namespace Ab
open PySem.Spec PyProof.Rows
mutual
theorem okU_lay : ∀ d : PyData, okU d = true → PyData.canLay0 d = true
  | .none, _ => by simp [PyData.canLay0]
  | .bool b, _ => by simp [PyData.canLay0]
  | .int i, _ => by simp [PyData.canLay0]
  | .str z, h => by simpa [PyData.canLay0, okU] using h
  | .list xs, h => by simpa [PyData.canLay0] using okUA_lay xs (by simpa [okU] using h)
  | .tuple xs, h => by simpa [PyData.canLay0] using okUA_lay xs (by simpa [okU] using h)
  | .dict xs, h => by simp [okU] at h
theorem okUA_lay : ∀ ds : List PyData, okUA ds = true → PyData.canLayAll0 ds = true
  | [], _ => by simp [PyData.canLayAll0]
  | x :: xs, h => by
    rw [okUA, Bool.and_eq_true] at h
    simp [PyData.canLayAll0, okU_lay x h.1, okUA_lay xs h.2]
end
theorem nd_depth : ∀ nd : Nd, PyData.depth nd.d ≤ nd.dep
  | .word z => by simp [Nd.d, Nd.dep, PyData.depth, PyData.depthAll]
  | .cnt i => by simp [Nd.d, Nd.dep, PyData.depth, PyData.depthAll]
  | .ask1 o r => by simp [Nd.d, Nd.dep, PyData.depth, PyData.depthAll]
  | .ask2 o r q => by simp [Nd.d, Nd.dep, PyData.depth, PyData.depthAll]
  | .no a => by
    have := nd_depth a
    simp only [Nd.d, Nd.dep, PyData.depth, PyData.depthAll]
    omega
  | .iff a b c => by
    have := nd_depth a
    have := nd_depth b
    have := nd_depth c
    simp only [Nd.d, Nd.dep, PyData.depth, PyData.depthAll]
    omega
theorem roles_two {m r : Str} (h : r ∈ rolesOf m) : r ∈ (["self", "other"] : List Str) := by
  unfold rolesOf at h
  split at h
  · exact h
  · have := List.mem_singleton.mp h
    subst this
    decide +kernel
theorem leaf_word : ∀ z ∈ (["yes", "no", "raise", "further", "decline"] : List Str), okU (.tuple [.str z]) = true := by decide +kernel
theorem leaf_ask1 : ∀ o ∈ askOne, ∀ r ∈ (["self", "other"] : List Str), okU (.tuple [.str "ask", .str o, .str r]) = true := by decide +kernel
theorem leaf_ask2 : ∀ o ∈ askTwo, ∀ r ∈ (["self", "other"] : List Str), ∀ q ∈ (["self", "other"] : List Str), okU (.tuple [.str "ask", .str o, .str r, .str q]) = true := by decide +kernel
theorem leaf_cnt : ∀ i ∈ ([0, 1, 2, 3, 4] : List Int), okU (.tuple [.str "count", .int i]) = true := by decide +kernel
theorem all_okU {m : Str} : ∀ (nd : Nd) (t : Bool), nd.all m t = true → okU nd.d = true
  | .word z, t, h => leaf_word z (of_decide_eq_true (show decide (z ∈ (["yes", "no", "raise", "further", "decline"] : List Str)) = true from top_wd (nd := .word z) h))
  | .cnt i, t, h => by
    have h : (decide (0 ≤ i) && decide (i ≤ 4)) = true := h
    simp only [Bool.and_eq_true, decide_eq_true_eq] at h
    refine leaf_cnt i ?_
    simp only [List.mem_cons, List.not_mem_nil, or_false]
    omega
  | .ask1 o r, t, h => by
    have h : (decide (o ∈ askOne) && decide (r ∈ rolesOf m)) = true := h
    simp only [Bool.and_eq_true, decide_eq_true_eq] at h
    exact leaf_ask1 o h.1 r (roles_two h.2)
  | .ask2 o r q, t, h => by
    have h : (decide (o ∈ askTwo) && decide (r ∈ rolesOf m) && decide (q ∈ rolesOf m) && decide (r ≠ q)) = true := h
    simp only [Bool.and_eq_true, decide_eq_true_eq] at h
    exact leaf_ask2 o h.1.1.1 r (roles_two h.1.1.2) q (roles_two h.1.2)
  | .no a, t, h => by
    have h1 := all_okU a false h
    have e : okU (.str "not") = true := by decide +kernel
    simp only [Nd.d, okU, okUA] at h1 e ⊢
    rw [h1, e]
    rfl
  | .iff a b c, t, h => by
    have h : (a.all m false && b.all m t && c.all m t) = true := h
    rw [Bool.and_eq_true, Bool.and_eq_true] at h
    have h1 := all_okU a false h.1.1
    have h2 := all_okU b t h.1.2
    have h3 := all_okU c t h.2
    have e : okU (.str "if") = true := by decide +kernel
    simp only [Nd.d, okU, okUA] at h1 h2 h3 e ⊢
    rw [h1, h2, h3, e]
    rfl
theorem word_out : ∀ z ∈ (["yes", "no", "raise", "further", "decline"] : List Str), z ∉ partW ∧ z ≠ "count" ∧ z ≠ "ask" := by decide +kernel
theorem dep1 (nd : Nd) : 1 ≤ nd.dep := dep_pos nd
theorem size1 (nd : Nd) : 1 ≤ nd.size := by cases nd <;> simp [Nd.size]
theorem node_good {m : Str} {t : Bool} {nd : Nd} (h : nd.all m t = true) : nodeD m t nd.d = true := by
  cases nd with
  | word z =>
    have w := of_decide_eq_true (show decide (z ∈ (["yes", "no", "raise", "further", "decline"] : List Str)) = true from top_wd (nd := .word z) h)
    obtain ⟨h1, h2, h3⟩ := word_out z w
    have h1 : z ≠ "not" ∧ z ≠ "if" := by simpa [partW, not_or] using h1
    show wordD m z [] t = true
    unfold wordD
    rw [if_neg h1.1, if_neg h1.2, if_neg h2, if_neg h3]
    exact h
  | cnt i => exact h
  | ask1 o r =>
    have h : (decide (o ∈ askOne) && decide (r ∈ rolesOf m)) = true := h
    exact h
  | ask2 o r q =>
    have h : (decide (o ∈ askTwo) && decide (r ∈ rolesOf m) && decide (q ∈ rolesOf m) && decide (r ≠ q)) = true := h
    show (decide (o ∈ askTwo) && decide (r ∈ rolesOf m) && decide (q ∈ rolesOf m) && !(PyData.eqv (.str r) (.str q))) = true
    rw [eqv_str]
    simp only [Bool.and_eq_true, decide_eq_true_eq] at h
    simp [h]
  | no a => rfl
  | iff a b c => rfl
theorem wrF_good {m : Str} : ∀ (nd : Nd) (t : Bool) (f k : Nat), nd.all m t = true → nd.dep ≤ f → nd.size ≤ k → wrF m f nd.d t k = (none, k - nd.size)
  | nd, t, 0, k, h, hf, hk => absurd hf (by have := dep1 nd; omega)
  | .word z, t, f + 1, k, h, hf, hk => by
    have s1 := size1 (.word z)
    rw [wrF, if_neg (fun e => e.elim (fun e => by omega) fun e => by rw [node_good h] at e; cases e)]
    have w := of_decide_eq_true (show decide (z ∈ (["yes", "no", "raise", "further", "decline"] : List Str)) = true from top_wd (nd := .word z) h)
    have e : kidsD (Nd.word z).d = [] := if_neg (word_out z w).1
    rw [e]
    rfl
  | .cnt i, t, f + 1, k, h, hf, hk => by
    have s1 := size1 (.cnt i)
    rw [wrF, if_neg (fun e => e.elim (fun e => by omega) fun e => by rw [node_good h] at e; cases e)]
    rfl
  | .ask1 o r, t, f + 1, k, h, hf, hk => by
    have s1 := size1 (.ask1 o r)
    rw [wrF, if_neg (fun e => e.elim (fun e => by omega) fun e => by rw [node_good h] at e; cases e)]
    rfl
  | .ask2 o r q, t, f + 1, k, h, hf, hk => by
    have s1 := size1 (.ask2 o r q)
    rw [wrF, if_neg (fun e => e.elim (fun e => by omega) fun e => by rw [node_good h] at e; cases e)]
    rfl
  | .no a, t, f + 1, k, h, hf, hk => by
    have s1 := size1 (.no a)
    have h2 : a.all m false = true := h
    have hf : a.dep + 1 ≤ f + 1 := hf
    have hk : a.size + 1 ≤ k := hk
    rw [wrF, if_neg (fun e => e.elim (fun e => by omega) fun e => by rw [node_good h] at e; cases e)]
    show foldW (wrF m f) [(a.d, false)] (k - 1) = _
    have ih := wrF_good a false f (k - 1) h2 (by omega) (by omega)
    rw [foldW]
    show (match wrF m f a.d false (k - 1) with | (some n, k') => (some n, k') | (none, k') => foldW (wrF m f) [] k') = _
    rw [ih]
    show (none, k - 1 - a.size) = (none, k - (a.size + 1))
    rw [show k - 1 - a.size = k - (a.size + 1) by omega]
  | .iff a b c, t, f + 1, k, h, hf, hk => by
    have s1 := size1 (.iff a b c)
    have h2 : (a.all m false && b.all m t && c.all m t) = true := h
    rw [Bool.and_eq_true, Bool.and_eq_true] at h2
    have hf : max a.dep (max b.dep c.dep) + 1 ≤ f + 1 := hf
    have hk : a.size + b.size + c.size + 1 ≤ k := hk
    rw [wrF, if_neg (fun e => e.elim (fun e => by omega) fun e => by rw [node_good h] at e; cases e)]
    show foldW (wrF m f) [(a.d, false), (b.d, t), (c.d, t)] (k - 1) = _
    have i1 := wrF_good a false f (k - 1) h2.1.1 (by omega) (by omega)
    have i2 := wrF_good b t f (k - 1 - a.size) h2.1.2 (by omega) (by omega)
    have i3 := wrF_good c t f (k - 1 - a.size - b.size) h2.2 (by omega) (by omega)
    rw [foldW]
    show (match wrF m f a.d false (k - 1) with | (some n, k') => (some n, k') | (none, k') => foldW (wrF m f) [(b.d, t), (c.d, t)] k') = _
    rw [i1]
    show foldW (wrF m f) [(b.d, t), (c.d, t)] (k - 1 - a.size) = _
    rw [foldW]
    show (match wrF m f b.d t (k - 1 - a.size) with | (some n, k') => (some n, k') | (none, k') => foldW (wrF m f) [(c.d, t)] k') = _
    rw [i2]
    show foldW (wrF m f) [(c.d, t)] (k - 1 - a.size - b.size) = _
    rw [foldW]
    show (match wrF m f c.d t (k - 1 - a.size - b.size) with | (some n, k') => (some n, k') | (none, k') => foldW (wrF m f) [] k') = _
    rw [i3]
    show (none, k - 1 - a.size - b.size - c.size) = (none, k - (a.size + b.size + c.size + 1))
    rw [show k - 1 - a.size - b.size - c.size = k - (a.size + b.size + c.size + 1) by omega]
theorem goW_good {m : Str} {nd : Nd} (ok : BdOk m nd) : goW m 16 [(nd.d, 1, true)] = none := by
  rw [goW_top, wrF_good nd true 6 16 ok.all ok.dep ok.size]
theorem d_inj : ∀ {a b : Nd}, a.d = b.d → a = b
  | .no a, .no b, h => by
    have h : PyData.tuple [.str "not", a.d] = .tuple [.str "not", b.d] := h
    injection h with h
    have := (List.cons.inj (List.cons.inj h).2).1
    rw [d_inj this]
  | .iff a b c, .iff a' b' c', h => by
    have h : PyData.tuple [.str "if", a.d, b.d, c.d] = .tuple [.str "if", a'.d, b'.d, c'.d] := h
    injection h with h
    have h1 := List.cons.inj (List.cons.inj h).2
    have h2 := List.cons.inj h1.2
    have h3 := List.cons.inj h2.2
    rw [d_inj h1.1, d_inj h2.1, d_inj h3.1]
  | .word z, b, h => by cases b <;> simp [Nd.d] at h <;> simp [h]
  | .cnt i, b, h => by cases b with
    | no a => simp only [Nd.d, PyData.tuple.injEq, List.cons.injEq, PyData.str.injEq] at h; exact absurd h.1 (by decide +kernel)
    | _ => simp [Nd.d] at h <;> simp [h]
  | .ask1 o r, b, h => by cases b <;> simp [Nd.d] at h <;> simp [h]
  | .ask2 o r q, b, h => by cases b with
    | iff a b c => simp only [Nd.d, PyData.tuple.injEq, List.cons.injEq, PyData.str.injEq] at h; exact absurd h.1 (by decide +kernel)
    | _ => simp [Nd.d] at h <;> simp [h]
  | .no a, .word _, h => by simp [Nd.d] at h
  | .no a, .cnt _, h => by simp only [Nd.d, PyData.tuple.injEq, List.cons.injEq, PyData.str.injEq] at h; exact absurd h.1 (by decide +kernel)
  | .no a, .ask1 _ _, h => by simp [Nd.d] at h
  | .no a, .ask2 _ _ _, h => by simp [Nd.d] at h
  | .no a, .iff _ _ _, h => by simp [Nd.d] at h
  | .iff a b c, .word _, h => by simp [Nd.d] at h
  | .iff a b c, .cnt _, h => by simp [Nd.d] at h
  | .iff a b c, .ask1 _ _, h => by simp [Nd.d] at h
  | .iff a b c, .ask2 _ _ _, h => by simp only [Nd.d, PyData.tuple.injEq, List.cons.injEq, PyData.str.injEq] at h; exact absurd h.1 (by decide +kernel)
  | .iff a b c, .no _, h => by simp [Nd.d] at h
theorem nd_wid : ∀ nd : Nd, wid nd.d ≤ 4
  | .word z => by simp [Nd.d, wid, widA]
  | .cnt i => by simp [Nd.d, wid, widA]
  | .ask1 o r => by simp [Nd.d, wid, widA]
  | .ask2 o r q => by simp [Nd.d, wid, widA]
  | .no a => by
    have := nd_wid a
    simp only [Nd.d, wid, widA, List.length_cons, List.length_nil]
    omega
  | .iff a b c => by
    have := nd_wid a
    have := nd_wid b
    have := nd_wid c
    simp only [Nd.d, wid, widA, List.length_cons, List.length_nil]
    omega
theorem bdok_uni {m : Str} {nd : Nd} (ok : BdOk m nd) : Uni nd.d := ⟨all_okU nd true ok.all, by have := nd_wid nd; omega, by have := nd_depth nd; have := ok.dep; omega⟩
theorem nd_shp {m : Str} {nd : Nd} (ok : BdOk m nd) : SeqAt.shaped nd.d = true := by
  show (PyData.canLay0 nd.d && decide (PyData.depth nd.d ≤ 64)) = true
  rw [okU_lay _ (all_okU nd true ok.all), decide_eq_true (by have := nd_depth nd; have := ok.dep; omega)]; rfl
theorem nd_eqv {m : Str} {nd : Nd} (ok : BdOk m nd) : PyData.eqv nd.d nd.d = true := SeqAt.eqv_refl _ (SeqAt.canLay_of_shaped (nd_shp ok))
/-- what isinstance knows of the class Body -/
structure BIC (K : PySem.W.Frag) (C : Addr) : Prop where
  hc : PySem.W.findIn K (.ref C) "__class__" = some (some (.builtin "object.__class__"))
  hs : PySem.W.specialIn K (.builtin "object.__class__") "__get__" = some (some (.builtin "getset_descriptor.__get__"))
  ht : PySem.W.takesIn K (.builtin "object.__class__") = some true
theorem meth_in : ∀ z ∈ methods, PyData.strOk z = true := by decide +kernel
theorem meth_shaped {z : Str} (h : z ∈ methods) : SeqAt.shaped (.str z) = true := by
  show (PyData.canLay0 (.str z) && decide (PyData.depth (.str z) ≤ 64)) = true
  rw [show PyData.canLay0 (.str z) = true from by simpa [PyData.canLay0] using meth_in z h]
  simp [PyData.depth]
section
variable {P : Program} {w : World} {K : PySem.W.Frag} {mg : Str → Option Value} {base : Heap} {C : Addr}
theorem bd_ty (B : BdF K mg C) (c : BIC K C) {H : Hp} {b L : Addr} {m : Str} {v : V} {nd : Nd} (bk : BdA K C H b L m v nd) : TyX K H (.ref b) (.ref C) := by
  obtain ⟨dx, hb⟩ := bk.ins
  exact .base (.ins hb B.cl c.hc c.hs c.ht B.ob)
abbrev sBody___eq__ : Stmt := meth 49 2
abbrev nBody___eq__ : List Str := ["self", "other"]
theorem scBody___eq__ : FnScope nBody___eq__ ["self", "other"] (defScope sBody___eq__) := ⟨rfl, rfl, rfl, by decide +kernel, rfl, by decide +kernel, by decide +kernel⟩
def spBEq (K : PySem.W.Frag) (C : Addr) : Sp := fun vs H Q _ => ∃ (b L : Addr) (m : Str) (v : V) (nd : Nd) (b2 L2 : Addr) (m2 : Str) (v2 : V) (nd2 : Nd), vs = [.ref b, .ref b2] ∧ BdA K C H b L m v nd ∧ BdOk m nd ∧ BdA K C H b2 L2 m2 v2 nd2 ∧ BdOk m2 nd2 ∧ Q (.bl (decide (m = m2) && PyData.eqv nd.d nd2.d)) H
theorem ok_beq (T : Txt K mg) {C_Body : Addr} (K_Body : BdF K mg C_Body) (ic : BIC K C_Body) {f : Addr} {fd : FuncData} (D : Ob.MethAt K "__eq__" "Body.__eq__" sBody___eq__ ["self", "other"] f fd) : FnG P w K mg base CX0 1 f fd ["self", "other"] (spBEq K C_Body) := by
  refine Ob.byG D scBody___eq__ (fun vs H Q E h => ?_) (fun cd A hg outer s H vs Q E hr h => ?_)
  · obtain ⟨_, _, _, _, _, _, _, _, _, _, rfl, _⟩ := h
    rfl
  · obtain ⟨b, L, m, v, nd, b2, L2, m2, v2, nd2, rfl, bk, bd, bk', bd', q⟩ := h
    obtain ⟨dx, hb⟩ := bk.ins
    refine ⟨_, (pss_one (ps_ret (pe_and (pe_callB (r := rIsi K) call_isi (by rfl) T.isinstance (by decide +kernel) (pa_cons (pv 1) (pa_cons (pe_glob (v := .ref C_Body) (by rfl) K_Body.g rfl) pa_nil))) (pe_and (pe_cmpR (r := rEqD K) (op_eqD hr.units) (pe_fld (pv 0) (by rfl)) (pe_fld (pv 1) (by rfl)) (nomark _)) (pe_one (pe_cmpR (r := rEqD K) (op_eqD hr.units) (pe_fld (pv 0) (by rfl)) (pe_fld (pv 1) (by rfl)) (nomark _))))))), ?_⟩
    repeat walk_at "rd"
    obtain ⟨dy, hc⟩ := bk'.ins
    refine ⟨.ref b2, .ref C_Body, .ref C_Body, .ref C_Body, true, rfl, .own _, bd_ty K_Body ic bk', kit_self, ?_⟩
    repeat walk_at "rd"
    refine Rd.tt_ ?_
    repeat walk_at "rd"
    refine Rd.fldV rfl hb K_Body.cl K_Body.n1 rfl ?_
    refine Rd.fldV rfl hc K_Body.cl K_Body.n1 rfl ?_
    refine Rd.eqD (d := .str m) (e := .str m2) (.str _) (.str _) (meth_shaped bd.mm) (meth_shaped bd'.mm) ?_
    rw [eqv_str]
    refine ⟨_, rfl, ?_⟩
    refine Rd.bool (fun c => ?_) (fun c => ?_)
    · rw [c, Bool.true_and] at q
      repeat walk_at "rd"
      refine Rd.fldV rfl hb K_Body.cl K_Body.n2 rfl ?_
      refine Rd.fldV rfl hc K_Body.cl K_Body.n2 rfl ?_
      exact Rd.eqD bk.dp bk'.dp (nd_shp bd) (nd_shp bd') q
    · rw [c, Bool.false_and] at q
      exact q
/-- body != y, of two bodies that are equal -/
theorem neB {H : Hp} {Q : VK} {b L b2 L2 : Addr} {m : Str} {v v2 : V} {nd : Nd} (B : BdF K mg C) (ic : BIC K C) (k : BdA K C H b L m v nd) (d : BdOk m nd) (k' : BdA K C H b2 L2 m v2 nd) (q : Q (.bl false) H) : Ob.rEqO K C (spBEq K C) true (.ref b) (.ref b2) H Q := by
  obtain ⟨dx, hb⟩ := k.ins
  refine ⟨b, dx, _, .ref C, rfl, hb, bd_ty B ic k', by show (Value.ref C == Value.ref C || _) = true; simp, b, L, m, v, nd, b2, L2, m, v2, nd, rfl, k, d, k', d, _, rfl, ?_⟩
  rw [if_pos rfl, decide_eq_true rfl, nd_eqv d]
  exact q
def orR (r1 r2 : R2) : R2 := fun x y H Q => r1 x y H Q ∨ r2 x y H Q
theorem orOp {X : Cx} {op : Value → Value → Sem Value} {r1 r2 : R2} (h1 : OpR X op r1) (h2 : OpR X op r2) : OpR X op (orR r1 r2) := by
  intro pins s σ H x y v u Q I rx ry h
  exact h.elim (h1 pins s σ H x y v u Q I rx ry) (h2 pins s σ H x y v u Q I rx ry)
/-- a body made -/
theorem mkB {CN CB : Addr} {H1 : Hp} {R : Addr → Hp → Prop} {E : XK} {m : Str} {v : V} {nd : Nd} (ok : BdOk m nd) (dp : Dp K H1 v nd.d) (hq : ∀ b L H', Same H1 H' → H1 b = none → BdA K C H' b L m v nd → R b H') :
    ∀ x dx, H1 x = none → H1 dx = none → dx ≠ x → spBInit K C CN CB (.ref x :: ([.str m, v] ++ [])) (upd (upd H1 dx (.own x)) x (.ins C dx [])) (fun v H2 => v = .non ∧ R x H2) E := by
  intro b dx hb hdx nb
  have s1 : Same H1 (upd (upd H1 dx (.own b)) b (.ins C dx [])) := fun a u e => by
    rw [upd_ne (ne_of_none e hb), upd_ne (ne_of_none e hdx)]
    exact e
  have hm : m ∈ bodyM := (bodyM_iff m ok.mm).mp ok.kk
  refine ⟨b, dx, .str m, v, "str", nd.d, rfl, upd_same, kd_str m, dp_mono s1 dp, bdok_uni ok, fun z => absurd ((decide_eq_true hm).symm.trans z) (by decide), fun m' e _ => ?_⟩
  cases e
  refine ⟨fun n en => absurd ((goW_good ok).symm.trans en) (by intro z; cases z), fun _ L H' k nL hb2 => ⟨rfl, ?_⟩⟩
  have s2 : Same H1 H' := fun a u e => k a u (ne_of_none e hb) (s1 _ _ e)
  exact hq b L H' s2 hb ⟨⟨dx, hb2⟩, dp_mono s2 dp⟩
end
end Ab
namespace Ab
open M6 PySem.Spec PyProof.Rows
def Strs (K : PySem.W.Frag) (r : List Str) (v : V) (H : Hp) : Prop := ∃ p, v = .ref p ∧ Sq.A K H p (r.map V.str)
theorem Strs.stays (K : PySem.W.Frag) : Rd.Stays (Strs K) := fun r x H H' s ⟨p, e, h⟩ => ⟨p, e, h.same s⟩
def RowsAt (K : PySem.W.Frag) (rows : List (List Str)) (a : Addr) (H : Hp) : Prop := ∃ xs, SqL K H a xs ∧ Paired (fun r x => Strs K r x H) rows xs
theorem RowsAt.mono {K : PySem.W.Frag} {rows : List (List Str)} {a : Addr} {H H' : Hp} (s : Same H H') (h : RowsAt K rows a H) : RowsAt K rows a H' :=
  let ⟨xs, h1, h2⟩ := h; ⟨xs, s.seq h1, Rd.pair_imp (fun r x => Strs.stays K r x _ _ s) h2⟩
structure Small (rows : List (List Str)) : Prop where
  n : rows.length ≤ 100
  m : ∀ r ∈ rows, r.length ≤ 100
def optS : Option Str → V
  | none => .non
  | some s => .str s
/-- new objects (of none that H knows) -/
def NStrs (H : Hp) (r : List Str) (v : V) (H' : Hp) : Prop := ∃ p, v = .ref p ∧ H p = none ∧ H' p = some (.lst (r.map V.str))
theorem NStrs.stays (H0 : Hp) : Rd.Stays (NStrs H0) := fun r x H H' s ⟨p, e, n, h⟩ => ⟨p, e, n, s _ _ h⟩
structure NewRows (H : Hp) (rows : List (List Str)) (p : Addr) (H' : Hp) : Prop where
  new : H p = none
  at_ : ∃ xs, H' p = some (.lst xs) ∧ Paired (fun r x => NStrs H r x H') rows xs
theorem NewRows.rows {K : PySem.W.Frag} {H H' : Hp} {rows : List (List Str)} {p : Addr} (h : NewRows H rows p H') : RowsAt K rows p H' :=
  let ⟨xs, h1, h2⟩ := h.at_; ⟨xs, SqL.of h1, Rd.pair_imp (fun r x ⟨q, e, _, hq⟩ => ⟨q, e, .inl (SqL.of hq)⟩) h2⟩
def hide (k : Addr) (H : Hp) : Hp := fun b => if b = k then none else H b
theorem hide_at (k : Addr) (H : Hp) : hide k H k = none := if_pos rfl
theorem hide_ne {k b : Addr} (H : Hp) (h : b ≠ k) : hide k H b = H b := if_neg h
theorem hide_same (k : Addr) (H : Hp) : Same (hide k H) H := fun b o e => by
  by_cases h : b = k
  · subst h; rw [hide_at] at e; cases e
  · rw [hide_ne H h] at e; exact e
theorem NewRows.hide {K : PySem.W.Frag} {H H' : Hp} {rows : List (List Str)} {p k : Addr} (h : NewRows H rows p H') (hk : H k ≠ none) : RowsAt K rows p (hide k H') := by
  obtain ⟨xs, h1, h2⟩ := h.at_
  have ne : ∀ b, H b = none → b ≠ k := fun b z e => hk (by rw [← e]; exact z)
  exact ⟨xs, SqL.of (by rw [hide_ne _ (ne _ h.new)]; exact h1), Rd.pair_imp (fun r x ⟨q, e, z, hq⟩ => ⟨q, e, .inl (SqL.of (by rw [hide_ne _ (ne _ z)]; exact hq))⟩) h2⟩
theorem small_without {rows : List (List Str)} {w : Str} (s : Small rows) : Small (without rows w) := by
  refine ⟨?_, fun r hr => ?_⟩
  · unfold M6.without
    have := List.length_filter_le (fun r => !r.isEmpty) (rows.map fun r => r.filter fun x => decide (x ≠ w))
    rw [List.length_map] at this
    exact Nat.le_trans this s.n
  · unfold M6.without at hr
    obtain ⟨h1, _⟩ := List.mem_filter.mp hr
    obtain ⟨r0, h0, rfl⟩ := List.mem_map.mp h1
    exact Nat.le_trans (List.length_filter_le _ _) (s.m _ h0)
theorem small_full {rows : List (List Str)} (s : Small rows) : Small (full rows) :=
  ⟨Nat.le_trans (List.length_filter_le _ _) s.n, fun r hr => s.m r (List.mem_filter.mp hr).1⟩
theorem size_le : ∀ {rows : List (List Str)}, (∀ r ∈ rows, r.length ≤ 100) → size rows ≤ rows.length * 100
  | [], _ => Nat.le_refl _
  | a :: rows, h => by
    rw [size_cons, List.length_cons]
    have := size_le (rows := rows) fun r hr => h r (List.mem_cons_of_mem _ hr)
    have := h a List.mem_cons_self
    omega
theorem small_size {rows : List (List Str)} (s : Small rows) : size rows ≤ 10000 := by
  have := size_le s.m
  have := s.n
  omega
section
variable {P : Program} {w : World} {K : PySem.W.Frag} {mg : Str → Option Value} {base : Heap}
abbrev sFree_head : Stmt := top 57
abbrev nFree_head : List Str := ["rows", "row", "other"]
theorem scFree_head : FnScope nFree_head ["rows"] (defScope sFree_head) := ⟨rfl, rfl, rfl, by decide +kernel, rfl, by decide +kernel, by decide +kernel⟩
def spFree (K : PySem.W.Frag) : Sp := fun vs H Q _ => ∃ (a : Addr) (rows : List (List Str)), vs = [.ref a] ∧ RowsAt K rows a H ∧ (∀ r ∈ rows, r ≠ []) ∧ Small rows ∧ ∀ H', Same H H' → Q (optS (headOf rows)) H'
theorem ok_free (T : Txt K mg) (D : DefAt K mg "_free_head" sFree_head ["rows"]) : CalG P w K mg base 1 "_free_head" (spFree K) := by
  refine D.by scFree_head (fun vs H Q E h => ?_) (fun f cd A hg outer s H vs Q E hr h => ?_)
  · obtain ⟨a, ns, rfl, _⟩ := h
    rfl
  · obtain ⟨a, rows, rfl, ⟨xs, hl, hp⟩, ne, sm, q⟩ := h
    refine ⟨_, (pss_cons (ps_for (wi := iList K _) PassesOwn.never rfl (pi_list (pv 0)) (pg_name (i := 1) scFree_head.nd rfl (Or.inr rfl))
  (pss_one (ps_if (pt_not (pt_val (pe_callB (r := rAny K) (cr_any rfl) (by rfl) T.any (by decide +kernel) (pa_cons (pe_lc (wi := iList K _) (own := [("other", 2)]) (g := gName 2) (by rfl) scFree_head.nd (pi_list (pv 0)) (blkOk_by (N := nFree_head) (sc := defScope sFree_head) (by decide +kernel)) (fun _ _ _ _ _ => pg_name (i := 2) scFree_head.nd rfl (Or.inl rfl)) (fun _ _ _ _ _ => pts_nil) (fun _ _ _ _ _ => (pe_cmpR (r := rIn K false) op_in_seq (pe_ix (r := Sq.rIxA K) Sq.ix_any (pv 1) pe_int (fun _ _ => rfl)) (pe_slice (r := Sq.rSlA K) Sq.sl_any (pv 2) (po_some pe_int) po_none) (by rfl)))) pa_nil))))
  (pss_one (ps_ret (pe_ix (r := Sq.rIxA K) Sq.ix_any (pv 1) pe_int (fun _ _ => rfl))))
  pss_nil)))
  (pss_one (ps_ret pe_non))), ?_⟩
    have hlen := Rd.pair_len hp
    refine ⟨_, rfl, a, rfl, ⟨xs, hl⟩, for_list (K := K) (a := a) (xs := xs) (fun i σ H1 => ∃ v, σ = [some (.ref a), v, none] ∧ Same H H1 ∧ ∀ r ∈ rows.take i, isHead rows r = false) ⟨none, rfl, Same.refl _, by simp⟩ (fun i σ H1 _ ⟨_, _, s, _⟩ => s.seq hl) ?_ ?_⟩
    · rintro i x σ H1 hx ⟨v, rfl, s, no⟩
      obtain ⟨r, hr0, p, rfl, hrl⟩ := Rd.pair_get hp hx
      have mem : r ∈ rows := List.mem_of_getElem? hr0
      obtain ⟨w0, t, rfl⟩ : ∃ w0 t, r = w0 :: t := by
        cases r with
        | nil => exact absurd rfl (ne _ mem)
        | cons w0 t => exact ⟨w0, t, rfl⟩
      have hrl1 := hrl.same s
      repeat walk_at "rd"
      refine Rd.lcL (K := K) (a := a) (xs := xs) (bs := rows) (Strs K) (fun (b : Bool) y _ => y = .bl b) (fun _ => true) (fun o => decide (w0 ∈ o.tail)) (fun R k => Rd.var rfl k) (s.seq hl) (Strs.stays K) (fun _ _ _ _ _ h => h)
        (Rd.pair_imp (fun r x => Strs.stays K r x _ _ s) hp) (by have := sm.n; omega) (fun _ => rfl) (fun b x H2 R _ _ _ s2 k => Rd.yes (k H2 (Same.refl _))) ?_ ?_
      · rintro o x H2 R ho _ _ ⟨po, rfl, hpo⟩ s2 k
        have hrl2 := hrl1.same s2
        repeat walk_at "rd"
        refine Sq.ixR hrl2 (by exact Rd.at0) ?_
        repeat walk_at "rd"
        refine Sq.sl1R hpo fun q H3 s3 hq => ?_
        refine Sq.inR hq rfl ?_ (k _ _ s3 (Rd.off_any (B := fun y => y = .bl _) ?_))
        · rw [← List.map_tail]; exact flat_strs _
        · rw [← List.map_tail, inV_str]; rfl
      · intro D ys H2 hD s2 hd pr
        have e : ys = (rows.map fun o => decide (w0 ∈ o.tail)).map V.bl := by
          rw [List.filter_eq_self.mpr (by simp)] at pr
          exact Rd.pair_map pr
        subst e
        repeat walk_at "rd"
        refine Rd.any_ (bs := rows.map fun o => decide (w0 ∈ o.tail)) (SqL.of hd) ?_
        repeat walk_at "rd"
        have ok : okHead rows w0 = !((rows.map fun o => decide (w0 ∈ o.tail)).any id) := by
          unfold okHead
          rw [List.any_map, List.all_eq_not_any_not]
          simp [Function.comp_def]
        have s3 := s.trans s2
        have hrl3 := hrl1.same s2
        refine Rd.bool (fun c => ?_) (fun c => ?_)
        · repeat walk_at "rd"
          refine Sq.ixR hrl3 (by exact Rd.at0) ?_
          have hh : isHead rows (w0 :: t) = true := by show okHead rows w0 = true; rw [ok]; exact c
          have e : headOf rows = some w0 := by unfold headOf; rw [find_at no hr0 hh]; rfl
          have := q _ s3
          rw [e] at this
          exact this
        · repeat walk_at "rd"
          have hh : isHead rows (w0 :: t) = false := by show okHead rows w0 = false; rw [ok]; exact c
          refine ⟨some (.ref p), rfl, s3, fun r hr => ?_⟩
          rw [Rd.take_succ hr0, List.mem_append] at hr
          rcases hr with hr | hr
          · exact no r hr
          · obtain rfl : r = w0 :: t := by simpa using hr
            exact hh
    · rintro σ H1 ⟨v, rfl, s, no⟩
      repeat walk_at "rd"
      rw [← hlen, List.take_length] at no
      have e : headOf rows = none := by unfold headOf; rw [find_no no]; rfl
      have := q _ s
      rw [e] at this
      exact this
theorem off_strs {H H1 H2 : Hp} {p : Addr} {r : List Str} (h1 : H1 p = none) (h2 : H2 p = some (.lst (r.map V.str))) : Rd.Off H H1 H2 (Strs K r) (.ref p) := fun D o _ hD =>
  ⟨p, rfl, .inl (SqL.of (by rw [upd_ne (fun e => hD (by rw [← e]; exact h1))]; exact h2))⟩
theorem off_new {H0 H H1 H2 : Hp} {p : Addr} {r : List Str} (h0 : H0 p = none) (h1 : H1 p = none) (h2 : H2 p = some (.lst (r.map V.str))) : Rd.Off H H1 H2 (NStrs H0 r) (.ref p) := fun D o _ hD =>
  ⟨p, rfl, h0, by rw [upd_ne (fun e => hD (by rw [← e]; exact h1))]; exact h2⟩
theorem ne_str (a b : Str) : (!decide (V.str a = V.str b)) = decide (a ≠ b) := by
  by_cases e : a = b
  · subst e; simp
  · have : ¬ V.str a = V.str b := fun z => e (V.str.inj z)
    simp [e, this]
theorem strs_pair (r : List Str) (H : Hp) : Paired (fun s (x : V) => x = V.str s) r (r.map V.str) := by
  induction r with
  | nil => exact .nil
  | cons a r ih => exact .cons rfl ih
abbrev sWithout : Stmt := top 58
abbrev nWithout : List Str := ["rows", "name", "left", "word", "row", "words"]
theorem scWithout : FnScope nWithout ["rows", "name"] (defScope sWithout) := ⟨rfl, rfl, rfl, by decide +kernel, rfl, by decide +kernel, by decide +kernel⟩
def spWithout (K : PySem.W.Frag) : Sp := fun vs H Q _ => ∃ (a : Addr) (rows : List (List Str)) (w : Str), vs = [.ref a, .str w] ∧ RowsAt K rows a H ∧ Small rows ∧ ∀ p H', Same H H' → NewRows H (without rows w) p H' → Q (.ref p) H'
theorem ok_without (T : Txt K mg) (D : DefAt K mg "_without" sWithout ["rows", "name"]) : CalG P w K mg base 1 "_without" (spWithout K) := by
  refine D.by scWithout (fun vs H Q E h => ?_) (fun f cd A hg outer s H vs Q E hr h => ?_)
  · obtain ⟨a, ns, _, rfl, _⟩ := h
    rfl
  · obtain ⟨a, rows, w0, rfl, ⟨xs, hl, hp⟩, sm, q⟩ := h
    refine ⟨_, (pss_cons (ps_setLc (i := 2) (wi := iList K _) (own := [("row", 4)]) (g := gName 4) (by rfl) scWithout.nd rfl rfl (sw_true rfl rfl rfl (by decide +kernel)) (pi_list (pv 0)) (blkOk_by (N := nWithout) (sc := defScope sWithout) (by decide +kernel)) (fun _ _ _ _ _ => pg_name (i := 4) scWithout.nd rfl (Or.inl rfl)) (fun _ _ _ _ _ => pts_nil) (fun _ _ _ _ _ => (pe_lc (wi := Sq.iAny K _) (own := [("word", 3)]) (g := gName 3) (by rfl) scWithout.nd (Sq.pi_any (pv 4)) (blkOk_by (by kernel_rfl)) (fun _ _ _ _ _ => pg_name (i := 3) scWithout.nd rfl (Or.inl rfl)) (fun _ _ _ _ _ => (pts_one (pt_cmpR op_ne (pv 3) (pv 1) (nomark _)))) (fun _ _ _ _ _ => (pv 3)))))
  (pss_one (ps_ret (pe_lc (wi := iList K _) (own := [("words", 5)]) (g := gName 5) (by rfl) scWithout.nd (pi_list (pv 2)) (blkOk_by (N := nWithout) (sc := defScope sWithout) (by decide +kernel)) (fun _ _ _ _ _ => pg_name (i := 5) scWithout.nd rfl (Or.inl rfl)) (fun _ _ _ _ _ => (pts_one (Rd.ptTru (K := K) rfl (pt_truth (pv 5) (by intro _; rfl))))) (fun _ _ _ _ _ => (pv 5)))))), ?_⟩
    have hlen := Rd.pair_len hp
    repeat walk_at "rd"
    refine Rd.lcL (K := K) (a := a) (xs := xs) (bs := rows) (Strs K) (NStrs H) (fun _ => true) (fun r => r.filter fun x => decide (x ≠ w0)) (fun R k => Rd.var rfl k) hl (Strs.stays K) (NStrs.stays H) hp (by have := sm.n; omega) (fun _ => rfl)
      (fun b x H2 R _ _ _ s2 k => Rd.yes (k H2 (Same.refl _))) ?_ ?_
    · rintro r x H2 R hr _ _ ⟨pr, rfl, hpr⟩ s2 k
      refine Sq.lcA (K := K) (a := pr) (xs := r.map V.str) (bs := r) (fun s x _ => x = V.str s) (fun s x _ => x = V.str s) (fun x => decide (x ≠ w0)) id (fun R k => Rd.var rfl k) hpr (fun _ _ _ _ _ h => h) (fun _ _ _ _ _ h => h)
        (strs_pair r H2) (by rw [List.length_map]; have := sm.m r hr; omega) (fun _ => rfl) ?_ ?_ ?_
      · rintro s x H3 R3 hs rfl _ s3 k3
        repeat walk_at "rd"
        rw [ne_str]
        exact k3 _ (Same.refl _)
      · rintro s x H3 R3 hs _ rfl _ s3 k3
        repeat walk_at "rd"
        exact k3 _ _ (Same.refl _) (Rd.off_any (B := fun y => y = V.str s) rfl)
      · intro D ys H3 hD s3 hd pq
        have e := Rd.pair_map pq
        rw [List.map_id] at e
        subst e
        exact k _ _ s3 (off_new (Same.free s2 hD) hD hd)
    · intro D ys H2 hD s2 hd pr
      rw [List.filter_eq_self.mpr (by simp)] at pr
      repeat walk_at "rd"
      refine Rd.lcL (K := K) (a := D) (xs := ys) (bs := rows.map fun r => r.filter fun x => decide (x ≠ w0)) (NStrs H) (NStrs H) (fun r => !r.isEmpty) id (fun R k => Rd.var rfl k) (SqL.of hd) (NStrs.stays H) (NStrs.stays H) pr
        (by have := Rd.pair_len pr; rw [List.length_map] at this; have := sm.n; omega) (fun _ => rfl) ?_ ?_ ?_
      · rintro r x H3 R3 hs _ ⟨p3, rfl, _, h3⟩ s3 k3
        repeat walk_at "rd"
        have e : (!(r.map V.str).isEmpty) = !r.isEmpty := by cases r <;> rfl
        rw [e]
        exact k3 _ (Same.refl _)
      · rintro r x H3 R3 hs _ h2 h3 s3 k3
        exact Rd.var rfl (k3 _ _ (Same.refl _) (Rd.off_old (NStrs.stays H r) s3 h2))
      · intro D' ys' H3 hD' s3 hd' pr'
        rw [List.map_id] at pr'
        exact q _ _ (s2.trans s3) ⟨Same.free s2 hD', ys', hd', pr'⟩
abbrev sMerged : Stmt := top 59
abbrev nMerged : List Str := ["rows", "left", "row", "taken", "name"]
theorem scMerged : FnScope nMerged ["rows"] (defScope sMerged) := ⟨rfl, rfl, rfl, by decide +kernel, rfl, by decide +kernel, by decide +kernel⟩
def spMerged (K : PySem.W.Frag) : Sp := fun vs H Q _ => ∃ (a : Addr) (rows : List (List Str)), vs = [.ref a] ∧ RowsAt K rows a H ∧ Small rows ∧ (mrg rows = none → ∀ H', Same H H' → Q .non H') ∧
  ∀ l, mrg rows = some l → ∀ p H', H p = none → Same H H' → H' p = some (.lst (l.map V.str)) → Q (.ref p) H'
theorem ok_merged (T : Txt K mg) (D : DefAt K mg "merged" sMerged ["rows"]) (CFree_head : CalG P w K mg base 1 "_free_head" (spFree K)) (CWithout : CalG P w K mg base 1 "_without" (spWithout K)) : CalG P w K mg base 2 "merged" (spMerged K) := by
  refine D.by scMerged (fun vs H Q E h => ?_) (fun f cd A hg outer s H vs Q E hr h => ?_)
  · obtain ⟨a, ns, rfl, _⟩ := h
    rfl
  · obtain ⟨a, rows, rfl, ⟨xs, hl, hp⟩, sm, qn, qs⟩ := h
    refine ⟨_, (pss_cons (ps_setLc (i := 1) (wi := iList K _) (own := [("row", 2)]) (g := gName 2) (by rfl) scMerged.nd rfl rfl (sw_true rfl rfl rfl (by decide +kernel)) (pi_list (pv 0)) (blkOk_by (N := nMerged) (sc := defScope sMerged) (by decide +kernel)) (fun _ _ _ _ _ => pg_name (i := 2) scMerged.nd rfl (Or.inl rfl)) (fun _ _ _ _ _ => (pts_one (Rd.ptTru (K := K) rfl (pt_truth (pv 2) (by intro _; rfl))))) (fun _ _ _ _ _ => (pv 2)))
  (pss_cons (ps_set (i := 3) scMerged.nd rfl (Or.inl rfl) (pe_lst pa_nil))
  (pss_cons (ps_while PassesOwn.never (Rd.ptTru (K := K) rfl (pt_truth (pv 1) (by intro _; rfl)))
  (pss_cons (ps_set (i := 4) scMerged.nd rfl (Or.inl rfl) (pe_cG CFree_head hg hr (by decide) (pa_cons (pv 1) pa_nil)))
  (pss_cons (ps_if (pt_cmpR op_isN (pv 4) pe_non (nomark _))
  (pss_one (ps_ret pe_non))
  pss_nil)
  (pss_cons (ps_expr (pe_bm PySem.F.plainAttrs_list PySem.F.slot_list_append PySem.F.type_list_append mt_append (pv 3) (pa_cons (pv 4) pa_nil)))
  (pss_one (ps_set (i := 1) scMerged.nd rfl (Or.inl rfl) (pe_cG CWithout hg hr (by decide) (pa_cons (pv 1) (pa_cons (pv 4) pa_nil)))))))))
  (pss_one (ps_ret (pv 3)))))), ?_⟩
    have hlen := Rd.pair_len hp
    repeat walk_at "rd"
    refine Rd.lcL (K := K) (a := a) (xs := xs) (bs := rows) (Strs K) (Strs K) (fun r => !r.isEmpty) id (fun R k => Rd.var rfl k) hl (Strs.stays K) (Strs.stays K) hp (by have := sm.n; omega) (fun _ => rfl) ?_ ?_ ?_
    · rintro r x H3 R3 hs _ ⟨p3, rfl, h3⟩ s3 k3
      repeat walk_at "rd"
      refine Sq.truR h3 ?_
      have e : (!(r.map V.str).isEmpty) = !r.isEmpty := by cases r <;> rfl
      rw [e]
      exact k3 _ (Same.refl _)
    · rintro r x H3 R3 hs _ h2 h3 s3 k3
      exact Rd.var rfl (k3 _ _ (Same.refl _) (Rd.off_old (Strs.stays K r) s3 h2))
    · intro L ys H1 hL s1 hd pr
      rw [List.map_id] at pr
      repeat walk_at "rd"
      refine ⟨Rd.sz (by simp), fun tk htk => ?_⟩
      repeat walk_at "rd"
      refine ⟨fun m σ H2 => ∃ (L : Addr) (rows' : List (List Str)) (acc : List Str) (v : Option V) (H0 : Hp), σ = [some (.ref a), some (.ref L), none, some (.ref tk), v] ∧ Same H H2 ∧ H0 tk = none ∧ Same H0 H2 ∧ RowsAt K rows' L H0 ∧
        (∀ r ∈ rows', r ≠ []) ∧ Small rows' ∧ H2 tk = some (.lst (acc.map V.str)) ∧ acc.length + size rows' ≤ 10000 ∧ mrg rows = mrgF (size rows' + 1) rows' acc ∧ m = size rows', ⟨_, L, full rows, [], none, H1, rfl, s1.trans (Rd.sNew htk), htk, Rd.sNew htk, ⟨ys, SqL.of hd, pr⟩, full_full rows, small_full sm, upd_same, ?_, rfl, rfl⟩, ?_⟩
      · have := small_size (small_full sm)
        simpa using this
      · rintro m σ H2 ⟨L, rows', acc, v, H0, rfl, s2, h0, s0, hR, ne, sm', ht, hz, hm, rfl⟩
        have hR2 := hR.mono s0
        obtain ⟨zs, hz1, hz2⟩ := id hR2
        have zr : zs.isEmpty = rows'.isEmpty := by
          have := Rd.pair_len hz2
          cases zs <;> cases rows' <;> simp_all
        repeat walk_at "rd"
        rw [zr]
        refine Rd.bool (fun c => ?_) (fun c => ?_)
        · refine ⟨_, fun σ' H' h => h, ?_⟩
          have c' : rows'.isEmpty = false := by simpa using c
          repeat walk_at "rd"
          refine ⟨L, rows', rfl, hR2, ne, sm', fun H3 s3 => ?_⟩
          repeat walk_at "rd"
          cases e : headOf rows' with
          | none =>
            refine Rd.dec (fun _ => ?_) (fun c => absurd rfl c)
            repeat walk_at "rd"
            exact qn (by rw [hm]; exact mrg_no c' e) H3 (s2.trans s3)
          | some w0 =>
            refine Rd.dec (fun c => nomatch c) (fun _ => ?_)
            have ht3 := s3 _ _ ht
            repeat walk_at "rd"
            refine ⟨Rd.ty_list ht3, ?_⟩
            repeat walk_at "rd"
            refine Rd.app ht3 (Rd.szl (by rw [List.length_map]; omega)) ?_
            have s4 : Same H0 (upd H3 tk (.lst ((acc ++ [w0]).map V.str))) := Rd.sMut (s0.trans s3) h0
            have e4 : acc.map V.str ++ [optS (some w0)] = (acc ++ [w0]).map V.str := by rw [List.map_append]; rfl
            rw [e4]
            repeat walk_at "rd"
            refine ⟨L, rows', w0, rfl, hR.mono s4, sm', fun p H5 s5 nr => ?_⟩
            repeat walk_at "rd"
            have lt := size_without e
            refine ⟨size (M6.without rows' w0), lt, p, M6.without rows' w0, acc ++ [w0], some (.str w0), hide tk H5, rfl, ?_, hide_at _ _, hide_same _ _, nr.hide (by rw [upd_same]; simp), without_full _ _, small_without sm', s5 _ _ upd_same, ?_, ?_, rfl⟩
            · exact (Rd.sMut (s2.trans s3) (Same.free s1 htk)).trans s5
            · rw [List.length_append]; simp; omega
            · rw [hm]; exact mrg_step c' e
        · have c' : rows'.isEmpty = true := by simpa using c
          repeat walk_at "rd"
          obtain rfl : rows' = [] := by simpa using c'
          exact qs acc hm tk H2 (Same.free s1 htk) s2 ht
end
end Ab
namespace Ab
open M6 PySem.Spec PyProof.Rows
local macro_rules | `(tactic| walk_at "rd") => `(tactic| (with_reducible first | refine Rd.tt_ ?_ | refine Rd.ff_ ?_ | refine Rd.dget ?_))
/-! ### names of classes -/
def wordOk (z : Str) : Bool := decide (z.length ≤ 6) && Txt.isascii z && Txt.isalpha z && Txt.islower z
/-! ### the order of a class -/
def listO {α : Type} (f : Str → Option α) : List Str → Option (List α)
  | [] => some []
  | b :: l => match f b with
    | none => none
    | some r => match listO f l with
      | none => none
      | some rs => some (r :: rs)
theorem listO_len {α : Type} {f : Str → Option α} : ∀ {l : List Str} {rs : List α}, listO f l = some rs → rs.length = l.length
  | [], rs, h => by cases h; rfl
  | b :: l, rs, h => by
    rw [listO] at h
    cases e : f b with
    | none => rw [e] at h; cases h
    | some r =>
      rw [e] at h
      cases e2 : listO f l with
      | none => rw [e2] at h; cases h
      | some rs2 =>
        rw [e2] at h
        cases h
        rw [List.length_cons, List.length_cons, listO_len e2]
theorem listO_take {α : Type} {f : Str → Option α} : ∀ {l : List Str} {i : Nat} {b : Str}, l[i]? = some b → listO f (l.take (i + 1)) = match listO f (l.take i) with | none => none | some rs => match f b with | none => none | some r => some (rs ++ [r])
  | [], i, b, h => by simp at h
  | a :: l, 0, b, h => by
    obtain rfl : a = b := by simpa using h
    show (match f a with | none => none | some r => some [r]) = (match f a with | none => none | some r => some ([] ++ [r]))
    cases f a <;> rfl
  | a :: l, i + 1, b, h => by
    have ih := listO_take (f := f) (l := l) (i := i) (b := b) (by simpa using h)
    rw [List.take_succ_cons, List.take_succ_cons, listO, listO, ih]
    cases f a with
    | none => rfl
    | some r =>
      dsimp only
      cases listO f (l.take i) with
      | none => rfl
      | some rs =>
        dsimp only
        cases f b <;> rfl
theorem listO_none {α : Type} {f : Str → Option α} : ∀ {l : List Str} {i : Nat}, listO f (l.take i) = none → listO f l = none
  | [], i, h => by simp [listO] at h
  | a :: l, 0, h => by simp [listO] at h
  | a :: l, i + 1, h => by
    rw [List.take_succ_cons, listO] at h
    rw [listO]
    cases e : f a with
    | none => rfl
    | some r =>
      rw [e] at h
      dsimp only at h ⊢
      cases e2 : listO f (l.take i) with
      | none => rw [listO_none e2]
      | some rs => rw [e2] at h; cases h
theorem listO_at {α : Type} {f : Str → Option α} : ∀ {l : List Str} {rs : List α}, listO f l = some rs → ∀ r ∈ rs, ∃ b ∈ l, f b = some r
  | [], rs, h, r, hr => by cases h; cases hr
  | a :: l, rs, h, r, hr => by
    rw [listO] at h
    cases e : f a with
    | none => rw [e] at h; cases h
    | some r0 =>
      rw [e] at h
      cases e2 : listO f l with
      | none => rw [e2] at h; cases h
      | some rs2 =>
        rw [e2] at h
        cases h
        rcases List.mem_cons.mp hr with rfl | hr
        · exact ⟨a, List.mem_cons_self, e⟩
        · obtain ⟨b, hb, hf⟩ := listO_at e2 r hr
          exact ⟨b, List.mem_cons_of_mem _ hb, hf⟩
theorem listO_congr {α : Type} {f g : Str → Option α} : ∀ {l : List Str}, (∀ b ∈ l, f b = g b) → listO f l = listO g l
  | [], _ => rfl
  | a :: l, h => by rw [listO, listO, h a List.mem_cons_self, listO_congr fun b hb => h b (List.mem_cons_of_mem _ hb)]
theorem listO_map {α : Type} {f : Str → Option α} {g : Str → α} : ∀ {l : List Str}, (∀ b ∈ l, f b = some (g b)) → listO f l = some (l.map g)
  | [], _ => rfl
  | a :: l, h => by rw [listO, h a List.mem_cons_self, listO_map fun b hb => h b (List.mem_cons_of_mem _ hb)]; rfl
theorem nodup_le {α : Type} [DecidableEq α] : ∀ {l m : List α}, l.Nodup → (∀ x ∈ l, x ∈ m) → l.length ≤ m.length
  | [], m, _, _ => Nat.zero_le _
  | a :: l, m, h, s => by
    have ha := s a List.mem_cons_self
    obtain ⟨na, hl⟩ := List.nodup_cons.mp h
    have := nodup_le (m := m.erase a) hl fun x hx => (List.mem_erase_of_ne (a := x) (b := a) fun e => na (by rw [← e]; exact hx)).mpr (s x (List.mem_cons_of_mem _ hx))
    rw [List.length_erase_of_mem ha] at this
    have := List.length_pos_of_mem ha
    rw [List.length_cons]
    omega
/-- the order of x, bases as bs tells -/
def ordF (bs : Str → List Str) : Nat → Str → Option (List Str)
  | 0, _ => none
  | n + 1, x => match listO (ordF bs n) (bs x) with
    | none => none
    | some rows => match mrg (rows ++ [bs x]) with
      | none => none
      | some l => some (x :: l)
/-- bases within names, each with a lower rank -/
structure Dag (ns : List Str) (bs : Str → List Str) (rk : Str → Nat) : Prop where
  inn : ∀ m ∈ ns, ∀ b ∈ bs m, b ∈ ns
  low : ∀ m ∈ ns, ∀ b ∈ bs m, rk b < rk m
  few : ∀ m ∈ ns, (bs m).length ≤ 90
theorem ord_sub {ns : List Str} {bs : Str → List Str} {rk : Str → Nat} (d : Dag ns bs rk) : ∀ {n : Nat} {x : Str} {l : List Str}, x ∈ ns → ordF bs n x = some l → (∀ w ∈ l, w ∈ ns) ∧ l.length ≤ ns.length + 1
  | 0, _, _, _, h => by cases h
  | n + 1, x, l, hx, h => by
    rw [ordF] at h
    cases e : listO (ordF bs n) (bs x) with
    | none => rw [e] at h; cases h
    | some rows =>
      rw [e] at h
      dsimp only at h
      cases e2 : mrg (rows ++ [bs x]) with
      | none => rw [e2] at h; cases h
      | some l2 =>
        rw [e2] at h
        cases h
        have M := M7.merges e2
        have sub : ∀ w ∈ l2, w ∈ ns := fun w hw => by
          obtain ⟨r, hr, hwr⟩ := (M.mem w).mp hw
          rcases List.mem_append.mp hr with hr | hr
          · obtain ⟨b, hb, hf⟩ := listO_at e r hr
            exact (ord_sub d (d.inn x hx b hb) hf).1 w hwr
          · obtain rfl := List.mem_singleton.mp hr
            exact d.inn x hx w hwr
        refine ⟨fun w hw => ?_, ?_⟩
        · rcases List.mem_cons.mp hw with rfl | hw
          · exact hx
          · exact sub w hw
        · rw [List.length_cons]
          have := nodup_le M.nd sub
          omega
/-- more fuel than the rank makes no difference -/
theorem ord_fuel {ns : List Str} {bs : Str → List Str} {rk : Str → Nat} (d : Dag ns bs rk) : ∀ {n k : Nat} {x : Str}, x ∈ ns → rk x < n → rk x < k → ordF bs n x = ordF bs k x
  | 0, _, _, _, h, _ => absurd h (Nat.not_lt_zero _)
  | n + 1, 0, _, _, _, h => absurd h (Nat.not_lt_zero _)
  | n + 1, k + 1, x, hx, h1, h2 => by
    rw [ordF, ordF, listO_congr (f := ordF bs n) (g := ordF bs k) fun b hb => ord_fuel d (d.inn x hx b hb) (by have := d.low x hx b hb; omega) (by have := d.low x hx b hb; omega)]
section
variable {P : Program} {w : World} {K : PySem.W.Frag} {mg : Str → Option Value} {base : Heap}
abbrev sIs_word : Stmt := top 16
abbrev nIs_word : List Str := ["value"]
theorem scIs_word : FnScope nIs_word ["value"] (defScope sIs_word) := ⟨rfl, rfl, rfl, by decide +kernel, rfl, by decide +kernel, by decide +kernel⟩
def spWord (K : PySem.W.Frag) : Sp := fun vs H Q _ => ∃ z : Str, vs = [.str z] ∧ wordOk z = true ∧ Q (.bl true) H
theorem ok_word (T : Txt K mg) {t6 : Tok} (g_MOST_LETTERS : mg "MOST_LETTERS" = some (.int 6 t6)) (D : DefAt K mg "is_word" sIs_word ["value"]) : CalG P w K mg base 1 "is_word" (spWord K) := by
  refine D.by scIs_word (fun vs H Q E h => ?_) (fun f cd A hg outer s H vs Q E hr h => ?_)
  · obtain ⟨_, rfl, _⟩ := h
    rfl
  · obtain ⟨z, rfl, ok, q⟩ := h
    simp only [wordOk, Bool.and_eq_true, decide_eq_true_eq] at ok
    obtain ⟨⟨⟨l6, a1⟩, a2⟩, a3⟩ := ok
    refine ⟨_, (pss_cons (ps_if (PW.pt (pw_or (pt_not (pt_val (pe_callB (r := rIsi K) call_isi (by rfl) T.isinstance (by decide +kernel) (pa_cons (pv 0) (pa_cons (pe_bltn (v := .ty "str") (by rfl) T.str (by decide +kernel) rfl) pa_nil))))) (pw_or1 (pt_cmpR op_gt (pe_callB call_len_str (by rfl) T.len PySem.boot_len (pa_cons (pv 0) pa_nil)) (pe_glob (v := .int 6) (by rfl) g_MOST_LETTERS ⟨_, rfl⟩) (nomark _)))))
  (pss_one (ps_ret pe_bl))
  pss_nil)
  (pss_one (ps_ret (pe_and (pe_bm0 PySem.F.plainAttrs_str PySem.F.slot_str_isascii PySem.F.type_str_isascii mt_isascii (pv 0)) (pe_and (pe_bm0 PySem.F.plainAttrs_str PySem.F.slot_str_isalpha PySem.F.type_str_isalpha mt_isalpha (pv 0)) (pe_one (pe_bm0 PySem.F.plainAttrs_str PySem.F.slot_str_islower PySem.F.type_str_islower mt_islower (pv 0)))))))), ?_⟩
    repeat walk_at "rd"
    refine isi (.base (.str z)) (by show kitB "str" "str" = some true; decide +kernel) ?_
    repeat walk_at "rd"
    refine Rd.ff_ ?_
    repeat walk_at "rd"
    refine Rd.lenS (Rd.sz (by omega)) ?_
    repeat walk_at "rd"
    refine Rd.dec (fun c => absurd c (by omega)) (fun _ => ?_)
    repeat walk_at "rd"
    refine ⟨rfl, z, rfl, rfl, trivial, ?_⟩
    rw [a1]
    repeat walk_at "rd"
    refine ⟨rfl, z, rfl, rfl, trivial, ?_⟩
    rw [a2]
    repeat walk_at "rd"
    refine ⟨rfl, z, rfl, rfl, trivial, ?_⟩
    rw [a3]
    repeat walk_at "rd"
    exact q
/-- is_one_of of a list -/
def spOneOfL (K : PySem.W.Frag) : Sp := fun vs H Q _ => ∃ (v : V) (p : Addr) (tn : String) (ws : List Str), vs = [v, .ref p] ∧ Kd K H v tn ∧ SqL K H p (ws.map V.str) ∧ Q (.bl (isIn v ws)) H
theorem ok_one_ofL (T : Txt K mg) (D : DefAt K mg "is_one_of" sIs_one_of ["value", "words"]) : CalG P w K mg base 1 "is_one_of" (spOneOfL K) := by
  refine D.by scIs_one_of (fun vs H Q E h => ?_) (fun f cd A hg outer s H vs Q E hr h => ?_)
  · obtain ⟨v, p, tn, ws, rfl, _⟩ := h
    rfl
  · obtain ⟨v, p, tn, ws, rfl, k, hp, q⟩ := h
    refine ⟨_, (pss_one (ps_ret (pe_and (pe_callB (r := rIsi K) call_isi (by rfl) T.isinstance (by decide +kernel) (pa_cons (pv 0) (pa_cons (pe_bltn (v := .ty "str") (by rfl) T.str (by decide +kernel) rfl) pa_nil))) (pe_one (pe_cmpR (r := rIn K false) op_in_seq (pv 0) (pv 1) (by rfl)))))), ?_⟩
    repeat walk_at "rd"
    refine isi k.ty k.s ?_
    repeat walk_at "rd"
    refine Rd.bool (fun c => ?_) (fun c => ?_)
    · obtain ⟨z, rfl⟩ : ∃ z, v = .str z := by cases v <;> first | exact ⟨_, rfl⟩ | cases c
      repeat walk_at "rd"
      refine Rd.inL hp rfl (flat_strs _) ?_
      have e : (if (false : Bool) = true then !inV (.str z) (ws.map V.str) else inV (.str z) (ws.map V.str)) = decide (z ∈ ws) := by rw [inV_str]; rfl
      rw [e]
      exact q
    · have e : isIn v ws = false := by cases v <;> first | rfl | cases c
      rw [e] at q
      exact q
end
end Ab
namespace Ab
open M6 PySem.Spec PyProof.Rows
local macro_rules | `(tactic| walk_at "rd") => `(tactic| (with_reducible first | refine Rd.tt_ ?_ | refine Rd.ff_ ?_ | refine Rd.dget ?_))
section
variable {P : Program} {w : World} {K : PySem.W.Frag} {mg : Str → Option Value} {base : Heap}
abbrev sOrder_of : Stmt := top 60
abbrev nOrder_of : List Str := ["name", "bases", "rows", "base", "row", "behind"]
theorem scOrder_of : FnScope nOrder_of ["name", "bases"] (defScope sOrder_of) := ⟨rfl, rfl, rfl, by decide +kernel, rfl, by decide +kernel, by decide +kernel⟩
theorem pair_sn {α β : Type} {F : α → β → Prop} {as : List α} {bs : List β} {a : α} {b : β} (h : Paired F as bs) (k : F a b) : Paired F (as ++ [a]) (bs ++ [b]) := pair_cat h (.cons k .nil)
/-- names with their bases as a dict of tuples -/
structure BasesAt (K : PySem.W.Frag) (H : Hp) (d : Addr) (ns : List Str) (gB : Str → Addr) (bs : Str → List Str) : Prop where
  dt : H d = some (.dK (tab ns fun m => .ref (gB m)))
  tp : ∀ m ∈ ns, SqT K H (gB m) ((bs m).map V.str)
theorem BasesAt.mono {H H' : Hp} {d : Addr} {ns : List Str} {gB : Str → Addr} {bs : Str → List Str} (h : BasesAt K H d ns gB bs) (s : Same H H') : BasesAt K H' d ns gB bs :=
  ⟨s _ _ h.dt, fun m hm => sqT_same s (h.tp m hm)⟩
def spOrder (K : PySem.W.Frag) (n : Nat) : Sp := fun vs H Q _ => ∃ (x : Str) (d : Addr) (ns : List Str) (gB : Str → Addr) (bs : Str → List Str) (rk : Str → Nat), vs = [.str x, .ref d] ∧ BasesAt K H d ns gB bs ∧ Dag ns bs rk ∧ ns.length ≤ 20 ∧ x ∈ ns ∧ rk x < n ∧
  (ordF bs n x = none → ∀ H', Same H H' → Q .non H') ∧ ∀ l, ordF bs n x = some l → ∀ p H', H p = none → Same H H' → H' p = some (.lst (l.map V.str)) → Q (.ref p) H'
theorem ok_order (T : Txt K mg) (D : DefAt K mg "order_of" sOrder_of ["name", "bases"]) (CMerged : CalG P w K mg base 2 "merged" (spMerged K)) : ∀ n, CalG P w K mg base (n + 3) "order_of" (spOrder K n)
  | 0 => D.by (k := 2) scOrder_of (fun vs H Q E h => by
      obtain ⟨x, d, ns, gB, bs, rk, rfl, _⟩ := h
      rfl) (fun f cd A hg outer s H vs Q E hr h => by
      obtain ⟨x, d, ns, gB, bs, rk, rfl, _, _, _, _, lt, _⟩ := h
      exact absurd lt (Nat.not_lt_zero _))
  | n + 1 => by
    have COrder_of := ok_order T D CMerged n
    refine D.by scOrder_of (fun vs H Q E h => ?_) (fun f cd A hg outer s H vs Q E hr h => ?_)
    · obtain ⟨x, d, ns, gB, bs, rk, rfl, _⟩ := h
      rfl
    · obtain ⟨x, d, ns, gB, bs, rk, rfl, ba, dag, nz, hx, lt, qn, qs⟩ := h
      refine ⟨_, (pss_cons (ps_set (i := 2) scOrder_of.nd rfl (Or.inl rfl) (pe_lst pa_nil))
  (pss_cons (ps_for (wi := iTup K _) PassesOwn.never rfl (pi_tup (pe_dget (one_ hr.units) (pv 1) (pv 0) (fun _ _ => rfl))) (pg_name (i := 3) scOrder_of.nd rfl (Or.inl rfl))
  (pss_cons (ps_set (i := 4) scOrder_of.nd rfl (Or.inl rfl) (pe_cG COrder_of hg hr (by omega) (pa_cons (pv 3) (pa_cons (pv 1) pa_nil))))
  (pss_cons (ps_if (pt_cmpR op_isN (pv 4) pe_non (nomark _))
  (pss_one (ps_ret pe_non))
  pss_nil)
  (pss_one (ps_expr (pe_bm PySem.F.plainAttrs_list PySem.F.slot_list_append PySem.F.type_list_append mt_append (pv 2) (pa_cons (pv 4) pa_nil)))))))
  (pss_cons (ps_set (i := 5) scOrder_of.nd rfl (Or.inl rfl) (pe_cG CMerged hg hr (by omega) (pa_cons (pe_lst (StX.pa_star (pv 2) (pa_cons (pe_dget (one_ hr.units) (pv 1) (pv 0) (fun _ _ => rfl)) pa_nil))) pa_nil)))
  (pss_one (ps_ret (pe_ifExp (pt_cmpR op_isN (pv 5) pe_non (nomark _)) pe_non (pe_lst (pa_cons (pv 0) (StX.pa_star (pv 5) pa_nil))))))))), ?_⟩
      have few := dag.few x hx
      repeat walk_at "rd"
      refine ⟨Rd.sz (by simp), fun R hR => ?_⟩
      have s1 : Same H (upd H R (.lst [])) := Rd.sNew hR
      repeat walk_at "rd"
      refine Rd.dget (Rd.var rfl (Rd.var rfl ⟨d, _, rfl, get_tab (s1 _ _ ba.dt) hx, ?_⟩))
      refine ⟨gB x, rfl, ⟨_, sqT_same s1 (ba.tp x hx)⟩, ?_⟩
      refine for_tup (K := K) (a := gB x) (xs := (bs x).map V.str) (fun i σ H1 => ∃ v4 v5 rows zs, σ = [some (.str x), some (.ref d), some (.ref R), v4, v5, none] ∧ Same H H1 ∧ H1 R = some (.lst zs) ∧ zs.length ≤ 90 ∧ listO (ordF bs n) ((bs x).take i) = some rows ∧ (∀ H2, Same H H2 → True) ∧
        Paired (fun r z => Strs K r z (hide R H1)) rows zs) ⟨_, _, [], [], rfl, s1, upd_same, by decide, by rw [List.take_zero]; rfl, fun _ _ => trivial, .nil⟩ (fun i σ H1 _ ⟨_, _, _, _, _, s, _⟩ => sqT_same s (ba.tp x hx)) ?_ ?_
      · rintro i z σ H1 hz ⟨v4, v5, rows, zs, rfl, s2, hr2, hz2, lo, _, pr⟩
        obtain ⟨hi, e⟩ := List.getElem?_eq_some_iff.mp hz
        rw [List.length_map] at hi
        rw [List.getElem_map] at e
        subst e
        have hb : (bs x)[i]? = some (bs x)[i] := List.getElem?_eq_getElem hi
        have mb : (bs x)[i] ∈ bs x := List.getElem_mem hi
        have tk := listO_take (f := ordF bs n) hb
        rw [lo] at tk
        dsimp only at tk
        generalize (bs x)[i] = b at hb mb tk ⊢
        repeat walk_at "rd"
        refine ⟨b, d, ns, gB, bs, rk, rfl, ba.mono s2, dag, nz, dag.inn x hx b mb, by have := dag.low x hx b mb; omega, fun e H3 s3 => ?_, fun l e p H3 hp s3 hl => ?_⟩
        · repeat walk_at "rd"
          refine Rd.dec (fun _ => ?_) (fun c => absurd rfl c)
          repeat walk_at "rd"
          refine qn ?_ H3 (s2.trans s3)
          rw [e] at tk
          rw [ordF, listO_none tk]
        · repeat walk_at "rd"
          refine Rd.dec (fun c => nomatch c) (fun _ => ?_)
          have hr3 := s3 _ _ hr2
          repeat walk_at "rd"
          refine ⟨Rd.ty_list hr3, ?_⟩
          repeat walk_at "rd"
          refine Rd.app hr3 (Rd.szl (by omega)) ?_
          rw [e] at tk
          have len := listO_len tk
          have zl := Rd.pair_len pr
          have rl := listO_len lo
          have l1 : ((bs x).take i).length ≤ 90 := Nat.le_trans (List.length_take_le _ _) (by omega)
          have l2 : ((bs x).take (i + 1)).length ≤ 90 := Nat.le_trans (List.length_take_le' _ _) few
          refine ⟨_, _, _, _, rfl, Rd.sMut (s2.trans s3) hR, upd_same, ?_, tk, fun _ _ => trivial, ?_⟩
          · rw [List.length_append] at len ⊢
            simp at len ⊢
            omega
          · have hid : Same (hide R H1) (hide R (upd H3 R (.lst (zs ++ [.ref p])))) := fun a o ha => by
              by_cases c : a = R
              · subst c; rw [hide_at] at ha; cases ha
              · rw [hide_ne _ c] at ha ⊢
                rw [upd_ne c]
                exact s3 _ _ ha
            have pR : p ≠ R := fun e => by rw [e, hr2] at hp; cases hp
            exact pair_sn (Rd.pair_imp (fun r z => Strs.stays K r z _ _ hid) pr) ⟨p, rfl, .inl (SqL.of (by rw [hide_ne _ pR, upd_ne pR]; exact hl))⟩
      · rintro σ H1 ⟨v4, v5, rows, zs, rfl, s2, hr2, hz2, lo, _, pr⟩
        rw [List.length_map, List.take_length] at lo
        have ba2 := ba.mono s2
        repeat walk_at "rd"
        refine starT ?_
        repeat walk_at "rd"
        refine ⟨R, zs, rfl, .inr (SqL.of hr2), ?_⟩
        repeat walk_at "rd"
        refine ⟨d, _, rfl, get_tab ba2.dt hx, ?_⟩
        repeat walk_at "rd"
        have rl := listO_len lo
        have zl := Rd.pair_len pr
        refine ⟨Rd.sz (by rw [List.length_append]; show zs.length + 1 ≤ _; omega), fun L hL => ?_⟩
        have s3 : Same H1 (upd H1 L (.lst (zs ++ [.ref (gB x)]))) := Rd.sNew hL
        have ra : RowsAt K (rows ++ [bs x]) L (upd H1 L (.lst (zs ++ [.ref (gB x)]))) := ⟨_, SqL.of upd_same, pair_sn (Rd.pair_imp (fun r z => Strs.stays K r z _ _ ((hide_same R H1).trans s3)) pr) ⟨_, rfl, .inr (sqT_same s3 (ba2.tp x hx))⟩⟩
        have sm : Small (rows ++ [bs x]) := by
          refine ⟨by rw [List.length_append]; simp; omega, fun r hr => ?_⟩
          rcases List.mem_append.mp hr with hr | hr
          · obtain ⟨b, hb, hf⟩ := listO_at lo r hr
            have := (ord_sub dag (dag.inn x hx b hb) hf).2
            omega
          · obtain rfl := List.mem_singleton.mp hr
            omega
        have eo : ordF bs (n + 1) x = match mrg (rows ++ [bs x]) with | none => none | some l => some (x :: l) := by (rw [ordF, lo]) <;> rfl
        have s4 := s2.trans s3
        refine ⟨L, rows ++ [bs x], rfl, ra, sm, fun e H3 s5 => ?_, fun l e p H3 hp s5 hl => ?_⟩
        · repeat walk_at "rd"
          refine Rd.dec (fun _ => ?_) (fun c => absurd rfl c)
          repeat walk_at "rd"
          exact qn (by rw [eo, e]) H3 (s4.trans s5)
        · repeat walk_at "rd"
          refine Rd.dec (fun c => nomatch c) (fun _ => ?_)
          repeat walk_at "rd"
          refine starT ?_
          repeat walk_at "rd"
          refine ⟨p, l.map V.str, rfl, .inr (SqL.of hl), ?_⟩
          repeat walk_at "rd"
          rw [e] at eo
          dsimp only at eo
          have lz := (ord_sub dag hx eo).2
          rw [List.length_cons] at lz
          refine ⟨Rd.sz (by simp; omega), fun L2 hL2 => ?_⟩
          refine qs _ eo L2 _ (Same.free (s4.trans s5) hL2) ((s4.trans s5).trans (Rd.sNew hL2)) ?_
          rw [upd_same]
          simp
end
end Ab
namespace Ab
open M6 PySem.Spec PyProof.Rows
local macro_rules | `(tactic| walk_at "rd") => `(tactic| (with_reducible first | refine Rd.tt_ ?_ | refine Rd.ff_ ?_ | refine Rd.sfld ?_ | refine Rd.dget ?_ | refine Rd.methR ?_ | refine Rd.propR ?_ | refine Rd.statR ?_ | refine Rd.getR ?_))
/-! ### a table in the heap -/
def fset {α : Type} (f : Str → α) (x : Str) (v : α) : Str → α := fun y => if y = x then v else f y
theorem fset_at {α : Type} {f : Str → α} {x : Str} {v : α} : fset f x v x = v := if_pos rfl
theorem fset_ne {α : Type} {f : Str → α} {x y : Str} {v : α} (h : y ≠ x) : fset f x v y = f y := if_neg h
theorem tab_put_new {l : List Str} {f : Str → V} {x : Str} {v : V} (h : x ∉ l) : putK (tab l f) (.inr x) v = tab (l ++ [x]) (fset f x v) := by
  rw [putK_new _ _ _ h, ← tab_snoc, fset_at]
  congr 1
  exact tab_congr fun o ho => (fset_ne fun e => h (by rw [← e]; exact ho)).symm
theorem fset_ref (g : Str → Addr) (x : Str) (p : Addr) : fset (fun m => V.ref (g m)) x (.ref p) = fun m => V.ref (fset g x p m) := by
  funext y
  unfold fset
  split <;> rfl
inductive Ent where
  | w (z : Str)
  | b (nd : Nd)
def entW : List Str := ["native", "blocked"]
def EntAt (K : PySem.W.Frag) (CB : Addr) (H : Hp) (m : Str) : Ent → V → Prop
  | .w z, v => v = .str z ∧ z ∈ entW
  | .b nd, v => ∃ b L x, v = .ref b ∧ BdA K CB H b L m x nd ∧ BdOk m nd
structure Ents (K : PySem.W.Frag) (CB : Addr) (H : Hp) (kvs : List (Key × V)) (f : Str → Option Ent) : Prop where
  no : ∀ m ∈ methods, f m = none → valV kvs (.inr m) = none
  yes : ∀ m ∈ methods, ∀ e, f m = some e → ∃ v, valV kvs (.inr m) = some v ∧ EntAt K CB H m e v
structure Tt where
  ns : List Str
  bs : Str → List Str
  od : Str → List Str
  en : Str → Str → Option Ent
  m : Str → List Str
  fl : Str → Bool
structure TA where
  bk : Addr
  w : Addr
  f : Addr
  nm : Addr
  ba : Addr
  od : Addr
  en : Addr
  g : Str → Addr
  gB : Str → Addr
  gO : Str → Addr
  gE : Str → Addr
structure TbAt (K : PySem.W.Frag) (CT CB CK : Addr) (H0 H : Hp) (t : Addr) (a : TA) (s : Tt) (c : Nat) : Prop where
  ins : ∃ dx, H t = some (.ins CT dx [("_book", .ref a.bk), ("_names", .ref a.nm), ("_bases", .ref a.ba), ("_orders", .ref a.od), ("_entries", .ref a.en)])
  bk : Bk K CK H a.bk a.w a.f a.g s.m s.fl
  nm : H a.nm = some (.lst (s.ns.map V.str))
  ba : BasesAt K H a.ba s.ns a.gB s.bs
  od : H a.od = some (.dK (tab s.ns fun n => .ref (a.gO n)))
  ol : ∀ n ∈ s.ns, H (a.gO n) = some (.lst ((s.od n).map V.str))
  en : H a.en = some (.dK (tab s.ns fun n => .ref (a.gE n)))
  ee : ∀ n ∈ s.ns, ∃ kvs, H (a.gE n) = some (.dK kvs) ∧ kvs.length ≤ c ∧ Ents K CB H kvs (s.en n)
  d1 : (a.w :: a.f :: a.ba :: a.od :: a.en :: s.ns.map a.gE).Nodup
  d2 : (a.nm :: s.ns.map a.gO).Nodup
  new : H0 t = none ∧ H0 a.nm = none ∧ H0 a.od = none ∧ H0 a.en = none ∧ ∀ n ∈ s.ns, H0 (a.gE n) = none
theorem ent_mono {K : PySem.W.Frag} {CB : Addr} {H H' : Hp} {m : Str} {e : Ent} {v : V} (s : Same H H') (h : EntAt K CB H m e v) : EntAt K CB H' m e v := by
  cases e with
  | w z => exact h
  | b nd =>
    obtain ⟨b, L, x, e, k, ok⟩ := h
    exact ⟨b, L, x, e, k.mono s, ok⟩
theorem Ents.mono {K : PySem.W.Frag} {CB : Addr} {H H' : Hp} {kvs : List (Key × V)} {f : Str → Option Ent} (h : Ents K CB H kvs f) (s : Same H H') : Ents K CB H' kvs f :=
  ⟨h.no, fun m hm e he => let ⟨v, h1, h2⟩ := h.yes m hm e he; ⟨v, h1, ent_mono s h2⟩⟩
theorem TbAt.mono {K : PySem.W.Frag} {CT CB CK : Addr} {H0 H H' : Hp} {t : Addr} {a : TA} {s : Tt} {c : Nat} (h : TbAt K CT CB CK H0 H t a s c) (sm : Same H H') : TbAt K CT CB CK H0 H' t a s c where
  ins := let ⟨dx, e⟩ := h.ins; ⟨dx, sm _ _ e⟩
  bk := h.bk.mono sm
  nm := sm _ _ h.nm
  ba := h.ba.mono sm
  od := sm _ _ h.od
  ol := fun n hn => sm _ _ (h.ol n hn)
  en := sm _ _ h.en
  ee := fun n hn => let ⟨kvs, e1, e2, e3⟩ := h.ee n hn; ⟨kvs, sm _ _ e1, e2, e3.mono sm⟩
  d1 := h.d1
  d2 := h.d2
  new := h.new
theorem TbAt.lower {K : PySem.W.Frag} {CT CB CK : Addr} {H0 H1 H : Hp} {t : Addr} {a : TA} {s : Tt} {c : Nat} (h : TbAt K CT CB CK H1 H t a s c) (sm : Same H0 H1) : TbAt K CT CB CK H0 H t a s c where
  ins := h.ins
  bk := h.bk
  nm := h.nm
  ba := h.ba
  od := h.od
  ol := h.ol
  en := h.en
  ee := h.ee
  d1 := h.d1
  d2 := h.d2
  new := ⟨Same.free sm h.new.1, Same.free sm h.new.2.1, Same.free sm h.new.2.2.1, Same.free sm h.new.2.2.2.1, fun n hn => Same.free sm (h.new.2.2.2.2 n hn)⟩
def tt0 (m : Str → List Str) (fl : Str → Bool) : Tt := { ns := [], bs := fun _ => [], od := fun _ => [], en := fun _ _ => none, m := m, fl := fl }
structure TF (K : PySem.W.Frag) (mg : Str → Option Value) (C : Addr) : Prop extends Ob.CF K mg "Table" C where
  n1 : NoAttr K C "_book"
  n2 : NoAttr K C "_names"
  n3 : NoAttr K C "_bases"
  n4 : NoAttr K C "_orders"
  n5 : NoAttr K C "_entries"
section
variable {P : Program} {w : World} {K : PySem.W.Frag} {mg : Str → Option Value} {base : Heap}
abbrev sCheck_book : Stmt := top 55
abbrev nCheck_book : List Str := ["book"]
theorem scCheck_book : FnScope nCheck_book ["book"] (defScope sCheck_book) := ⟨rfl, rfl, rfl, by decide +kernel, rfl, by decide +kernel, by decide +kernel⟩
def spCheckBook (K : PySem.W.Frag) (CK : Addr) : Sp := fun vs H Q _ => ∃ (b w f : Addr) (g : Str → Addr) (m : Str → List Str) (fl : Str → Bool), vs = [.ref b] ∧ Bk K CK H b w f g m fl ∧ Q .non H
theorem ok_check_book (T : Txt K mg) {C_Book : Addr} (K_Book : BF K mg C_Book) (ic : BkIC K C_Book) (D : DefAt K mg "check_book" sCheck_book ["book"]) : CalG P w K mg base 1 "check_book" (spCheckBook K C_Book) := by
  refine D.by scCheck_book (fun vs H Q E h => ?_) (fun f cd A hg outer s H vs Q E hr h => ?_)
  · obtain ⟨_, _, _, _, _, _, rfl, _⟩ := h
    rfl
  · obtain ⟨b, w0, f0, g, m, fl, rfl, bk, q⟩ := h
    refine ⟨_, (pss_one (ps_if (pt_not (pt_val (pe_callB (r := rIsi K) call_isi (by rfl) T.isinstance (by decide +kernel) (pa_cons (pv 0) (pa_cons (pe_glob (v := .ref C_Book) (by rfl) K_Book.g rfl) pa_nil)))))
  (pss_one Sm.ps_dead)
  pss_nil)), ?_⟩
    repeat walk_at "rd"
    refine ⟨.ref b, .ref C_Book, .ref C_Book, .ref C_Book, true, rfl, .own _, bk_ty K_Book ic bk, kit_self, ?_⟩
    repeat walk_at "rd"
    refine Rd.ff_ ?_
    repeat walk_at "rd"
    exact q
abbrev sTable___init__ : Stmt := meth 65 0
abbrev nTable___init__ : List Str := ["self", "book"]
theorem scTable___init__ : FnScope nTable___init__ ["self", "book"] (defScope sTable___init__) := ⟨rfl, rfl, rfl, by decide +kernel, rfl, by decide +kernel, by decide +kernel⟩
def spTInit (K : PySem.W.Frag) (CT CB CK : Addr) : Sp := fun vs H Q _ => ∃ (t dx b w f : Addr) (g : Str → Addr) (m : Str → List Str) (fl : Str → Bool), vs = [.ref t, .ref b] ∧ H t = some (.ins CT dx []) ∧ Bk K CK H b w f g m fl ∧
  ∀ a H', Same (hide t H) H' → TbAt K CT CB CK (hide t H) H' t a (tt0 m fl) 0 → Q .non H'
theorem ok_tinit (T : Txt K mg) {CT CB C_Book : Addr} (K_Table : TF K mg CT) (K_Book : BF K mg C_Book) (CCheck_book : CalG P w K mg base 1 "check_book" (spCheckBook K C_Book)) (M_Book_twin : Ob.MCal P w K mg base CX0 C_Book 3 "twin" (spBkTwin K C_Book)) {f : Addr} {fd : FuncData}
    (D : Ob.MethAt K "__init__" "Table.__init__" sTable___init__ ["self", "book"] f fd) : FnG P w K mg base CX0 4 f fd ["self", "book"] (spTInit K CT CB C_Book) := by
  refine Ob.byG D scTable___init__ (fun vs H Q E h => ?_) (fun cd A hg outer s H vs Q E hr h => ?_)
  · obtain ⟨_, _, _, _, _, _, _, _, rfl, _⟩ := h
    rfl
  · obtain ⟨t, dx, b, w0, f0, g, m, fl, rfl, ht, bk, q⟩ := h
    obtain ⟨db, hb⟩ := bk.ins
    refine ⟨_, (pss_cons (ps_expr (pe_cG CCheck_book hg hr (by decide) (pa_cons (pv 1) pa_nil)))
  (pss_cons (ps_fld (pv 0) (Ob.meth0 (pv 1) K_Book.cl M_Book_twin hg hr (by decide) pass0) (by rfl))
  (pss_cons (ps_fld (pv 0) (pe_lst pa_nil) (by rfl))
  (pss_cons (ps_fld (pv 0) pe_dnewK (by rfl))
  (pss_cons (ps_fld (pv 0) pe_dnewK (by rfl))
  (pss_one (ps_fld (pv 0) pe_dnewK (by rfl)))))))), ?_⟩
    repeat walk_at "rd"
    refine ⟨b, w0, f0, g, m, fl, rfl, bk, ?_⟩
    repeat walk_at "rd"
    refine ⟨b, db, _, rfl, hb, rfl, ?_⟩
    repeat walk_at "rd"
    refine ⟨b, w0, f0, g, m, fl, rfl, bk, fun k kw kf H1 s1 nk nw nf bk1 => ?_⟩
    obtain ⟨dk, hk⟩ := bk1.ins
    have tk : k ≠ t := fun e => by rw [e, ht] at nk; cases nk
    have tw : kw ≠ t := fun e => by rw [e, ht] at nw; cases nw
    have tf : kf ≠ t := fun e => by rw [e, ht] at nf; cases nf
    repeat walk_at "rd"
    refine ⟨t, CT, dx, [], rfl, s1 _ _ ht, K_Table.cl, K_Table.n1, by decide, ?_⟩
    have e1 : putF "_book" (.ref k) [] = [(("_book" : Str), V.ref k)] := rfl
    rw [e1]
    have k2 : Keep t H1 (upd H1 t (.ins CT dx [("_book", .ref k)])) := Keep.put (fun _ _ _ e => e)
    have t2 : upd H1 t (.ins CT dx [("_book", .ref k)]) t = some (.ins CT dx [("_book", .ref k)]) := upd_same
    generalize upd H1 t (.ins CT dx [("_book", .ref k)]) = H2 at k2 t2 ⊢
    repeat walk_at "rd"
    refine ⟨Rd.sz (by simp), fun nm hnm => ?_⟩
    have nt : nm ≠ t := fun e => by rw [e, t2] at hnm; cases hnm
    repeat walk_at "rd"
    refine ⟨t, CT, dx, _, rfl, by rw [upd_ne (Ne.symm nt)]; exact t2, K_Table.cl, K_Table.n2, by simp, ?_⟩
    have e3 : putF "_names" (.ref nm) [(("_book" : Str), V.ref k)] = [(("_book" : Str), V.ref k), ("_names", .ref nm)] := rfl
    rw [e3]
    have k3 : Keep t H2 (upd (upd H2 nm (.lst [])) t (.ins CT dx [("_book", .ref k), ("_names", .ref nm)])) := (Keep.same (Rd.sNew hnm)).put
    have t3 : upd (upd H2 nm (.lst [])) t (.ins CT dx [("_book", .ref k), ("_names", .ref nm)]) t = some (.ins CT dx [("_book", .ref k), ("_names", .ref nm)]) := upd_same
    have n3 : upd (upd H2 nm (.lst [])) t (.ins CT dx [("_book", .ref k), ("_names", .ref nm)]) nm = some (.lst []) := by rw [upd_ne nt, upd_same]
    generalize upd (upd H2 nm (.lst [])) t (.ins CT dx [("_book", .ref k), ("_names", .ref nm)]) = H3 at k3 t3 n3 ⊢
    repeat walk_at "rd"
    refine fun ba hba => ?_
    have bt : ba ≠ t := fun e => by rw [e, t3] at hba; cases hba
    repeat walk_at "rd"
    refine ⟨t, CT, dx, _, rfl, by rw [upd_ne (Ne.symm bt)]; exact t3, K_Table.cl, K_Table.n3, by simp, ?_⟩
    have e4 : putF "_bases" (.ref ba) [(("_book" : Str), V.ref k), ("_names", .ref nm)] = [(("_book" : Str), V.ref k), ("_names", .ref nm), ("_bases", .ref ba)] := rfl
    rw [e4]
    have k4 : Keep t H3 (upd (upd H3 ba (.dK [])) t (.ins CT dx [("_book", .ref k), ("_names", .ref nm), ("_bases", .ref ba)])) := (Keep.same (Rd.sNew hba)).put
    have t4 : upd (upd H3 ba (.dK [])) t (.ins CT dx [("_book", .ref k), ("_names", .ref nm), ("_bases", .ref ba)]) t = some (.ins CT dx [("_book", .ref k), ("_names", .ref nm), ("_bases", .ref ba)]) := upd_same
    have n4 : upd (upd H3 ba (.dK [])) t (.ins CT dx [("_book", .ref k), ("_names", .ref nm), ("_bases", .ref ba)]) ba = some (.dK []) := by rw [upd_ne bt, upd_same]
    generalize upd (upd H3 ba (.dK [])) t (.ins CT dx [("_book", .ref k), ("_names", .ref nm), ("_bases", .ref ba)]) = H4 at k4 t4 n4 ⊢
    repeat walk_at "rd"
    refine fun od hod => ?_
    have ot : od ≠ t := fun e => by rw [e, t4] at hod; cases hod
    repeat walk_at "rd"
    refine ⟨t, CT, dx, _, rfl, by rw [upd_ne (Ne.symm ot)]; exact t4, K_Table.cl, K_Table.n4, by simp, ?_⟩
    have e5 : putF "_orders" (.ref od) [(("_book" : Str), V.ref k), ("_names", .ref nm), ("_bases", .ref ba)] = [(("_book" : Str), V.ref k), ("_names", .ref nm), ("_bases", .ref ba), ("_orders", .ref od)] := rfl
    rw [e5]
    have k5 : Keep t H4 (upd (upd H4 od (.dK [])) t (.ins CT dx [("_book", .ref k), ("_names", .ref nm), ("_bases", .ref ba), ("_orders", .ref od)])) := (Keep.same (Rd.sNew hod)).put
    have t5 : upd (upd H4 od (.dK [])) t (.ins CT dx [("_book", .ref k), ("_names", .ref nm), ("_bases", .ref ba), ("_orders", .ref od)]) t = some (.ins CT dx [("_book", .ref k), ("_names", .ref nm), ("_bases", .ref ba), ("_orders", .ref od)]) := upd_same
    have n5 : upd (upd H4 od (.dK [])) t (.ins CT dx [("_book", .ref k), ("_names", .ref nm), ("_bases", .ref ba), ("_orders", .ref od)]) od = some (.dK []) := by rw [upd_ne ot, upd_same]
    generalize upd (upd H4 od (.dK [])) t (.ins CT dx [("_book", .ref k), ("_names", .ref nm), ("_bases", .ref ba), ("_orders", .ref od)]) = H5 at k5 t5 n5 ⊢
    repeat walk_at "rd"
    refine fun en hen => ?_
    have et : en ≠ t := fun e => by rw [e, t5] at hen; cases hen
    repeat walk_at "rd"
    refine ⟨t, CT, dx, _, rfl, by rw [upd_ne (Ne.symm et)]; exact t5, K_Table.cl, K_Table.n5, by simp, ?_⟩
    have e6 : putF "_entries" (.ref en) [(("_book" : Str), V.ref k), ("_names", .ref nm), ("_bases", .ref ba), ("_orders", .ref od)] = [(("_book" : Str), V.ref k), ("_names", .ref nm), ("_bases", .ref ba), ("_orders", .ref od), ("_entries", .ref en)] := rfl
    rw [e6]
    have k6 : Keep t H5 (upd (upd H5 en (.dK [])) t (.ins CT dx [("_book", .ref k), ("_names", .ref nm), ("_bases", .ref ba), ("_orders", .ref od), ("_entries", .ref en)])) := (Keep.same (Rd.sNew hen)).put
    have t6 : upd (upd H5 en (.dK [])) t (.ins CT dx [("_book", .ref k), ("_names", .ref nm), ("_bases", .ref ba), ("_orders", .ref od), ("_entries", .ref en)]) t = some (.ins CT dx [("_book", .ref k), ("_names", .ref nm), ("_bases", .ref ba), ("_orders", .ref od), ("_entries", .ref en)]) := upd_same
    have n6 : upd (upd H5 en (.dK [])) t (.ins CT dx [("_book", .ref k), ("_names", .ref nm), ("_bases", .ref ba), ("_orders", .ref od), ("_entries", .ref en)]) en = some (.dK []) := by rw [upd_ne et, upd_same]
    generalize upd (upd H5 en (.dK [])) t (.ins CT dx [("_book", .ref k), ("_names", .ref nm), ("_bases", .ref ba), ("_orders", .ref od), ("_entries", .ref en)]) = H6 at k6 t6 n6 ⊢
    repeat walk_at "rd"
    have kk : Keep t H1 H6 := (((k2.trans k3).trans k4).trans k5).trans k6
    have sh : Same (hide t H) H6 := fun a o e => by
      by_cases c : a = t
      · subst c; rw [hide_at] at e; cases e
      · rw [hide_ne _ c] at e
        exact kk a o c (s1 _ _ e)
    have b6 : Bk K C_Book H6 k kw kf g m fl := ⟨⟨dk, kk _ _ tk hk⟩, kk _ _ tw bk1.wd, kk _ _ tf bk1.fd, fun o ho => sqT_keep kk (nt_ins (s1 _ _ ht)) (bk1.tp o ho), bk1.ne⟩
    have fr : ∀ {a}, a ≠ t → H6 a = none → True := fun _ _ => trivial
    -- what is none behind some heap is none before it
    have back : ∀ {Ha Hb : Hp} {a : Addr}, Keep t Ha Hb → a ≠ t → Hb a = none → Ha a = none := fun {Ha Hb a} kp ne e => by
      cases z : Ha a with
      | none => rfl
      | some u => rw [kp _ _ ne z] at e; cases e
    have nm1 := back k2 nt hnm
    have ba1 := back ((k2.trans k3)) bt hba
    have od1 := back ((k2.trans k3).trans k4) ot hod
    have en1 := back (((k2.trans k3).trans k4).trans k5) et hen
    have hd : ∀ {a : Addr}, a ≠ t → H1 a = none → hide t H a = none := fun ne e => by rw [hide_ne _ ne]; exact Same.free s1 e
    have w1 := bk1.wd
    have f1 := bk1.fd
    have od4 := back k4 ot hod
    have en5 := back k5 et hen
    have en4 := back (k4.trans k5) et hen
    refine q { bk := k, w := kw, f := kf, nm := nm, ba := ba, od := od, en := en, g := g, gB := fun _ => 0, gO := fun _ => 0, gE := fun _ => 0 } H6 sh ?_
    refine { ins := ⟨dx, t6⟩, bk := b6, nm := k6 _ _ nt (k5 _ _ nt (k4 _ _ nt n3)), ba := ⟨k6 _ _ bt (k5 _ _ bt n4), fun m hm => (nomatch hm)⟩, od := k6 _ _ ot n5, ol := fun n hn => (nomatch hn), en := n6, ee := fun n hn => (nomatch hn), d1 := ?_, d2 := by simp [tt0], new := ⟨hide_at _ _, hd nt nm1, hd ot od1, hd et en1, fun n hn => (nomatch hn)⟩ }
    have z1 : kw ≠ ba := ne_of_none w1 ba1
    have z2 : kw ≠ od := ne_of_none w1 od1
    have z3 : kw ≠ en := ne_of_none w1 en1
    have z4 : kf ≠ ba := ne_of_none f1 ba1
    have z5 : kf ≠ od := ne_of_none f1 od1
    have z6 : kf ≠ en := ne_of_none f1 en1
    have z7 : ba ≠ od := fun e => by rw [← e, n4] at hod; cases hod
    have z8 : ba ≠ en := fun e => by have := k5 _ _ bt n4; rw [← e, this] at hen; cases hen
    have z9 : od ≠ en := fun e => by rw [← e, n5] at hen; cases hen
    simp [tt0, bk1.ne, z1, z2, z3, z4, z5, z6, z7, z8, z9]
abbrev sTable__check_class : Stmt := meth 65 1
abbrev nTable__check_class : List Str := ["self", "name"]
theorem scTable__check_class : FnScope nTable__check_class ["self", "name"] (defScope sTable__check_class) := ⟨rfl, rfl, rfl, by decide +kernel, rfl, by decide +kernel, by decide +kernel⟩
def spCC (K : PySem.W.Frag) (CT CB CK : Addr) : Sp := fun vs H Q _ => ∃ (H0 : Hp) (t : Addr) (a : TA) (s : Tt) (c : Nat) (x : Str), vs = [.ref t, .str x] ∧ TbAt K CT CB CK H0 H t a s c ∧ x ∈ s.ns ∧ Q .non H
theorem ok_cc (T : Txt K mg) {CT CB CK : Addr} (K_Table : TF K mg CT) (CIs_one_of : CalG P w K mg base 1 "is_one_of" (spOneOfL K)) {f : Addr} {fd : FuncData} (D : Ob.MethAt K "_check_class" "Table._check_class" sTable__check_class ["self", "name"] f fd) :
    FnG P w K mg base CX0 2 f fd ["self", "name"] (spCC K CT CB CK) := by
  refine Ob.byG D scTable__check_class (fun vs H Q E h => ?_) (fun cd A hg outer s H vs Q E hr h => ?_)
  · obtain ⟨_, _, _, _, _, _, rfl, _⟩ := h
    rfl
  · obtain ⟨H0, t, a, st, c, x, rfl, tb, hx, q⟩ := h
    obtain ⟨dx, ht⟩ := tb.ins
    refine ⟨_, (pss_one (ps_if (pt_not (pt_val (pe_cG CIs_one_of hg hr (by decide) (pa_cons (pv 1) (pa_cons (pe_fld (pv 0) (by rfl)) pa_nil)))))
  (pss_one Sm.ps_dead)
  pss_nil)), ?_⟩
    repeat walk_at "rd"
    refine Rd.fldV rfl ht K_Table.cl K_Table.n2 rfl ?_
    repeat walk_at "rd"
    refine ⟨.str x, a.nm, "str", st.ns, rfl, kd_str x, SqL.of tb.nm, ?_⟩
    have e : isIn (.str x) st.ns = true := by show decide (x ∈ st.ns) = true; exact decide_eq_true hx
    rw [e]
    repeat walk_at "rd"
    exact q
end
end Ab
namespace Ab
open M6 PySem.Spec PyProof.Rows
local macro_rules | `(tactic| walk_at "rd") => `(tactic| (with_reducible first | refine Rd.tt_ ?_ | refine Rd.ff_ ?_ | refine Rd.sfld ?_ | refine Rd.dget ?_ | refine Rd.methR ?_ | refine Rd.propR ?_ | refine Rd.statR ?_ | refine Rd.getR ?_))
/-- no body stands at p -/
def NoBd (H : Hp) (p : Addr) : Prop := ∀ C dx fs, H p = some (.ins C dx fs) → fs.length ≠ 3
theorem ent_keep {K : PySem.W.Frag} {CB p : Addr} {H H' : Hp} {m : Str} {e : Ent} {v : V} (k : Keep p H H') (n : NoTup H p) (nb : NoBd H p) (h : EntAt K CB H m e v) : EntAt K CB H' m e v := by
  cases e with
  | w z => exact h
  | b nd =>
    obtain ⟨b, L, x, e, bd, ok⟩ := h
    obtain ⟨dx, hb⟩ := bd.ins
    exact ⟨b, L, x, e, ⟨⟨dx, k _ _ (fun c => by subst c; exact nb _ _ _ hb rfl) hb⟩, dp_keepT k n bd.dp (nd_noList _)⟩, ok⟩
theorem ents_keep {K : PySem.W.Frag} {CB p : Addr} {H H' : Hp} {kvs : List (Key × V)} {f : Str → Option Ent} (k : Keep p H H') (n : NoTup H p) (nb : NoBd H p) (h : Ents K CB H kvs f) : Ents K CB H' kvs f :=
  ⟨h.no, fun m hm e he => let ⟨v, h1, h2⟩ := h.yes m hm e he; ⟨v, h1, ent_keep k n nb h2⟩⟩
theorem bk_keep {K : PySem.W.Frag} {C p : Addr} {H H' : Hp} {b w f : Addr} {g : Str → Addr} {m : Str → List Str} {fl : Str → Bool} (k : Keep p H H') (n : NoTup H p) (h1 : b ≠ p) (h2 : w ≠ p) (h3 : f ≠ p) (h : Bk K C H b w f g m fl) : Bk K C H' b w f g m fl :=
  ⟨let ⟨dx, e⟩ := h.ins; ⟨dx, k _ _ h1 e⟩, k _ _ h2 h.wd, k _ _ h3 h.fd, fun o ho => sqT_keep k n (h.tp o ho), h.ne⟩
theorem nb_lst {H : Hp} {p : Addr} {xs : List V} (h : H p = some (.lst xs)) : NoBd H p := fun C dx fs e => by rw [h] at e; cases e
theorem nb_dK {H : Hp} {p : Addr} {xs : List (Key × V)} (h : H p = some (.dK xs)) : NoBd H p := fun C dx fs e => by rw [h] at e; cases e
theorem nb_ins {H : Hp} {p C dx : Addr} {fs : List (Str × V)} (h : H p = some (.ins C dx fs)) (l : fs.length ≠ 3) : NoBd H p := fun C dx fs e => by rw [h] at e; cases e; exact l
def Tt.add (s : Tt) (x : Str) (l o : List Str) : Tt := { s with ns := s.ns ++ [x], bs := fset s.bs x l, od := fset s.od x o, en := fset s.en x fun _ => none }
section
variable {P : Program} {w : World} {K : PySem.W.Frag} {mg : Str → Option Value} {base : Heap}
theorem forTu {tl : TE} {g : TG} {tb : TS} {D : Ends} {σ : L2.St} {H : Hp} (k : tl σ H fun x H1 => tFor (iTup K (tC x)) g tb D σ H1) : tFor (iTup K tl) g tb D σ H := k
abbrev sTable_add : Stmt := meth 65 2
abbrev nTable_add : List Str := ["self", "name", "bases", "base", "bases_then", "order"]
theorem scTable_add : FnScope nTable_add ["self", "name", "bases"] (defScope sTable_add) := ⟨rfl, rfl, rfl, by decide +kernel, rfl, by decide +kernel, by decide +kernel⟩
def spAdd (K : PySem.W.Frag) (CT CB CK : Addr) : Sp := fun vs H Q _ => ∃ (H0 : Hp) (t : Addr) (a : TA) (s : Tt) (c : Nat) (x : Str) (p : Addr) (l o : List Str) (rk : Str → Nat), vs = [.ref t, .str x, .ref p] ∧ TbAt K CT CB CK H0 H t a s c ∧ Same H0 H ∧ SqT K H p (l.map V.str) ∧
  wordOk x = true ∧ x ∉ s.ns ∧ s.ns.length < 8 ∧ (∀ b ∈ l, b ∈ s.ns) ∧ Dag (s.ns ++ [x]) (fset s.bs x l) rk ∧ rk x < 9 ∧ ordF (fset s.bs x l) 9 x = some o ∧ (∀ n ∈ s.ns, s.en n = fun _ => none) ∧
  ∀ a' H', Same H0 H' → TbAt K CT CB CK H0 H' t a' (s.add x l o) c → Q .non H'
theorem ok_add (T : Txt K mg) {CT CB CK : Addr} {t8 : Tok} (g_MOST_CLASSES : mg "MOST_CLASSES" = some (.int 8 t8)) (K_Table : TF K mg CT) (CIs_word : CalG P w K mg base 1 "is_word" (spWord K)) (COrder_of : CalG P w K mg base 12 "order_of" (spOrder K 9)) (M_Table__check_class : Ob.MCal P w K mg base CX0 CT 2 "_check_class" (spCC K CT CB CK)) {f : Addr} {fd : FuncData}
    (F : Fun K "add" "Table.add" sTable_add f fd) (hb : ∀ us rest : List Value, us.length = 2 → bindArgs fd ⟨us ++ rest, []⟩ = (newTuple rest >>= fun t => pure ((["self", "name"] : List Str).zip us ++ [(("bases" : Str), t)]))) : Sm.FnS P w K mg base CX0 13 f (Sm.spStar 2 (spAdd K CT CB CK)) := by
  refine Sm.defS0 (ps := ["self", "name"]) (pv := "bases") F scTable_add hb (fun cd A hg outer s H vs Q E hr h => ?_)
  obtain ⟨H0, t, a, st, c, x, p, l, o, rk, rfl, tb, s0, hp, wo, nx, l8, hl, dag, rx, eo, _, q⟩ := h
  obtain ⟨dx, ht⟩ := tb.ins
  refine ⟨_, (pss_cons (ps_if (pt_not (pt_val (pe_cG CIs_word hg hr (by decide) (pa_cons (pv 1) pa_nil))))
  (pss_one Sm.ps_dead)
  pss_nil)
  (pss_cons (ps_if (pt_cmpR (r := rIn K false) op_in_seq (pv 1) (pe_fld (pv 0) (by rfl)) (by rfl))
  (pss_one Sm.ps_dead)
  pss_nil)
  (pss_cons (ps_for (wi := iTup K _) PassesOwn.never rfl (pi_tup (pv 2)) (pg_name (i := 3) scTable_add.nd rfl (Or.inl rfl))
  (pss_one (ps_expr (Ob.meth (pv 0) K_Table.cl M_Table__check_class hg hr (by decide) pass0 (pa_cons (pv 3) pa_nil)))))
  (pss_cons (ps_set (i := 4) scTable_add.nd rfl (Or.inl rfl) (Dd.pe_dstar (pe_fld (pv 0) (by rfl)) (pv 1) (pv 2)))
  (pss_cons (ps_set (i := 5) scTable_add.nd rfl (Or.inl rfl) (pe_cG COrder_of hg hr (by decide) (pa_cons (pv 1) (pa_cons (pv 4) pa_nil))))
  (pss_cons (ps_if (pt_cmpR op_isN (pv 5) pe_non (nomark _))
  (pss_one Sm.ps_dead)
  pss_nil)
  (pss_cons (ps_if (pt_cmpR op_ge (pe_callB (r := Rd.rLenK K) Rd.callLen (by rfl) T.len PySem.boot_len (pa_cons (pe_fld (pv 0) (by rfl)) pa_nil)) (pe_glob (v := .int 8) (by rfl) g_MOST_CLASSES ⟨_, rfl⟩) (nomark _))
  (pss_one Sm.ps_dead)
  pss_nil)
  (pss_cons (ps_expr (pe_bm PySem.F.plainAttrs_list PySem.F.slot_list_append PySem.F.type_list_append mt_append (pe_fld (pv 0) (by rfl)) (pa_cons (pv 1) pa_nil)))
  (pss_cons (ps_fld (pv 0) (pv 4) (by rfl))
  (pss_cons (ps_asg (pv 5) (pg_sub (pe_fld (pv 0) (by rfl)) (pv 1) (set_dict (one_ hr.units))))
  (pss_one (ps_asg pe_dnewK (pg_sub (pe_fld (pv 0) (by rfl)) (pv 1) (set_dict (one_ hr.units))))))))))))))), ?_⟩
  repeat walk_at "rd"
  refine ⟨x, rfl, wo, ?_⟩
  repeat walk_at "rd"
  refine Rd.ff_ ?_
  repeat walk_at "rd"
  refine Rd.fldV rfl ht K_Table.cl K_Table.n2 rfl ?_
  refine Rd.inL (SqL.of tb.nm) rfl (flat_strs _) ?_
  have e1 : (if (false : Bool) = true then !inV (.str x) (st.ns.map V.str) else inV (.str x) (st.ns.map V.str)) = false := by rw [inV_str]; exact decide_eq_false nx
  rw [e1]
  repeat walk_at "rd"
  refine forTu ?_
  repeat walk_at "rd"
  refine ⟨p, rfl, ⟨_, hp⟩, ?_⟩
  refine for_tup (K := K) (a := p) (xs := l.map V.str) (fun i σ H1 => ∃ v3, σ = [some (.ref t), some (.str x), some (.ref p), v3, none, none] ∧ H1 = H) ⟨_, rfl, rfl⟩ (fun i σ H1 _ ⟨_, _, e⟩ => by rw [e]; exact hp) ?_ ?_
  · rintro i z σ H1 hz ⟨v3, rfl, eH⟩
    obtain rfl : H = H1 := eH.symm
    obtain ⟨hi, e⟩ := List.getElem?_eq_some_iff.mp hz
    rw [List.length_map] at hi
    rw [List.getElem_map] at e
    subst e
    repeat walk_at "rd"
    refine ⟨t, dx, _, rfl, ht, rfl, ?_⟩
    repeat walk_at "rd"
    refine ⟨H0, t, a, st, c, l[i], rfl, tb, hl _ (List.getElem_mem hi), ?_⟩
    exact ⟨_, rfl, rfl⟩
  · rintro σ H1 ⟨v3, rfl, eH⟩
    obtain rfl : H = H1 := eH.symm
    clear eH
    repeat walk_at "rd"
    refine fun pb hpb => ?_
    have pt : t ≠ pb := ne_of_none ht hpb
    have s1 := Rd.sNew (o := .dK []) hpb
    refine Rd.fldV rfl (by rw [upd_ne pt]; exact ht) K_Table.cl K_Table.n3 rfl ?_
    have bp : a.ba ≠ pb := ne_of_none tb.ba.dt hpb
    refine ⟨upd_same, a.ba, tab st.ns fun m => .ref (a.gB m), rfl, bp, .inl (by rw [upd_ne bp]; exact tb.ba.dt), by rw [tab_len]; exact Rd.sz (by omega), fun q0 qp hq0 => ?_⟩
    rw [upd_upd]
    rw [upd_ne qp] at hq0
    repeat walk_at "rd"
    refine ⟨upd_same, by rw [upd_ne (Ne.symm qp), upd_same], x, rfl, ?_⟩
    rw [upd_upd, tab_put_new nx, fset_ref]
    have sB : Same H (upd (upd (upd H pb (.dK (tab st.ns fun m => .ref (a.gB m)))) q0 (.dK [(.inr x, .ref p)])) pb (.dK (tab (st.ns ++ [x]) fun m => .ref (fset a.gB x p m)))) := fun b u e => by
      rw [upd_ne (ne_of_none e hpb), upd_ne (ne_of_none e hq0), upd_ne (ne_of_none e hpb)]
      exact e
    have dB : upd (upd (upd H pb (.dK (tab st.ns fun m => .ref (a.gB m)))) q0 (.dK [(.inr x, .ref p)])) pb (.dK (tab (st.ns ++ [x]) fun m => .ref (fset a.gB x p m))) pb = some (.dK (tab (st.ns ++ [x]) fun m => .ref (fset a.gB x p m))) := upd_same
    generalize upd (upd (upd H pb (.dK (tab st.ns fun m => .ref (a.gB m)))) q0 (.dK [(.inr x, .ref p)])) pb (.dK (tab (st.ns ++ [x]) fun m => .ref (fset a.gB x p m))) = H1 at sB dB ⊢
    have ba1 : BasesAt K H1 pb (st.ns ++ [x]) (fset a.gB x p) (fset st.bs x l) := ⟨dB, fun m hm => by
      by_cases c : m = x
      · subst c; rw [fset_at, fset_at]; exact sqT_same sB hp
      · rw [fset_ne c, fset_ne c]
        refine sqT_same sB (tb.ba.tp m ?_)
        rcases List.mem_append.mp hm with h | h
        · exact h
        · exact absurd (List.mem_singleton.mp h) c⟩
    repeat walk_at "rd"
    refine ⟨x, pb, st.ns ++ [x], fset a.gB x p, fset st.bs x l, rk, rfl, ba1, dag, by rw [List.length_append]; show st.ns.length + 1 ≤ 20; omega, by simp, rx, fun e H2 s2 => (nomatch (eo.symm.trans e)), fun l2 e2 L H2 hL s2 hl2 => ?_⟩
    obtain rfl : o = l2 := by rw [eo] at e2; exact Option.some.inj e2
    have s12 := sB.trans s2
    have tb2 := tb.mono s12
    have dB2 := ba1.mono s2
    repeat walk_at "rd"
    refine Rd.dec (fun c => nomatch c) (fun _ => ?_)
    repeat walk_at "rd"
    have ht2 := s12 _ _ ht
    refine Rd.fldV rfl ht2 K_Table.cl K_Table.n2 rfl ?_
    repeat walk_at "rd"
    refine Rd.lenK (SqL.of tb2.nm) ?_
    repeat walk_at "rd"
    refine Rd.dec (fun c => absurd c (by rw [List.length_map]; omega)) (fun _ => ?_)
    repeat walk_at "rd"
    refine Rd.fldV rfl ht2 K_Table.cl K_Table.n2 rfl ?_
    refine ⟨Rd.ty_list tb2.nm, ?_⟩
    repeat walk_at "rd"
    refine Rd.app tb2.nm (Rd.szl (by rw [List.length_map]; omega)) ?_
    have en' : st.ns.map V.str ++ [V.str x] = (st.ns ++ [x]).map V.str := by rw [List.map_append]; rfl
    rw [en']
    have tnm : t ≠ a.nm := fun e => by rw [e, tb2.nm] at ht2; cases ht2
    have k3 : Keep a.nm H2 (upd H2 a.nm (.lst ((st.ns ++ [x]).map V.str))) := Keep.put (fun _ _ _ e => e)
    have ht3 := k3 _ _ tnm ht2
    have nm3 : upd H2 a.nm (.lst ((st.ns ++ [x]).map V.str)) a.nm = some (.lst ((st.ns ++ [x]).map V.str)) := upd_same
    have nt2 := nt_lst tb2.nm
    have nb2 := nb_lst tb2.nm
    generalize upd H2 a.nm (.lst ((st.ns ++ [x]).map V.str)) = H3 at k3 ht3 nm3 ⊢
    repeat walk_at "rd"
    refine ⟨t, CT, dx, _, rfl, ht3, K_Table.cl, K_Table.n3, by simp, ?_⟩
    have e4 : putF "_bases" (.ref pb) [(("_book" : Str), V.ref a.bk), ("_names", .ref a.nm), ("_bases", .ref a.ba), ("_orders", .ref a.od), ("_entries", .ref a.en)] = [(("_book" : Str), V.ref a.bk), ("_names", .ref a.nm), ("_bases", .ref pb), ("_orders", .ref a.od), ("_entries", .ref a.en)] := rfl
    rw [e4]
    have k4 : Keep t H3 (upd H3 t (.ins CT dx [("_book", .ref a.bk), ("_names", .ref a.nm), ("_bases", .ref pb), ("_orders", .ref a.od), ("_entries", .ref a.en)])) := Keep.put (fun _ _ _ e => e)
    have ht4 : upd H3 t (.ins CT dx [("_book", .ref a.bk), ("_names", .ref a.nm), ("_bases", .ref pb), ("_orders", .ref a.od), ("_entries", .ref a.en)]) t = some (.ins CT dx [("_book", .ref a.bk), ("_names", .ref a.nm), ("_bases", .ref pb), ("_orders", .ref a.od), ("_entries", .ref a.en)]) := upd_same
    have nt3 := nt_ins ht3
    have nb3 := nb_ins ht3 (by simp)
    generalize upd H3 t (.ins CT dx [("_book", .ref a.bk), ("_names", .ref a.nm), ("_bases", .ref pb), ("_orders", .ref a.od), ("_entries", .ref a.en)]) = H4 at k4 ht4 ⊢
    repeat walk_at "rd"
    refine Rd.fldV rfl ht4 K_Table.cl K_Table.n4 rfl ?_
    repeat walk_at "rd"
    have odn : a.od ≠ a.nm := fun e => by have := tb2.od; rw [e, tb2.nm] at this; cases this
    have odt : a.od ≠ t := fun e => by have := tb2.od; rw [e, ht2] at this; cases this
    have od4 := k4 _ _ odt (k3 _ _ odn tb2.od)
    refine ⟨a.od, _, rfl, .inl ⟨_, .inr x, od4, rfl, by rw [tab_len]; exact Rd.szl (by omega), rfl⟩, ?_⟩
    rw [tab_put_new nx, fset_ref]
    have k5 : Keep a.od H4 (upd H4 a.od (.dK (tab (st.ns ++ [x]) fun m => .ref (fset a.gO x L m)))) := Keep.put (fun _ _ _ e => e)
    have od5 : upd H4 a.od (.dK (tab (st.ns ++ [x]) fun m => .ref (fset a.gO x L m))) a.od = some (.dK (tab (st.ns ++ [x]) fun m => .ref (fset a.gO x L m))) := upd_same
    have nt4 := nt_dK od4
    have nb4 := nb_dK od4
    have ht5 := k5 _ _ (Ne.symm odt) ht4
    generalize upd H4 a.od (.dK (tab (st.ns ++ [x]) fun m => .ref (fset a.gO x L m))) = H5 at k5 od5 ht5 ⊢
    repeat walk_at "rd"
    refine fun G hG => ?_
    have s6 := Rd.sNew (o := .dK []) hG
    have G6 : upd H5 G (.dK []) G = some (.dK []) := upd_same
    generalize upd H5 G (.dK []) = H6 at s6 G6 ⊢
    repeat walk_at "rd"
    refine Rd.fldV rfl (s6 _ _ ht5) K_Table.cl K_Table.n5 rfl ?_
    repeat walk_at "rd"
    have enn : a.en ≠ a.nm := fun e => by have := tb2.en; rw [e, tb2.nm] at this; cases this
    have ent : a.en ≠ t := fun e => by have := tb2.en; rw [e, ht2] at this; cases this
    have dd := tb.d1
    simp only [List.nodup_cons, List.mem_cons, not_or] at dd
    obtain ⟨⟨w1, w2, w3, w4, w5⟩, ⟨f2, f3, f4, f5⟩, ⟨b3, b4, b5⟩, ⟨o4, o5⟩, n5, ndE⟩ := dd
    have en4 := k4 _ _ ent (k3 _ _ enn tb2.en)
    have en6 := s6 _ _ (k5 _ _ (Ne.symm o4) en4)
    refine ⟨a.en, _, rfl, .inl ⟨_, .inr x, en6, rfl, by rw [tab_len]; exact Rd.szl (by omega), rfl⟩, ?_⟩
    rw [tab_put_new nx, fset_ref]
    have k7 : Keep a.en H6 (upd H6 a.en (.dK (tab (st.ns ++ [x]) fun m => .ref (fset a.gE x G m)))) := Keep.put (fun _ _ _ e => e)
    have en7 : upd H6 a.en (.dK (tab (st.ns ++ [x]) fun m => .ref (fset a.gE x G m))) a.en = some (.dK (tab (st.ns ++ [x]) fun m => .ref (fset a.gE x G m))) := upd_same
    have nt6 := nt_dK en6
    have nb6 := nb_dK en6
    generalize upd H6 a.en (.dK (tab (st.ns ++ [x]) fun m => .ref (fset a.gE x G m))) = H7 at k7 en7 ⊢
    -- all that is not told anew
    have keep : ∀ {b : Addr} {o : HO}, H2 b = some o → b ≠ a.nm → b ≠ t → b ≠ a.od → b ≠ a.en → H7 b = some o := fun h c1 c2 c3 c4 => k7 _ _ c4 (s6 _ _ (k5 _ _ c3 (k4 _ _ c2 (k3 _ _ c1 h))))
    have tups : ∀ {b : Addr} {xs : List V}, SqT K H2 b xs → SqT K H7 b xs := fun h => sqT_keep k7 nt6 (sqT_same s6 (sqT_keep k5 nt4 (sqT_keep k4 nt3 (sqT_keep k3 nt2 h))))
    have ents : ∀ {kvs : List (Key × V)} {f : Str → Option Ent}, Ents K CB H2 kvs f → Ents K CB H7 kvs f := fun h => ents_keep k7 nt6 nb6 ((ents_keep k5 nt4 nb4 (ents_keep k4 nt3 nb3 (ents_keep k3 nt2 nb2 h))).mono s6)
    obtain ⟨n0, n1, n2, n3, n4⟩ := tb.new
    have G4 : H4 G = none := by
      cases z : H4 G with
      | none => rfl
      | some u =>
        by_cases c : G = a.od
        · rw [c, od5] at hG; cases hG
        · rw [k5 _ _ c z] at hG; cases hG
    have G2 : H2 G = none := by
      cases z : H2 G with
      | none => rfl
      | some u =>
        by_cases c : G = t
        · rw [c, ht5] at hG; cases hG
        · by_cases c2 : G = a.nm
          · rw [c2, k4 _ _ (Ne.symm tnm) nm3] at G4; cases G4
          · rw [k4 _ _ c (k3 _ _ c2 z)] at G4; cases G4
    have Gn : ∀ {b : Addr} {o : HO}, H2 b = some o → b ≠ G := fun h e => by rw [e, G2] at h; cases h
    have Ln : ∀ {b : Addr} {o : HO}, H b = some o → b ≠ L := fun h e => by have := sB _ _ h; rw [e, hL] at this; cases this
    have hH : ∀ {b : Addr} {o : HO}, H b = some o → b ≠ pb := fun h => ne_of_none h hpb
    have sub : ∀ m ∈ st.ns, m ≠ x := fun m hm e => nx (by rw [← e]; exact hm)
    have mem : ∀ m, m ∈ st.ns ++ [x] → m = x ∨ m ∈ st.ns := fun m hm => (List.mem_append.mp hm).elim Or.inr fun h => .inl (List.mem_singleton.mp h)
    have mapE : (st.ns ++ [x]).map (fset a.gE x G) = st.ns.map a.gE ++ [G] := by
      rw [List.map_append, List.map_congr_left (g := a.gE) fun m hm => fset_ne (sub m hm)]
      show _ ++ [fset a.gE x G x] = _
      rw [fset_at]
    have mapO : (st.ns ++ [x]).map (fset a.gO x L) = st.ns.map a.gO ++ [L] := by
      rw [List.map_append, List.map_congr_left (g := a.gO) fun m hm => fset_ne (sub m hm)]
      show _ ++ [fset a.gO x L x] = _
      rw [fset_at]
    have d2 := tb.d2
    rw [List.nodup_cons] at d2
    refine q { a with ba := pb, gB := fset a.gB x p, gO := fset a.gO x L, gE := fset a.gE x G } H7 (fun b u e => ?_) ?_
    · have nz : ∀ {d : Addr}, H0 d = none → b ≠ d := fun h c => by rw [c, h] at e; cases e
      exact keep (s12 _ _ (s0 _ _ e)) (nz n1) (nz n0) (nz n2) (nz n3)
    · have bk2 := tb2.bk
      obtain ⟨dk, hk⟩ := bk2.ins
      have cI : ∀ {b d C e : Addr} {fs : List (Str × V)} {kv : List (Key × V)}, H2 b = some (.ins C e fs) → H2 d = some (.dK kv) → b ≠ d := fun h1 h2 c => by rw [c, h2] at h1; cases h1
      have cL : ∀ {b d : Addr} {xs : List V} {kv : List (Key × V)}, H2 b = some (.lst xs) → H2 d = some (.dK kv) → b ≠ d := fun h1 h2 c => by rw [c, h2] at h1; cases h1
      have cJ : ∀ {b d C e : Addr} {fs : List (Str × V)} {xs : List V}, H2 b = some (.ins C e fs) → H2 d = some (.lst xs) → b ≠ d := fun h1 h2 c => by rw [c, h2] at h1; cases h1
      have bt : a.bk ≠ t := fun c => by rw [c, ht2] at hk; cases hk
      refine { ins := ⟨dx, k7 _ _ (Ne.symm ent) (s6 _ _ ht5)⟩, bk := ⟨⟨dk, keep hk (cJ hk tb2.nm) bt (cI hk tb2.od) (cI hk tb2.en)⟩, keep bk2.wd (Ne.symm (cL tb2.nm bk2.wd)) (Ne.symm (cI ht2 bk2.wd)) w3 w4, keep bk2.fd (Ne.symm (cL tb2.nm bk2.fd)) (Ne.symm (cI ht2 bk2.fd)) f3 f4, fun o ho => tups (bk2.tp o ho), bk2.ne⟩, nm := k7 _ _ (Ne.symm enn) (s6 _ _ (k5 _ _ (Ne.symm odn) (k4 _ _ (Ne.symm tnm) nm3))), ba := ⟨keep dB2.dt (Ne.symm (cL tb2.nm dB2.dt)) (Ne.symm (cI ht2 dB2.dt)) (fun c => hH tb.od c.symm) (fun c => hH tb.en c.symm), fun m hm => tups (dB2.tp m hm)⟩, od := k7 _ _ o4 (s6 _ _ od5), ol := fun n hn => ?_, en := en7, ee := fun n hn => ?_, d1 := ?_, d2 := ?_, new := ⟨n0, n1, n2, n3, fun n hn => ?_⟩ }
      · rcases mem n hn with rfl | hn
        · show H7 (fset a.gO n L n) = some (.lst ((fset st.od n o n).map V.str))
          rw [fset_at, fset_at]
          exact keep hl2 (fun c => Ln tb.nm c.symm) (fun c => Ln ht c.symm) (fun c => Ln tb.od c.symm) (fun c => Ln tb.en c.symm)
        · show H7 (fset a.gO x L n) = some (.lst ((fset st.od x o n).map V.str))
          rw [fset_ne (sub n hn), fset_ne (sub n hn)]
          have h := tb2.ol n hn
          exact keep h (fun c => d2.1 (c ▸ List.mem_map_of_mem hn)) (Ne.symm (cJ ht2 h)) (cL h tb2.od) (cL h tb2.en)
      · rcases mem n hn with rfl | hn
        · refine ⟨[], ?_, Nat.zero_le _, ⟨fun _ _ _ => rfl, fun m hm e he => ?_⟩⟩
          · show H7 (fset a.gE n G n) = _
            rw [fset_at]
            exact k7 _ _ (fun c => Gn tb2.en c.symm) G6
          · have he : fset st.en n (fun _ => none) n m = some e := he
            rw [fset_at] at he
            cases he
        · obtain ⟨kvs, h1, h2, h3⟩ := tb2.ee n hn
          refine ⟨kvs, ?_, h2, ?_⟩
          · show H7 (fset a.gE x G n) = _
            rw [fset_ne (sub n hn)]
            exact keep h1 (Ne.symm (cL tb2.nm h1)) (Ne.symm (cI ht2 h1)) (fun c => o5 (c ▸ List.mem_map_of_mem hn)) (fun c => n5 (c ▸ List.mem_map_of_mem hn))
          · show Ents K CB H7 kvs (fset st.en x (fun _ => none) n)
            rw [fset_ne (sub n hn)]
            exact ents h3
      · show (a.w :: a.f :: pb :: a.od :: a.en :: (st.ns ++ [x]).map (fset a.gE x G)).Nodup
        rw [mapE]
        have gp : ∀ m ∈ st.ns, a.gE m ≠ pb := fun m hm => let ⟨_, h, _⟩ := tb.ee m hm; hH h
        have gg : ∀ m ∈ st.ns, a.gE m ≠ G := fun m hm => let ⟨_, h, _⟩ := tb2.ee m hm; Gn h
        have c1 := hH tb.bk.wd
        have c2 := hH tb.bk.fd
        have c3 := hH tb.od
        have c4 := hH tb.en
        have c5 := Gn tb2.bk.wd
        have c6 := Gn tb2.bk.fd
        have c7 := Gn tb2.od
        have c8 := Gn tb2.en
        have c9 := Gn dB2.dt
        have pz : pb ∉ st.ns.map a.gE := fun h => let ⟨m, hm, e⟩ := List.mem_map.mp h; gp m hm e
        have Gz : G ∉ st.ns.map a.gE := fun h => let ⟨m, hm, e⟩ := List.mem_map.mp h; gg m hm e
        have ndE2 : (st.ns.map a.gE ++ [G]).Nodup := List.nodup_append.mpr ⟨ndE, by simp, fun u hu v hv c => Gz (by rw [← List.mem_singleton.mp hv, ← c]; exact hu)⟩
        simp only [List.nodup_cons, List.mem_cons, List.mem_append, List.not_mem_nil, or_false, not_or]
        exact ⟨⟨w1, c1, w3, w4, w5, c5⟩, ⟨c2, f3, f4, f5, c6⟩, ⟨fun c => c3 c.symm, fun c => c4 c.symm, pz, c9⟩, ⟨o4, o5, c7⟩, ⟨n5, c8⟩, ndE2⟩
      · show (a.nm :: (st.ns ++ [x]).map (fset a.gO x L)).Nodup
        rw [mapO]
        have Lz : L ∉ st.ns.map a.gO := fun h => let ⟨m, hm, e⟩ := List.mem_map.mp h; Ln (tb.ol m hm) e
        have ndO : (st.ns.map a.gO ++ [L]).Nodup := List.nodup_append.mpr ⟨d2.2, by simp, fun u hu v hv c => Lz (by rw [← List.mem_singleton.mp hv, ← c]; exact hu)⟩
        simp only [List.nodup_cons, List.mem_cons, List.mem_append, List.not_mem_nil, or_false, not_or]
        exact ⟨⟨d2.1, Ln tb.nm⟩, ndO⟩
      · rcases mem n hn with rfl | hn
        · show H0 (fset a.gE n G n) = none
          rw [fset_at]
          exact Same.free s0 (Same.free s12 G2)
        · show H0 (fset a.gE x G n) = none
          rw [fset_ne (sub n hn)]
          exact n4 n hn
end
end Ab
namespace Ab
open M6 PySem.Spec PyProof.Rows
local macro_rules | `(tactic| walk_at "rd") => `(tactic| (with_reducible first | refine Rd.tt_ ?_ | refine Rd.ff_ ?_ | refine Rd.sfld ?_ | refine Rd.dget ?_ | refine Rd.methR ?_ | refine Rd.propR ?_ | refine Rd.statR ?_ | refine Rd.getR ?_))
theorem isIn_of {x : Str} {l : List Str} (h : x ∈ l) : isIn (.str x) l = true := decide_eq_true h
theorem dget1R {td ty : TE} {σ : L2.St} {H : Hp} {Q : VK} (k : td σ H fun x H1 => ∃ a, x = .ref a ∧ IsD H1 a ∧ ty σ H1 fun y H2 => ∃ o, DGet H2 a y o ∧ Q (o.getD .non) H2) : tDGet1 td ty σ H Q := k
theorem dpop2R {td ty tx : TE} {σ : L2.St} {H : Hp} {Q : VK} (k : td σ H fun x H1 => ∃ a, x = .ref a ∧ IsD H1 a ∧ ty σ H1 fun y H2 => tx σ H2 fun z H3 => ∃ kvs k, H3 a = some (.dK kvs) ∧ y = kV k ∧
  (∀ v, valV kvs k = some v → Q v (upd H3 a (.dK (dropK kvs k)))) ∧ (valV kvs k = none → Q z H3)) : tDPop2 td ty tx σ H Q := k
theorem dinR {td ty : TE} {σ : L2.St} {H : Hp} {Q : VK} (k : ty σ H fun y H1 => td σ H1 fun x H2 => ∃ a o, x = .ref a ∧ DGet H2 a y o ∧ Q (.bl o.isSome) H2) : tDIn ty td σ H Q := k
theorem valV_drop' {kvs : List (Key × V)} {k j : Key} : valV (dropK kvs k) j = if j = k then none else valV kvs j := by
  unfold dropK
  induction kvs with
  | nil => simp [valV]
  | cons p r ih =>
    by_cases e : p.1 = k
    · rw [List.filter_cons_of_neg (by simp [e]), ih]
      by_cases c : j = k
      · rw [if_pos c, if_pos c]
      · rw [if_neg c, if_neg c, valV_neg (fun z => c (by rw [← z, e]))]
    · rw [List.filter_cons_of_pos (by simp [e])]
      by_cases c : p.1 = j
      · rw [valV_pos c, valV_pos c, if_neg (fun z => e (by rw [c, z]))]
      · rw [valV_neg c, valV_neg c, ih]
theorem map_ne {f : Str → Addr} : ∀ {l : List Str}, (l.map f).Nodup → ∀ {a b : Str}, a ∈ l → b ∈ l → a ≠ b → f a ≠ f b
  | [], _, _, _, h, _, _ => nomatch h
  | c :: l, nd, a, b, ha, hb, ne => by
    rw [List.map_cons, List.nodup_cons] at nd
    rcases List.mem_cons.mp ha with ea | ma
    · rcases List.mem_cons.mp hb with eb | mb
      · exact absurd (ea.trans eb.symm) ne
      · exact fun e => nd.1 (by rw [← ea, e]; exact List.mem_map_of_mem mb)
    · rcases List.mem_cons.mp hb with eb | mb
      · exact fun e => nd.1 (by rw [← eb, ← e]; exact List.mem_map_of_mem ma)
      · exact map_ne nd.2 ma mb ne
def Tt.put (s : Tt) (x m : Str) (o : Option Ent) : Tt := { s with en := fset s.en x (fset (s.en x) m o) }
theorem TbAt.put {K : PySem.W.Frag} {CT CB CK : Addr} {H0 H : Hp} {t : Addr} {a : TA} {s : Tt} {c c' : Nat} {x : Str} {kvs kvs' : List (Key × V)} {f : Str → Option Ent} (h : TbAt K CT CB CK H0 H t a s c) (s0 : Same H0 H) (hx : x ∈ s.ns) (hk : H (a.gE x) = some (.dK kvs))
    (he : Ents K CB H kvs' f) (lz : kvs'.length ≤ c') (lc : c ≤ c') : Same H0 (upd H (a.gE x) (.dK kvs')) ∧ TbAt K CT CB CK H0 (upd H (a.gE x) (.dK kvs')) t a { s with en := fset s.en x f } c' := by
  have k : Keep (a.gE x) H (upd H (a.gE x) (.dK kvs')) := Keep.put (fun _ _ _ e => e)
  have e1 : upd H (a.gE x) (.dK kvs') (a.gE x) = some (.dK kvs') := upd_same
  have n0 := h.new.2.2.2.2 x hx
  have s1 : Same H0 (upd H (a.gE x) (.dK kvs')) := fun b u e => k _ _ (fun c => by rw [c, n0] at e; cases e) (s0 _ _ e)
  refine ⟨s1, ?_⟩
  have nt := nt_dK hk
  have nb := nb_dK hk
  clear s1
  generalize upd H (a.gE x) (.dK kvs') = H' at k e1 ⊢
  have dd := h.d1
  have d1 := h.d1
  have d2 := h.d2
  have nw := h.new
  simp only [List.nodup_cons, List.mem_cons, not_or] at dd
  obtain ⟨⟨w1, w2, w3, w4, w5⟩, ⟨f2, f3, f4, f5⟩, ⟨b3, b4, b5⟩, ⟨o4, o5⟩, n5, ndE⟩ := dd
  have inE := List.mem_map_of_mem (f := a.gE) hx
  obtain ⟨dx, ht⟩ := h.ins
  have bk := h.bk
  obtain ⟨dk, hb⟩ := bk.ins
  have cI : ∀ {b C e : Addr} {fs : List (Str × V)}, H b = some (.ins C e fs) → b ≠ a.gE x := fun h1 c => by rw [c, hk] at h1; cases h1
  have cL : ∀ {b : Addr} {xs : List V}, H b = some (.lst xs) → b ≠ a.gE x := fun h1 c => by rw [c, hk] at h1; cases h1
  refine { ins := ⟨dx, k _ _ (cI ht) ht⟩, bk := ⟨⟨dk, k _ _ (cI hb) hb⟩, k _ _ (fun c => w5 (c ▸ inE)) bk.wd, k _ _ (fun c => f5 (c ▸ inE)) bk.fd, fun o ho => sqT_keep k nt (bk.tp o ho), bk.ne⟩, nm := k _ _ (cL h.nm) h.nm, ba := ⟨k _ _ (fun c => b5 (c ▸ inE)) h.ba.dt, fun m hm => sqT_keep k nt (h.ba.tp m hm)⟩, od := k _ _ (fun c => o5 (c ▸ inE)) h.od, ol := fun n hn => k _ _ (cL (h.ol n hn)) (h.ol n hn), en := k _ _ (fun c => n5 (c ▸ inE)) h.en, ee := fun n hn => ?_, d1 := d1, d2 := d2, new := nw }
  by_cases c : n = x
  · subst c
    refine ⟨kvs', e1, lz, ?_⟩
    show Ents K CB H' kvs' (fset s.en n f n)
    rw [fset_at]
    exact ents_keep k nt nb he
  · obtain ⟨kv, h1, h2, h3⟩ := h.ee n hn
    refine ⟨kv, k _ _ (map_ne ndE hn hx c) h1, Nat.le_trans h2 lc, ?_⟩
    show Ents K CB H' kv (fset s.en x f n)
    rw [fset_ne c]
    exact ents_keep k nt nb h3
section
variable {P : Program} {w : World} {K : PySem.W.Frag} {mg : Str → Option Value} {base : Heap}
abbrev sIs_entry : Stmt := top 64
abbrev nIs_entry : List Str := ["method", "value"]
theorem scIs_entry : FnScope nIs_entry ["method", "value"] (defScope sIs_entry) := ⟨rfl, rfl, rfl, by decide +kernel, rfl, by decide +kernel, by decide +kernel⟩
def spIsEntry (K : PySem.W.Frag) (CB : Addr) : Sp := fun vs H Q _ => ∃ (m : Str) (e : Ent) (v : V), vs = [.str m, v] ∧ EntAt K CB H m e v ∧ Q (.bl true) H
theorem ok_is_entry (T : Txt K mg) {C_Body p_ENTRY_WORDS : Addr} (g_ENTRY_WORDS : mg "ENTRY_WORDS" = some (.ref p_ENTRY_WORDS)) (tE : ∀ H, SqT K H p_ENTRY_WORDS (entW.map V.str)) (K_Body : BdF K mg C_Body) (ic : BIC K C_Body) (kS : PySem.W.kitOne K (.type "str") (.ref C_Body) = some false)
    (D : DefAt K mg "is_entry" sIs_entry ["method", "value"]) (CIs_one_of : CalG P w K mg base 1 "is_one_of" (spOneOf K)) : CalG P w K mg base 2 "is_entry" (spIsEntry K C_Body) := by
  refine D.by scIs_entry (fun vs H Q E h => ?_) (fun f cd A hg outer s H vs Q E hr h => ?_)
  · obtain ⟨_, _, _, rfl, _⟩ := h
    rfl
  · obtain ⟨m, e, v, rfl, he, q⟩ := h
    refine ⟨_, (pss_cons (ps_if (pt_val (pe_callB (r := rIsi K) call_isi (by rfl) T.isinstance (by decide +kernel) (pa_cons (pv 1) (pa_cons (pe_glob (v := .ref C_Body) (by rfl) K_Body.g rfl) pa_nil))))
  (pss_one (ps_ret (pe_cmpR (r := rEqD K) (op_eqD hr.units) (pe_fld (pv 1) (by rfl)) (pv 0) (nomark _))))
  pss_nil)
  (pss_one (ps_ret (pe_cG CIs_one_of hg hr (by decide) (pa_cons (pv 1) (pa_cons (pe_glob (v := .ref p_ENTRY_WORDS) (by rfl) g_ENTRY_WORDS rfl) pa_nil)))))), ?_⟩
    repeat walk_at "rd"
    cases e with
    | w z =>
      obtain ⟨rfl, hz⟩ := he
      refine ⟨.str z, .ref C_Body, .type "str", .ref C_Body, false, rfl, .own _, .base (.str z), kS, ?_⟩
      repeat walk_at "rd"
      refine ⟨.str z, p_ENTRY_WORDS, "str", entW, rfl, kd_str z, tE H, ?_⟩
      rw [isIn_of hz]
      exact q
    | b nd =>
      obtain ⟨b, L, x, rfl, bd, ok⟩ := he
      obtain ⟨dx, hb⟩ := bd.ins
      refine ⟨.ref b, .ref C_Body, .ref C_Body, .ref C_Body, true, rfl, .own _, bd_ty K_Body ic bd, kit_self, ?_⟩
      repeat walk_at "rd"
      refine Rd.fldV rfl hb K_Body.cl K_Body.n1 rfl ?_
      repeat walk_at "rd"
      refine Rd.eqD (d := .str m) (e := .str m) (.str _) (.str _) (meth_shaped ok.mm) (meth_shaped ok.mm) ?_
      rw [eqv_str, decide_eq_true rfl]
      exact q
abbrev sTable___getitem__ : Stmt := meth 65 3
abbrev nTable___getitem__ : List Str := ["self", "at", "name", "method"]
theorem scTable___getitem__ : FnScope nTable___getitem__ ["self", "at"] (defScope sTable___getitem__) := ⟨rfl, rfl, rfl, by decide +kernel, rfl, by decide +kernel, by decide +kernel⟩
def spTGet (K : PySem.W.Frag) (CT CB CK : Addr) : Sp := fun vs H Q _ => ∃ (H0 : Hp) (t : Addr) (a : TA) (s : Tt) (c : Nat) (p : Addr) (x m : Str), vs = [.ref t, .ref p] ∧ TbAt K CT CB CK H0 H t a s c ∧ SqT K H p [.str x, .str m] ∧ x ∈ s.ns ∧ m ∈ methods ∧
  (s.en x m = none → Q .non H) ∧ ∀ e v, s.en x m = some e → EntAt K CB H m e v → Q v H
theorem ok_tget (T : Txt K mg) {CT CB CK CN : Addr} (K_Table : TF K mg CT) (CCheck_method : Ex.CalX P w K mg base 3 "check_method" (spCheck K CN methods)) (M_Table__check_class : Ob.MCal P w K mg base CX0 CT 2 "_check_class" (spCC K CT CB CK)) {f : Addr} {fd : FuncData}
    (D : Ob.MethAt K "__getitem__" "Table.__getitem__" sTable___getitem__ ["self", "at"] f fd) : FnG P w K mg base CX0 4 f fd ["self", "at"] (spTGet K CT CB CK) := by
  refine Ob.byG D scTable___getitem__ (fun vs H Q E h => ?_) (fun cd A hg outer s H vs Q E hr h => ?_)
  · obtain ⟨_, _, _, _, _, _, _, _, rfl, _⟩ := h
    rfl
  · obtain ⟨H0, t, a, st, c, p, x, m, rfl, tb, hp, hx, hm, qn, qs⟩ := h
    obtain ⟨dx, ht⟩ := tb.ins
    refine ⟨_, (pss_cons (ps_asg (pv 1) (pg_tup (by rfl) (pgs_cons (pg_name (i := 2) scTable___getitem__.nd rfl (Or.inl rfl)) (pgs_cons (pg_name (i := 3) scTable___getitem__.nd rfl (Or.inl rfl)) pgs_nil))))
  (pss_cons (ps_expr (Ob.meth (pv 0) K_Table.cl M_Table__check_class hg hr (by decide) pass0 (pa_cons (pv 2) pa_nil)))
  (pss_cons (ps_expr (Ex.pe_x0 CCheck_method hg hr (by decide) (pa_cons (pv 3) pa_nil)))
  (pss_one (ps_ret (pe_dget1 (one_ hr.units) (pe_dget (one_ hr.units) (pe_fld (pv 0) (by rfl)) (pv 2) (fun _ _ => rfl)) (pv 3) ⟨rfl, rfl, rfl, rfl⟩)))))), ?_⟩
    repeat walk_at "rd"
    refine ⟨p, _, rfl, hp, rfl, ?_⟩
    repeat walk_at "rd"
    refine ⟨t, dx, _, rfl, ht, rfl, ?_⟩
    repeat walk_at "rd"
    refine ⟨H0, t, a, st, c, x, rfl, tb, hx, ?_⟩
    repeat walk_at "rd"
    refine ⟨.str m, "str", rfl, kd_str m, fun _ => ?_, fun z => absurd ((isIn_of hm).symm.trans z) (by decide)⟩
    repeat walk_at "rd"
    refine dget1R ?_
    repeat walk_at "rd"
    refine Rd.fldV rfl ht K_Table.cl K_Table.n5 rfl ?_
    repeat walk_at "rd"
    obtain ⟨kvs, h1, _, h3⟩ := tb.ee x hx
    refine ⟨a.en, _, rfl, get_tab tb.en hx, a.gE x, rfl, .inl ⟨kvs, .inl h1⟩, ?_⟩
    repeat walk_at "rd"
    refine ⟨_, DGet.k (k := .inr m) h1, ?_⟩
    cases e : st.en x m with
    | none =>
      rw [h3.no m hm e]
      exact qn e
    | some en =>
      obtain ⟨v, h4, h5⟩ := h3.yes m hm en e
      rw [h4]
      exact qs en v e h5
abbrev sTable___setitem__ : Stmt := meth 65 4
abbrev nTable___setitem__ : List Str := ["self", "at", "worth", "name", "method"]
theorem scTable___setitem__ : FnScope nTable___setitem__ ["self", "at", "worth"] (defScope sTable___setitem__) := ⟨rfl, rfl, rfl, by decide +kernel, rfl, by decide +kernel, by decide +kernel⟩
def spTSet (K : PySem.W.Frag) (CT CB CK : Addr) : Sp := fun vs H Q _ => ∃ (H0 : Hp) (t : Addr) (a : TA) (s : Tt) (c : Nat) (p : Addr) (x m : Str) (v : V) (o : Option Ent), vs = [.ref t, .ref p, v] ∧ TbAt K CT CB CK H0 H t a s c ∧ Same H0 H ∧ c < 1000 ∧ SqT K H p [.str x, .str m] ∧ x ∈ s.ns ∧ m ∈ methods ∧
  ((o = none ∧ v = .non) ∨ ∃ e, o = some e ∧ EntAt K CB H m e v) ∧ ∀ H', Same H0 H' → TbAt K CT CB CK H0 H' t a (s.put x m o) (c + 1) → Q .non H'
theorem ok_tset (T : Txt K mg) {CT CB CK CN : Addr} (K_Table : TF K mg CT) (CCheck_method : Ex.CalX P w K mg base 3 "check_method" (spCheck K CN methods)) (CIs_entry : CalG P w K mg base 2 "is_entry" (spIsEntry K CB)) (M_Table__check_class : Ob.MCal P w K mg base CX0 CT 2 "_check_class" (spCC K CT CB CK)) {f : Addr} {fd : FuncData}
    (D : Ob.MethAt K "__setitem__" "Table.__setitem__" sTable___setitem__ ["self", "at", "worth"] f fd) : FnG P w K mg base CX0 4 f fd ["self", "at", "worth"] (spTSet K CT CB CK) := by
  refine Ob.byG D scTable___setitem__ (fun vs H Q E h => ?_) (fun cd A hg outer s H vs Q E hr h => ?_)
  · obtain ⟨_, _, _, _, _, _, _, _, _, _, rfl, _⟩ := h
    rfl
  · obtain ⟨H0, t, a, st, c, p, x, m, v, o, rfl, tb, s0, cz, hp, hx, hm, hv, q⟩ := h
    obtain ⟨dx, ht⟩ := tb.ins
    obtain ⟨kvs, h1, h2, h3⟩ := tb.ee x hx
    refine ⟨_, (pss_cons (ps_asg (pv 1) (pg_tup (by rfl) (pgs_cons (pg_name (i := 3) scTable___setitem__.nd rfl (Or.inl rfl)) (pgs_cons (pg_name (i := 4) scTable___setitem__.nd rfl (Or.inl rfl)) pgs_nil))))
  (pss_cons (ps_expr (Ob.meth (pv 0) K_Table.cl M_Table__check_class hg hr (by decide) pass0 (pa_cons (pv 3) pa_nil)))
  (pss_cons (ps_expr (Ex.pe_x0 CCheck_method hg hr (by decide) (pa_cons (pv 4) pa_nil)))
  (pss_one (ps_if (pt_cmpR op_isN (pv 2) pe_non (nomark _))
  (pss_one (ps_expr (pe_dpop2 (pe_dget (one_ hr.units) (pe_fld (pv 0) (by rfl)) (pv 3) (fun _ _ => rfl)) (pv 4) pe_non ⟨rfl, rfl, rfl, rfl⟩)))
  (pss_one (ps_if (pt_val (pe_cG CIs_entry hg hr (by decide) (pa_cons (pv 4) (pa_cons (pv 2) pa_nil))))
  (pss_one (ps_asg (pv 2) (pg_sub (pe_dget (one_ hr.units) (pe_fld (pv 0) (by rfl)) (pv 3) (fun _ _ => rfl)) (pv 4) (set_dict (one_ hr.units)))))
  (pss_one Sm.ps_dead)))))))), ?_⟩
    repeat walk_at "rd"
    refine ⟨p, _, rfl, hp, rfl, ?_⟩
    repeat walk_at "rd"
    refine ⟨t, dx, _, rfl, ht, rfl, ?_⟩
    repeat walk_at "rd"
    refine ⟨H0, t, a, st, c, x, rfl, tb, hx, ?_⟩
    repeat walk_at "rd"
    refine ⟨.str m, "str", rfl, kd_str m, fun _ => ?_, fun z => absurd ((isIn_of hm).symm.trans z) (by decide)⟩
    repeat walk_at "rd"
    rcases hv with ⟨rfl, rfl⟩ | ⟨e, rfl, he⟩
    · refine Rd.dec (fun _ => ?_) (fun c => absurd rfl c)
      repeat walk_at "rd"
      refine dpop2R ?_
      repeat walk_at "rd"
      refine Rd.fldV rfl ht K_Table.cl K_Table.n5 rfl ?_
      repeat walk_at "rd"
      refine ⟨a.en, _, rfl, get_tab tb.en hx, a.gE x, rfl, .inl ⟨kvs, .inl h1⟩, ?_⟩
      repeat walk_at "rd"
      have new : Ents K CB H (dropK kvs (.inr m)) (fset (st.en x) m none) := by
        refine ⟨fun m2 hm2 en => ?_, fun m2 hm2 e2 en => ?_⟩
        · rw [valV_drop']
          by_cases c : m2 = m
          · rw [if_pos (by rw [c])]
          · rw [if_neg (fun z => c (Sum.inr.inj z))]
            rw [fset_ne c] at en
            exact h3.no m2 hm2 en
        · rw [valV_drop']
          by_cases c : m2 = m
          · subst c; rw [fset_at] at en; cases en
          · rw [if_neg (fun z => c (Sum.inr.inj z))]
            rw [fset_ne c] at en
            exact h3.yes m2 hm2 e2 en
      refine ⟨kvs, .inr m, h1, rfl, fun v hv => ?_, fun hn => ?_⟩
      · obtain ⟨z1, z2⟩ := tb.put (c' := c + 1) s0 hx h1 new (by have := List.length_filter_le (fun kv : Key × V => decide (kv.1 ≠ .inr m)) kvs; show (dropK kvs (.inr m)).length ≤ _; unfold dropK; omega) (Nat.le_succ c)
        exact q _ z1 z2
      · have e : dropK kvs (.inr m) = kvs := by
          have := valV_any (.inr m : Key) kvs
          rw [hn] at this
          unfold dropK
          refine List.filter_eq_self.mpr fun kv hkv => ?_
          have := List.any_eq_false.mp this kv hkv
          simpa using this
        obtain ⟨z1, z2⟩ := tb.put (c' := c + 1) s0 hx h1 new (by rw [e]; omega) (Nat.le_succ c)
        rw [e] at z1 z2
        have eu : upd H (a.gE x) (.dK kvs) = H := by
          funext b
          by_cases c : b = a.gE x
          · subst c; rw [upd_same, h1]
          · rw [upd_ne c]
        rw [eu] at z1 z2
        exact q _ z1 z2
    · have nv : v ≠ .non := by
        cases e with
        | w z => obtain ⟨rfl, _⟩ := he; simp
        | b nd => obtain ⟨_, _, _, rfl, _⟩ := he; simp
      refine Rd.dec (fun c => absurd c nv) (fun _ => ?_)
      repeat walk_at "rd"
      refine ⟨m, e, v, rfl, he, ?_⟩
      repeat walk_at "rd"
      refine Rd.fldV rfl ht K_Table.cl K_Table.n5 rfl ?_
      repeat walk_at "rd"
      refine ⟨a.en, _, rfl, get_tab tb.en hx, ?_⟩
      repeat walk_at "rd"
      refine ⟨a.gE x, _, rfl, .inl ⟨kvs, .inr m, h1, rfl, Rd.szl (by omega), rfl⟩, ?_⟩
      have new : Ents K CB H (putK kvs (.inr m) v) (fset (st.en x) m (some e)) := by
        refine ⟨fun m2 hm2 en => ?_, fun m2 hm2 e2 en => ?_⟩
        · rw [valV_put]
          by_cases c : m2 = m
          · subst c; rw [fset_at] at en; cases en
          · rw [if_neg (fun z => c (Sum.inr.inj z))]
            rw [fset_ne c] at en
            exact h3.no m2 hm2 en
        · rw [valV_put]
          by_cases c : m2 = m
          · subst c
            rw [fset_at] at en
            cases en
            rw [if_pos rfl]
            exact ⟨v, rfl, he⟩
          · rw [if_neg (fun z => c (Sum.inr.inj z))]
            rw [fset_ne c] at en
            exact h3.yes m2 hm2 e2 en
      obtain ⟨z1, z2⟩ := tb.put (c' := c + 1) s0 hx h1 new (Nat.le_trans (length_putK _ _ _) (by omega)) (Nat.le_succ c)
      exact q _ z1 z2
end
end Ab
namespace Ab
open M6 PySem.Spec PyProof.Rows
local macro_rules | `(tactic| walk_at "rd") => `(tactic| (with_reducible first | refine Rd.tt_ ?_ | refine Rd.ff_ ?_ | refine Rd.sfld ?_ | refine Rd.dget ?_ | refine Rd.methR ?_ | refine Rd.propR ?_ | refine Rd.statR ?_ | refine Rd.getR ?_))
theorem pe_fldK {X : Cx} {K : PySem.W.Frag} {e : Expr} {ta : TE} {f : Str} {pos : Pos} (hk : X.K = K) (he : PE X e ta) (hb : attributeBase e f X.env (eval e X.env) = eval e X.env) : PE X (.Attribute e f pos) (tFld K ta f) := hk ▸ pe_fld he hb
def heirsOf (s : Tt) (x : Str) : List Str := s.ns.filter fun h => decide (h ≠ x) && decide (x ∈ s.od h)
def entsOf (f : Str → Option Ent) : List (Str × Ent) := (methods.filter fun m => (f m).isSome).map fun m => (m, (f m).getD (.w ""))
def EnAt (K : PySem.W.Frag) (CB : Addr) (b : Str × Ent) (y : V) (H : Hp) : Prop := ∃ p v, y = .ref p ∧ SqT K H p [.str b.1, v] ∧ EntAt K CB H b.1 b.2 v
theorem EnAt.stays (K : PySem.W.Frag) (CB : Addr) : Rd.Stays (EnAt K CB) := fun b x H H' s ⟨p, v, e, h1, h2⟩ => ⟨p, v, e, sqT_same s h1, ent_mono s h2⟩
section
variable {P : Program} {w : World} {K : PySem.W.Frag} {mg : Str → Option Value} {base : Heap}
abbrev sTable_bases : Stmt := meth 65 6
abbrev nTable_bases : List Str := ["self", "name"]
theorem scTable_bases : FnScope nTable_bases ["self", "name"] (defScope sTable_bases) := ⟨rfl, rfl, rfl, by decide +kernel, rfl, by decide +kernel, by decide +kernel⟩
def spTBases (K : PySem.W.Frag) (CT CB CK : Addr) : Sp := fun vs H Q _ => ∃ (H0 : Hp) (t : Addr) (a : TA) (s : Tt) (c : Nat) (x : Str), vs = [.ref t, .str x] ∧ TbAt K CT CB CK H0 H t a s c ∧ x ∈ s.ns ∧ ∀ p, SqT K H p ((s.bs x).map V.str) → Q (.ref p) H
theorem ok_tbases {CT CB CK : Addr} (K_Table : TF K mg CT) (M_Table__check_class : Ob.MCal P w K mg base CX0 CT 2 "_check_class" (spCC K CT CB CK)) {f : Addr} {fd : FuncData}
    (D : Ob.MethAt K "bases" "Table.bases" sTable_bases ["self", "name"] f fd) : FnG P w K mg base CX0 3 f fd ["self", "name"] (spTBases K CT CB CK) := by
  refine Ob.byG D scTable_bases (fun vs H Q E h => ?_) (fun cd A hg outer s H vs Q E hr h => ?_)
  · obtain ⟨_, _, _, _, _, _, rfl, _⟩ := h
    rfl
  · obtain ⟨H0, t, a, st, c, x, rfl, tb, hx, q⟩ := h
    obtain ⟨dx, ht⟩ := tb.ins
    refine ⟨_, (pss_cons (ps_expr (Ob.meth (pv 0) K_Table.cl M_Table__check_class hg hr (by decide) pass0 (pa_cons (pv 1) pa_nil)))
  (pss_one (ps_ret (pe_dget (one_ hr.units) (pe_fld (pv 0) (by rfl)) (pv 1) (fun _ _ => rfl))))), ?_⟩
    repeat walk_at "rd"
    refine ⟨t, dx, _, rfl, ht, rfl, ?_⟩
    repeat walk_at "rd"
    refine ⟨H0, t, a, st, c, x, rfl, tb, hx, ?_⟩
    repeat walk_at "rd"
    refine Rd.fldV rfl ht K_Table.cl K_Table.n3 rfl ?_
    repeat walk_at "rd"
    exact ⟨a.ba, _, rfl, get_tab tb.ba.dt hx, q _ (tb.ba.tp x hx)⟩
abbrev sTable_order : Stmt := meth 65 7
abbrev nTable_order : List Str := ["self", "name"]
theorem scTable_order : FnScope nTable_order ["self", "name"] (defScope sTable_order) := ⟨rfl, rfl, rfl, by decide +kernel, rfl, by decide +kernel, by decide +kernel⟩
def spTOrder (K : PySem.W.Frag) (CT CB CK : Addr) : Sp := fun vs H Q _ => ∃ (H0 : Hp) (t : Addr) (a : TA) (s : Tt) (c : Nat) (x : Str), vs = [.ref t, .str x] ∧ TbAt K CT CB CK H0 H t a s c ∧ x ∈ s.ns ∧ ∀ l, H l = none → Q (.ref l) (upd H l (.lst ((s.od x).map V.str)))
theorem ok_torder (T : Txt K mg) {CT CB CK : Addr} (K_Table : TF K mg CT) (M_Table__check_class : Ob.MCal P w K mg base CX0 CT 2 "_check_class" (spCC K CT CB CK)) {f : Addr} {fd : FuncData}
    (D : Ob.MethAt K "order" "Table.order" sTable_order ["self", "name"] f fd) : FnG P w K mg base CX0 3 f fd ["self", "name"] (spTOrder K CT CB CK) := by
  refine Ob.byG D scTable_order (fun vs H Q E h => ?_) (fun cd A hg outer s H vs Q E hr h => ?_)
  · obtain ⟨_, _, _, _, _, _, rfl, _⟩ := h
    rfl
  · obtain ⟨H0, t, a, st, c, x, rfl, tb, hx, q⟩ := h
    obtain ⟨dx, ht⟩ := tb.ins
    refine ⟨_, (pss_cons (ps_expr (Ob.meth (pv 0) K_Table.cl M_Table__check_class hg hr (by decide) pass0 (pa_cons (pv 1) pa_nil)))
  (pss_one (ps_ret (pe_callTy (r := Rd.rListK K) Rd.callList (by rfl) T.list (by decide +kernel) (pa_cons (pe_dget (one_ hr.units) (pe_fld (pv 0) (by rfl)) (pv 1) (fun _ _ => rfl)) pa_nil))))), ?_⟩
    repeat walk_at "rd"
    refine ⟨t, dx, _, rfl, ht, rfl, ?_⟩
    repeat walk_at "rd"
    refine ⟨H0, t, a, st, c, x, rfl, tb, hx, ?_⟩
    repeat walk_at "rd"
    refine Rd.fldV rfl ht K_Table.cl K_Table.n4 rfl ?_
    repeat walk_at "rd"
    refine ⟨a.od, _, rfl, get_tab tb.od hx, ?_⟩
    repeat walk_at "rd"
    exact ⟨a.gO x, _, rfl, .inl (SqL.of (tb.ol x hx)), q⟩
abbrev sTable_heirs : Stmt := meth 65 8
abbrev nTable_heirs : List Str := ["self", "name", "heir"]
theorem scTable_heirs : FnScope nTable_heirs ["self", "name"] (defScope sTable_heirs) := ⟨rfl, rfl, rfl, by decide +kernel, rfl, by decide +kernel, by decide +kernel⟩
def spTHeirs (K : PySem.W.Frag) (CT CB CK : Addr) : Sp := fun vs H Q _ => ∃ (H0 : Hp) (t : Addr) (a : TA) (s : Tt) (c : Nat) (x : Str), vs = [.ref t, .str x] ∧ TbAt K CT CB CK H0 H t a s c ∧ s.ns.length ≤ 8 ∧ x ∈ s.ns ∧ (∀ n ∈ s.ns, SeqAt.shaped (.str n) = true) ∧ ∀ l H', H l = none → Same H H' → H' l = some (.lst ((heirsOf s x).map V.str)) → Q (.ref l) H'
theorem ok_theirs {CT CB CK : Addr} (K_Table : TF K mg CT) (M_Table__check_class : Ob.MCal P w K mg base CX0 CT 2 "_check_class" (spCC K CT CB CK)) {f : Addr} {fd : FuncData}
    (D : Ob.MethAt K "heirs" "Table.heirs" sTable_heirs ["self", "name"] f fd) : FnG P w K mg base CX0 3 f fd ["self", "name"] (spTHeirs K CT CB CK) := by
  refine Ob.byG D scTable_heirs (fun vs H Q E h => ?_) (fun cd A hg outer s H vs Q E hr h => ?_)
  · obtain ⟨_, _, _, _, _, _, rfl, _⟩ := h
    rfl
  · obtain ⟨H0, t, a, st, c, x, rfl, tb, l8, hx, hw, q⟩ := h
    obtain ⟨dx, ht⟩ := tb.ins
    refine ⟨_, (pss_cons (ps_expr (Ob.meth (pv 0) K_Table.cl M_Table__check_class hg hr (by decide) pass0 (pa_cons (pv 1) pa_nil)))
  (pss_one (ps_ret (pe_lc (wi := iList K _) (own := [("heir", 2)]) (g := gName 2) (by rfl) scTable_heirs.nd (pi_list (pe_fld (pv 0) (by rfl))) (blkOk_by (N := nTable_heirs) (sc := defScope sTable_heirs) (by decide +kernel)) (fun _ _ _ _ _ => pg_name (i := 2) scTable_heirs.nd rfl (Or.inl rfl)) (fun _ _ _ _ _ => (pts_one (PW.pt (pw_and (pt_cmpR (r := rNeD K) (op_neD hr.units) (pv 2) (pv 1) (nomark _)) (pw_and1 (pt_cmpR (r := rIn K false) op_in_seq (pv 1) (pe_dget (one_ hr.units) (pe_fldK (K := K) rfl (pv 0) (by rfl)) (pv 2) (fun _ _ => rfl)) (by rfl))))))) (fun _ _ _ _ _ => (pv 2)))))), ?_⟩
    repeat walk_at "rd"
    refine ⟨t, dx, _, rfl, ht, rfl, ?_⟩
    repeat walk_at "rd"
    refine ⟨H0, t, a, st, c, x, rfl, tb, hx, ?_⟩
    repeat walk_at "rd"
    refine Rd.lcL (K := K) (a := a.nm) (xs := st.ns.map V.str) (bs := st.ns) (fun s v _ => v = .str s) (fun s v _ => v = .str s) (fun h => decide (h ≠ x) && decide (x ∈ st.od h)) id (fun R k => Rd.fldV rfl ht K_Table.cl K_Table.n2 rfl k) (SqL.of tb.nm) (fun _ _ _ _ _ h => h) (fun _ _ _ _ _ h => h) (strs_pair _ H) (by rw [List.length_map]; omega) (fun _ => rfl) ?_ ?_ ?_
    · rintro h v H1 R hm rfl _ s1 k
      have hn : h ∈ st.ns := by simpa using hm
      repeat walk_at "rd"
      refine Rd.neD (d := .str h) (e := .str x) (.str _) (.str _) (hw h hn) (hw x hx) ?_
      rw [eqv_str]
      refine ⟨_, rfl, ?_⟩
      have en : decide (h ≠ x) = !decide (h = x) := by by_cases c : h = x <;> simp [c]
      rw [en] at k
      refine Rd.bool (fun c => ?_) (fun c => ?_)
      · rw [c, Bool.true_and] at k
        repeat walk_at "rd"
        refine Rd.fldV rfl (s1 _ _ ht) K_Table.cl K_Table.n4 rfl ?_
        repeat walk_at "rd"
        refine ⟨a.od, _, rfl, get_tab (s1 _ _ tb.od) hn, ?_⟩
        refine Rd.inL (SqL.of (s1 _ _ (tb.ol h hn))) rfl (flat_strs _) ?_
        have e : (if (false : Bool) = true then !inV (.str x) ((st.od h).map V.str) else inV (.str x) ((st.od h).map V.str)) = decide (x ∈ st.od h) := by rw [inV_str]; rfl
        rw [e]
        exact ⟨_, rfl, k _ (Same.refl _)⟩
      · rw [c, Bool.false_and] at k
        exact k _ (Same.refl _)
    · rintro h v H1 R hm _ rfl _ s1 k
      exact Rd.var rfl (k _ _ (Same.refl _) (Rd.off_any rfl))
    · intro Dd ys H1 hD s1 hd pr
      rw [List.map_id] at pr
      have e : ys = (heirsOf st x).map V.str := Rd.pair_map pr
      rw [e] at hd
      exact q Dd H1 hD s1 hd
abbrev sTable_book : Stmt := meth 65 10
abbrev nTable_book : List Str := ["self"]
theorem scTable_book : FnScope nTable_book ["self"] (defScope sTable_book) := ⟨rfl, rfl, rfl, by decide +kernel, rfl, by decide +kernel, by decide +kernel⟩
def spTBook (K : PySem.W.Frag) (CT CB CK : Addr) : Sp := fun vs H Q _ => ∃ (H0 : Hp) (t : Addr) (a : TA) (s : Tt) (c : Nat), vs = [.ref t] ∧ TbAt K CT CB CK H0 H t a s c ∧ ∀ g, NewBk K CK g s.m s.fl Q H
theorem ok_tbook {CT CB C_Book : Addr} (K_Table : TF K mg CT) (K_Book : BF K mg C_Book) (M_Book_twin : Ob.MCal P w K mg base CX0 C_Book 3 "twin" (spBkTwin K C_Book)) {f : Addr} {fd : FuncData}
    (D : Ob.MethAt K "book" "Table.book" sTable_book ["self"] f fd) : FnG P w K mg base CX0 4 f fd ["self"] (spTBook K CT CB C_Book) := by
  refine Ob.byG D scTable_book (fun vs H Q E h => ?_) (fun cd A hg outer s H vs Q E hr h => ?_)
  · obtain ⟨_, _, _, _, _, rfl, _⟩ := h
    rfl
  · obtain ⟨H0, t, a, st, c, rfl, tb, q⟩ := h
    obtain ⟨dx, ht⟩ := tb.ins
    obtain ⟨db, hb⟩ := tb.bk.ins
    refine ⟨_, (pss_one (ps_ret (Ob.meth0 (pe_fld (pv 0) (by rfl)) K_Book.cl M_Book_twin hg hr (by decide) pass0))), ?_⟩
    repeat walk_at "rd"
    refine Rd.fldV rfl ht K_Table.cl K_Table.n1 rfl ?_
    refine ⟨a.bk, db, _, rfl, hb, rfl, ?_⟩
    repeat walk_at "rd"
    exact ⟨a.bk, a.w, a.f, a.g, st.m, st.fl, rfl, tb.bk, q _⟩
abbrev sTable_listed : Stmt := meth 65 13
abbrev nTable_listed : List Str := ["self"]
theorem scTable_listed : FnScope nTable_listed ["self"] (defScope sTable_listed) := ⟨rfl, rfl, rfl, by decide +kernel, rfl, by decide +kernel, by decide +kernel⟩
def spTListed (K : PySem.W.Frag) (CT CB CK : Addr) : Sp := fun vs H Q _ => ∃ (H0 : Hp) (t : Addr) (a : TA) (s : Tt) (c : Nat), vs = [.ref t] ∧ TbAt K CT CB CK H0 H t a s c ∧ ∀ l, H l = none → Q (.ref l) (upd H l (.lst (s.ns.map V.str)))
theorem ok_tlisted (T : Txt K mg) {CT CB CK : Addr} (K_Table : TF K mg CT) {f : Addr} {fd : FuncData} (D : Ob.MethAt K "listed" "Table.listed" sTable_listed ["self"] f fd) : FnG P w K mg base CX0 1 f fd ["self"] (spTListed K CT CB CK) := by
  refine Ob.byG D scTable_listed (fun vs H Q E h => ?_) (fun cd A hg outer s H vs Q E hr h => ?_)
  · obtain ⟨_, _, _, _, _, rfl, _⟩ := h
    rfl
  · obtain ⟨H0, t, a, st, c, rfl, tb, q⟩ := h
    obtain ⟨dx, ht⟩ := tb.ins
    refine ⟨_, (pss_one (ps_ret (pe_callTy (r := Rd.rListK K) Rd.callList (by rfl) T.list (by decide +kernel) (pa_cons (pe_fld (pv 0) (by rfl)) pa_nil)))), ?_⟩
    repeat walk_at "rd"
    refine Rd.fldV rfl ht K_Table.cl K_Table.n2 rfl ?_
    repeat walk_at "rd"
    exact ⟨a.nm, _, rfl, .inl (SqL.of tb.nm), q⟩
abbrev sTable___contains__ : Stmt := meth 65 15
abbrev nTable___contains__ : List Str := ["self", "value"]
theorem scTable___contains__ : FnScope nTable___contains__ ["self", "value"] (defScope sTable___contains__) := ⟨rfl, rfl, rfl, by decide +kernel, rfl, by decide +kernel, by decide +kernel⟩
def spTHas (K : PySem.W.Frag) (CT CB CK : Addr) : Sp := fun vs H Q _ => ∃ (H0 : Hp) (t : Addr) (a : TA) (s : Tt) (c : Nat) (v : V) (tn : String), vs = [.ref t, v] ∧ TbAt K CT CB CK H0 H t a s c ∧ Kd K H v tn ∧ Q (.bl (isIn v s.ns)) H
theorem ok_thas {CT CB CK : Addr} (K_Table : TF K mg CT) (CIs_one_of : CalG P w K mg base 1 "is_one_of" (spOneOfL K)) {f : Addr} {fd : FuncData} (D : Ob.MethAt K "__contains__" "Table.__contains__" sTable___contains__ ["self", "value"] f fd) : FnG P w K mg base CX0 2 f fd ["self", "value"] (spTHas K CT CB CK) := by
  refine Ob.byG D scTable___contains__ (fun vs H Q E h => ?_) (fun cd A hg outer s H vs Q E hr h => ?_)
  · obtain ⟨_, _, _, _, _, _, _, rfl, _⟩ := h
    rfl
  · obtain ⟨H0, t, a, st, c, v, tn, rfl, tb, kd, q⟩ := h
    obtain ⟨dx, ht⟩ := tb.ins
    refine ⟨_, (pss_one (ps_ret (pe_cG CIs_one_of hg hr (by decide) (pa_cons (pv 1) (pa_cons (pe_fld (pv 0) (by rfl)) pa_nil))))), ?_⟩
    repeat walk_at "rd"
    refine Rd.fldV rfl ht K_Table.cl K_Table.n2 rfl ?_
    repeat walk_at "rd"
    exact ⟨v, a.nm, tn, st.ns, rfl, kd, SqL.of tb.nm, q⟩
abbrev sTable___len__ : Stmt := meth 65 17
abbrev nTable___len__ : List Str := ["self"]
theorem scTable___len__ : FnScope nTable___len__ ["self"] (defScope sTable___len__) := ⟨rfl, rfl, rfl, by decide +kernel, rfl, by decide +kernel, by decide +kernel⟩
def spTLen (K : PySem.W.Frag) (CT CB CK : Addr) : Sp := fun vs H Q _ => ∃ (H0 : Hp) (t : Addr) (a : TA) (s : Tt) (c : Nat), vs = [.ref t] ∧ TbAt K CT CB CK H0 H t a s c ∧ Q (.int s.ns.length) H
theorem ok_tlen (T : Txt K mg) {CT CB CK : Addr} (K_Table : TF K mg CT) {f : Addr} {fd : FuncData} (D : Ob.MethAt K "__len__" "Table.__len__" sTable___len__ ["self"] f fd) : FnG P w K mg base CX0 1 f fd ["self"] (spTLen K CT CB CK) := by
  refine Ob.byG D scTable___len__ (fun vs H Q E h => ?_) (fun cd A hg outer s H vs Q E hr h => ?_)
  · obtain ⟨_, _, _, _, _, rfl, _⟩ := h
    rfl
  · obtain ⟨H0, t, a, st, c, rfl, tb, q⟩ := h
    obtain ⟨dx, ht⟩ := tb.ins
    refine ⟨_, (pss_one (ps_ret (pe_callB (r := Rd.rLenK K) Rd.callLen (by rfl) T.len PySem.boot_len (pa_cons (pe_fld (pv 0) (by rfl)) pa_nil)))), ?_⟩
    repeat walk_at "rd"
    refine Rd.fldV rfl ht K_Table.cl K_Table.n2 rfl ?_
    repeat walk_at "rd"
    refine Rd.lenK (SqL.of tb.nm) ?_
    rw [List.length_map]
    exact q
abbrev sTable_entries : Stmt := meth 65 5
abbrev nTable_entries : List Str := ["self", "name", "entries", "method"]
theorem scTable_entries : FnScope nTable_entries ["self", "name"] (defScope sTable_entries) := ⟨rfl, rfl, rfl, by decide +kernel, rfl, by decide +kernel, by decide +kernel⟩
def spTEnts (K : PySem.W.Frag) (CT CB CK : Addr) : Sp := fun vs H Q _ => ∃ (H0 : Hp) (t : Addr) (a : TA) (s : Tt) (c : Nat) (x : Str), vs = [.ref t, .str x] ∧ TbAt K CT CB CK H0 H t a s c ∧ x ∈ s.ns ∧ ∀ l ys H', H l = none → Same H H' → H' l = some (.lst ys) → Paired (fun b y => EnAt K CB b y H') (entsOf (s.en x)) ys → Q (.ref l) H'
theorem ok_tents {CT CB CK p_METHODS : Addr} (K_Table : TF K mg CT) (g_METHODS : mg "METHODS" = some (.ref p_METHODS)) (tM : ∀ H, SqT K H p_METHODS (methods.map V.str)) (M_Table__check_class : Ob.MCal P w K mg base CX0 CT 2 "_check_class" (spCC K CT CB CK)) {f : Addr} {fd : FuncData}
    (D : Ob.MethAt K "entries" "Table.entries" sTable_entries ["self", "name"] f fd) : FnG P w K mg base CX0 3 f fd ["self", "name"] (spTEnts K CT CB CK) := by
  refine Ob.byG D scTable_entries (fun vs H Q E h => ?_) (fun cd A hg outer s H vs Q E hr h => ?_)
  · obtain ⟨_, _, _, _, _, _, rfl, _⟩ := h
    rfl
  · obtain ⟨H0, t, a, st, c, x, rfl, tb, hx, q⟩ := h
    obtain ⟨dx, ht⟩ := tb.ins
    refine ⟨_, (pss_cons (ps_expr (Ob.meth (pv 0) K_Table.cl M_Table__check_class hg hr (by decide) pass0 (pa_cons (pv 1) pa_nil)))
  (pss_cons (ps_set (i := 2) scTable_entries.nd rfl (Or.inr rfl) (pe_dget (one_ hr.units) (pe_fld (pv 0) (by rfl)) (pv 1) (fun _ _ => rfl)))
  (pss_one (ps_ret (pe_lc (wi := iTup K _) (own := [("method", 3)]) (g := gName 3) (by rfl) scTable_entries.nd (pi_tup (pe_glob (v := .ref p_METHODS) (by rfl) g_METHODS rfl)) (blkOk_by (N := nTable_entries) (sc := defScope sTable_entries) (by decide +kernel)) (fun _ _ _ _ _ => pg_name (i := 3) scTable_entries.nd rfl (Or.inl rfl)) (fun _ _ _ _ _ => (pts_one (pt_cmp (pc_din (one_ hr.units) (pv 3) (pv 2))))) (fun _ _ _ _ _ => (pe_tup (pa_cons (pv 3) (pa_cons (pe_dget (one_ hr.units) (pv 2) (pv 3) (fun _ _ => rfl)) pa_nil))))))))), ?_⟩
    repeat walk_at "rd"
    refine ⟨t, dx, _, rfl, ht, rfl, ?_⟩
    repeat walk_at "rd"
    refine ⟨H0, t, a, st, c, x, rfl, tb, hx, ?_⟩
    repeat walk_at "rd"
    refine Rd.fldV rfl ht K_Table.cl K_Table.n5 rfl ?_
    repeat walk_at "rd"
    obtain ⟨kvs, h1, _, h3⟩ := tb.ee x hx
    refine ⟨a.en, _, rfl, get_tab tb.en hx, ?_⟩
    repeat walk_at "rd"
    refine Rd.lcT (K := K) (a := p_METHODS) (xs := methods.map V.str) (bs := methods) (fun s v _ => v = .str s) (EnAt K CB) (fun m => (st.en x m).isSome) (fun m => (m, (st.en x m).getD (.w ""))) (fun R k => k) (tM H) (fun _ _ _ _ _ h => h) (EnAt.stays K CB) (strs_pair _ H) (by decide) (fun _ => rfl) ?_ ?_ ?_
    · rintro m v H1 R hm rfl _ s1 k
      repeat walk_at "rd"
      refine dinR ?_
      repeat walk_at "rd"
      refine ⟨a.gE x, _, rfl, DGet.k (k := .inr m) (s1 _ _ h1), ?_⟩
      have e : (valV kvs (.inr m)).isSome = (st.en x m).isSome := by
        cases z : st.en x m with
        | none => rw [h3.no m hm z]; rfl
        | some en => obtain ⟨v, h4, _⟩ := h3.yes m hm en z; rw [h4]; rfl
      rw [e]
      exact ⟨_, rfl, k _ (Same.refl _)⟩
    · rintro m v H1 R hm hf rfl _ s1 k
      obtain ⟨en, he⟩ := Option.isSome_iff_exists.mp hf
      obtain ⟨v, h4, h5⟩ := h3.yes m hm en he
      rw [he] at k
      repeat walk_at "rd"
      refine ⟨a.gE x, v, rfl, by rw [← h4]; exact DGet.k (k := .inr m) (s1 _ _ h1), ?_⟩
      repeat walk_at "rd"
      refine ⟨Rd.sz (by simp), fun p hp => ?_⟩
      have s2 := s1.trans (Rd.sNew (o := .tup [.str m, v]) hp)
      refine k _ _ (Rd.sNew hp) fun D o hD h1D => ⟨p, v, rfl, .inl (.inl ?_), ent_mono (Rd.sMut s2 hD) h5⟩
      rw [upd_ne (fun e => h1D (by rw [← e]; exact hp)), upd_same]
    · intro Dd ys H1 hD s1 hd pr
      exact q Dd ys H1 hD s1 hd pr
end
end Ab
namespace Ab
open PySem.Spec PyProof.Rows
structure PoolOk (x y : Int) : Prop where
  x0 : 0 ≤ x
  y0 : 0 ≤ y
  y1 : y < 2147483647
def spTake : Sp := fun vs H Q _ => ∃ (p : Addr) (x y m : Int), vs = [.ref p, .int m] ∧ H p = some (.lst [.int x, .int y]) ∧ PoolOk x y ∧ 0 < m ∧ m < 100000 ∧
  ∀ r x' y' : Int, PoolOk x' y' → 0 ≤ r → r < m → Q (.int r) (upd H p (.lst [.int x', .int y']))
section
variable {P : Program} {w : World} {K : PySem.W.Frag} {mg : Str → Option Value} {base : Heap}
abbrev sL_take : Stmt := top 68
abbrev nL_take : List Str := ["_law_pool_here", "_law_many", "_law_found"]
theorem scL_take : FnScope nL_take ["_law_pool_here", "_law_many"] (defScope sL_take) := ⟨rfl, rfl, rfl, by decide +kernel, rfl, by decide +kernel, by decide +kernel⟩
theorem ok_take (T : Txt K mg) (D : DefAt K mg "_law_take" sL_take ["_law_pool_here", "_law_many"]) : CalG P w K mg base 1 "_law_take" spTake := by
  refine D.by scL_take (fun vs H Q E h => ?_) (fun f cd A hg outer s H vs Q E hr h => ?_)
  · obtain ⟨p, x, y, m, rfl, _⟩ := h
    rfl
  · obtain ⟨p, x, y, m, rfl, hp, ok, m0, m1, k⟩ := h
    refine ⟨_, (pss_cons (ps_if (pt_cmpR op_gt (pe_ix (r := rIxL K) ix_list (pv 0) pe_int (fun _ _ => rfl)) pe_int (nomark _))
  (pss_cons (ps_set (i := 2) scL_take.nd rfl (Or.inl rfl) (pe_op op_modN (pe_callTy call_int1 (by rfl) T.int (by decide +kernel) (pa_cons (pe_ix (r := rIxL K) ix_list (pv 0) pe_int (fun _ _ => rfl)) pa_nil)) (pv 1)))
  (pss_cons (ps_asg (pe_op op_fdivN (pe_ix (r := rIxL K) ix_list (pv 0) pe_int (fun _ _ => rfl)) (pv 1)) (pg_sub (pv 0) pe_int set_list))
  (pss_one (ps_ret (pv 2)))))
  pss_nil)
  (pss_cons (ps_asg (pe_op op_modN (pe_callTy call_int1 (by rfl) T.int (by decide +kernel) (pa_cons (pe_op op_add (pe_op op_mul (pe_ix (r := rIxL K) ix_list (pv 0) pe_int (fun _ _ => rfl)) pe_int) pe_int) pa_nil)) pe_int) (pg_sub (pv 0) pe_int set_list))
  (pss_one (ps_ret (pe_op op_modN (pe_op op_fdivN (pe_op op_modN (pe_callTy call_int1 (by rfl) T.int (by decide +kernel) (pa_cons (pe_op op_mul (pe_ix (r := rIxL K) ix_list (pv 0) pe_int (fun _ _ => rfl)) (pe_ix (r := rIxL K) ix_list (pv 0) pe_int (fun _ _ => rfl))) pa_nil)) pe_int) pe_int) (pv 1)))))), ?_⟩
    repeat walk_at "rd"
    refine Rd.dec (fun c => ?_) (fun c => ?_)
    · repeat walk_at "rd"
      have e := Int.fdiv_eq_ediv_of_nonneg x (Int.le_of_lt m0)
      have e' := Int.fmod_eq_emod_of_nonneg x (Int.le_of_lt m0)
      have a := Int.emod_nonneg x (show m ≠ 0 by omega)
      have b := Int.emod_lt_of_pos x m0
      have d := Int.ediv_nonneg (a := x) (b := m) (by omega) (by omega)
      exact k _ _ _ ⟨by omega, ok.y0, ok.y1⟩ (by omega) (by omega)
    · have y0 := ok.y0
      have y1 := ok.y1
      obtain ⟨z0, z1⟩ := Rd.fm (i := y * 48271 + 11) (m := 2147483647) (by decide)
      repeat walk_at "rd"
      obtain ⟨r0, r1⟩ := Rd.fm (i := ((((y * 48271 + 11).fmod 2147483647) * ((y * 48271 + 11).fmod 2147483647)).fmod 2147483629).fdiv 64) m0
      exact k _ _ _ ⟨ok.x0, z0, z1⟩ r0 r1
def spPool (K : PySem.W.Frag) : Sp := fun vs H Q _ => ∃ (a : Addr) (ns : List Int) (k : Int), vs = [.ref a, .int k] ∧ SqL K H a (ns.map V.int) ∧ 0 ≤ k ∧ k < 1000 ∧
  ∀ (p : Addr) (x y : Int), H p = none → PoolOk x y → Q (.ref p) (upd H p (.lst [.int x, .int y]))
abbrev sL_pool : Stmt := top 67
abbrev nL_pool : List Str := ["_law_script", "_law_k", "_law_cell", "_law_size", "_law_seed"]
theorem scL_pool : FnScope nL_pool ["_law_script", "_law_k"] (defScope sL_pool) := ⟨rfl, rfl, rfl, by decide +kernel, rfl, by decide +kernel, by decide +kernel⟩
theorem ok_pool (T : Txt K mg) (D : DefAt K mg "_law_pool" sL_pool ["_law_script", "_law_k"]) : CalG P w K mg base 1 "_law_pool" (spPool K) := by
  refine D.by scL_pool (fun vs H Q E h => ?_) (fun f cd A hg outer s H vs Q E hr h => ?_)
  · obtain ⟨a, ns, k, rfl, _⟩ := h
    rfl
  · obtain ⟨a, ns, k, rfl, hS, k0, k1, q⟩ := h
    refine ⟨_, (pss_cons (ps_set (i := 2) scL_pool.nd rfl (Or.inl rfl) pe_int)
  (pss_cons (ps_if (pt_cmpR op_lt (pv 1) (pe_callB (r := Rd.rLenK K) Rd.callLen (by rfl) T.len PySem.boot_len (pa_cons (pv 0) pa_nil)) (nomark _))
  (pss_one (ps_set (i := 2) scL_pool.nd rfl (Or.inl rfl) (pe_ix (r := rIxL K) ix_list (pv 0) (pv 1) (fun _ _ => rfl))))
  pss_nil)
  (pss_cons (ps_set (i := 3) scL_pool.nd rfl (Or.inl rfl) (pe_callB (call_max2 rfl) (by rfl) T.max (by decide +kernel) (pa_cons (pv 2) (pa_cons (pe_op op_sub (pe_un un_neg pe_int) (pv 2)) pa_nil))))
  (pss_cons (ps_set (i := 4) scL_pool.nd rfl (Or.inl rfl) (pe_callTy call_int1 (by rfl) T.int (by decide +kernel) (pa_cons (pe_op op_add (pe_op op_add (pe_op op_modN (pe_callTy call_int1 (by rfl) T.int (by decide +kernel) (pa_cons (pv 3) pa_nil)) pe_int) (pe_op op_mul pe_int (pv 1))) pe_int) pa_nil)))
  (pss_one (ps_ret (pe_lst (pa_cons (pe_op op_mul (pv 3) (pe_callTy call_int1 (by rfl) T.int (by decide +kernel) (pa_cons (pe_cmpR op_ge (pv 3) (pe_op op_pow pe_int pe_int) (nomark _)) pa_nil))) (pa_cons (pe_op op_modN (pe_op op_mul (pv 4) pe_int) pe_int) pa_nil))))))))), ?_⟩
    repeat walk_at "rd"
    have fin : ∀ (sz : Int) (k1 : Int), 0 ≤ sz → 0 ≤ k1 → k1 < 1000 → PoolOk (sz * (if decide ((10 : Int) ^ (Int.toNat 18) ≤ sz) = true then 1 else 0)) (((sz.fmod 2147483629 + 7919 * k1 + 104729) * 48271).fmod 2147483647) := by
      intro sz k1 h0 h1 h2
      obtain ⟨y0, y1⟩ := Rd.fm (i := (sz.fmod 2147483629 + 7919 * k1 + 104729) * 48271) (m := 2147483647) (by decide)
      refine ⟨?_, y0, y1⟩
      split
      · omega
      · omega
    refine Rd.dec (fun c => ?_) (fun c => ?_)
    · repeat walk_at "rd"
      obtain ⟨cell, ix⟩ := Rd.at_int k0 c
      refine Rd.ixL hS ix ?_
      have sz0 : 0 ≤ (if (-1 : Int) - cell > cell then -1 - cell else cell) := by split <;> omega
      have fmz := Rd.fm (i := (if (-1 : Int) - cell > cell then -1 - cell else cell)) (m := 2147483629) (by decide)
      repeat walk_at "rd"
      refine ⟨Rd.sz (by simp), fun p hp => ?_⟩
      exact q p _ _ hp (fin _ _ sz0 k0 k1)
    · have sz0 : 0 ≤ (if (-1 : Int) - 0 > 0 then -1 - 0 else (0 : Int)) := by split <;> omega
      have fmz := Rd.fm (i := (if (-1 : Int) - 0 > 0 then -1 - 0 else (0 : Int))) (m := 2147483629) (by decide)
      repeat walk_at "rd"
      refine ⟨Rd.sz (by simp), fun p hp => ?_⟩
      exact q p _ _ hp (fin _ _ sz0 k0 k1)
/-- one of a list's items, by the pool -/
def spOne (K : PySem.W.Frag) : Sp := fun vs H Q _ => ∃ (p l : Addr) (x y : Int) (xs : List V), vs = [.ref p, .ref l] ∧ H p = some (.lst [.int x, .int y]) ∧ SqL K H l xs ∧ (∀ o, SqL K (upd H p o) l xs) ∧ PoolOk x y ∧ 0 < xs.length ∧ xs.length < 1000 ∧
  ∀ (v : V) (x' y' : Int), v ∈ xs → PoolOk x' y' → Q v (upd H p (.lst [.int x', .int y']))
abbrev sL_one : Stmt := top 69
abbrev nL_one : List Str := ["_law_pool_here", "_law_some"]
theorem scL_one : FnScope nL_one ["_law_pool_here", "_law_some"] (defScope sL_one) := ⟨rfl, rfl, rfl, by decide +kernel, rfl, by decide +kernel, by decide +kernel⟩
theorem ok_one (T : Txt K mg) (D : DefAt K mg "_law_one" sL_one ["_law_pool_here", "_law_some"]) (CL_take : CalG P w K mg base 1 "_law_take" spTake) : CalG P w K mg base 2 "_law_one" (spOne K) := by
  refine D.by scL_one (fun vs H Q E h => ?_) (fun f cd A hg outer s H vs Q E hr h => ?_)
  · obtain ⟨a, ns, k, _, _, rfl, _⟩ := h
    rfl
  · obtain ⟨p, l, x, y, xs, rfl, hp, hl, hl2, ok, l0, l1, q⟩ := h
    refine ⟨_, (pss_one (ps_ret (pe_ix (r := rIxL K) ix_list (pv 1) (pe_cG CL_take hg hr (by decide) (pa_cons (pv 0) (pa_cons (pe_callB (r := Rd.rLenK K) Rd.callLen (by rfl) T.len PySem.boot_len (pa_cons (pv 1) pa_nil)) pa_nil))) (fun _ _ => rfl)))), ?_⟩
    repeat walk_at "rd"
    refine ⟨p, x, y, _, rfl, hp, ok, by omega, by omega, fun r x' y' ok' r0 r1 => ?_⟩
    have hr : r.toNat < xs.length := by omega
    exact Rd.ixL (hl2 _) (Rd.atN r0 (List.getElem?_eq_getElem hr)) (q _ _ _ (List.getElem_mem hr) ok')
end
end Ab
namespace Ab
open PySem.Spec PyProof.Rows
/-- a list of nodes -/
def Lns (K : PySem.W.Frag) (H : Hp) (L : Addr) (ns : List Nd) : Prop := ∃ xs, H L = some (.lst xs) ∧ Paired (fun nd x => Dp K H x nd.d) ns xs
theorem Lns.mono {K : PySem.W.Frag} {H H' : Hp} {L : Addr} {ns : List Nd} (s : Same H H') (h : Lns K H L ns) : Lns K H' L ns :=
  let ⟨xs, h1, h2⟩ := h
  ⟨xs, s _ _ h1, Rd.pair_imp (fun _ _ h => dp_mono s h) h2⟩
theorem pair_at {α β : Type} {F : α → β → Prop} : ∀ {as : List α} {bs : List β} {b : β}, Paired F as bs → b ∈ bs → ∃ a ∈ as, F a b
  | _, _, _, .nil, h => by cases h
  | _, _, _, .cons h t, hm => by
    rcases List.mem_cons.mp hm with rfl | hm
    · exact ⟨_, List.mem_cons_self, h⟩
    · obtain ⟨a, ha, hf⟩ := pair_at t hm
      exact ⟨a, List.mem_cons_of_mem _ ha, hf⟩
theorem Lns.keep {K : PySem.W.Frag} {p : Addr} {H H' : Hp} {L : Addr} {ns : List Nd} (k : Keep p H H') (n : NoTup H p) (ne : L ≠ p) (h : Lns K H L ns) : Lns K H' L ns :=
  let ⟨xs, h1, h2⟩ := h
  ⟨xs, k _ _ ne h1, Rd.pair_imp (fun nd _ h => nd_keep k n nd _ h) h2⟩
theorem dW {K : PySem.W.Frag} {H H' : Hp} {p t : Addr} {z : Str} (h : H t = some (.tup [.str z])) (k : Keep p H H') (n : NoTup H p) : Dp K H' (.ref t) (Nd.word z).d := nd_keep k n (.word z) _ (.tup (.inl (.inl h)) (.cons (.str _) .nil))
theorem dC {K : PySem.W.Frag} {H H' : Hp} {p t : Addr} {i : Int} (h : H t = some (.tup [.str "count", .int i])) (k : Keep p H H') (n : NoTup H p) : Dp K H' (.ref t) (Nd.cnt i).d := nd_keep k n (.cnt i) _ (.tup (.inl (.inl h)) (.cons (.str _) (.cons (.int _) .nil)))
/-- the state of a leaf in the making -/
structure Lf (K : PySem.W.Frag) (H H' : Hp) (p L : Addr) (m : Str) (tail : Bool) (ns : List Nd) (x y : Int) (N : Nat) : Prop where
  k : Keep p H H'
  hp : H' p = some (.lst [.int x, .int y])
  ok : PoolOk x y
  l : Lns K H' L ns
  n : 0 < ns.length ∧ ns.length ≤ N
  a : ∀ nd ∈ ns, nd.all m tail = true ∧ nd.dep = 1 ∧ nd.size = 1
theorem word_ok {m z : Str} {t : Bool} (h : z ∈ answerW) : (Nd.word z).all m t = true ∧ (Nd.word z).dep = 1 ∧ (Nd.word z).size = 1 := by
  refine ⟨?_, rfl, rfl⟩
  show (if z = "further" then t else if z = "decline" then t && decide (m ∈ decliners) else decide (z ∈ answerW)) = true
  rw [if_neg (fun e : z = "further" => by subst e; exact absurd h (by decide +kernel)), if_neg (fun e : z = "decline" => by subst e; exact absurd h (by decide +kernel)), decide_eq_true h]
theorem further_ok {m : Str} : (Nd.word "further").all m true = true ∧ (Nd.word "further").dep = 1 ∧ (Nd.word "further").size = 1 := by
  refine ⟨?_, rfl, rfl⟩
  show (if ("further" : Str) = "further" then true else if ("further" : Str) = "decline" then true && decide (m ∈ decliners) else decide (("further" : Str) ∈ answerW)) = true
  rw [if_pos rfl]
theorem decline_ok {m : Str} (h : m ∈ decliners) : (Nd.word "decline").all m true = true ∧ (Nd.word "decline").dep = 1 ∧ (Nd.word "decline").size = 1 := by
  refine ⟨?_, rfl, rfl⟩
  show (if ("decline" : Str) = "further" then true else if ("decline" : Str) = "decline" then true && decide (m ∈ decliners) else decide (("decline" : Str) ∈ answerW)) = true
  rw [if_neg (by decide +kernel), if_pos rfl, decide_eq_true h]
  rfl
theorem Lf.same {K : PySem.W.Frag} {H H1 H2 : Hp} {p L : Addr} {m : Str} {tail : Bool} {ns : List Nd} {x y : Int} {N : Nat} (f : Lf K H H1 p L m tail ns x y N) (s : Same H1 H2) : Lf K H H2 p L m tail ns x y N :=
  ⟨f.k.trans (Keep.same s), s _ _ f.hp, f.ok, f.l.mono s, f.n, f.a⟩
theorem cnt_ok {m : Str} {i : Int} {t : Bool} (h0 : 0 ≤ i) (h1 : i ≤ 4) : (Nd.cnt i).all m t = true ∧ (Nd.cnt i).dep = 1 ∧ (Nd.cnt i).size = 1 := by
  refine ⟨?_, rfl, rfl⟩
  show (decide (0 ≤ i) && decide (i ≤ 4)) = true
  rw [decide_eq_true h0, decide_eq_true h1]; rfl
section
variable {P : Program} {w : World} {K : PySem.W.Frag} {mg : Str → Option Value} {base : Heap}
abbrev sL_leaf : Stmt := top 73
abbrev nL_leaf : List Str := ["_law_pool_here", "_law_method", "_law_at_tail", "_law_some"]
theorem scL_leaf : FnScope nL_leaf ["_law_pool_here", "_law_method", "_law_at_tail"] (defScope sL_leaf) := ⟨rfl, rfl, rfl, by decide +kernel, rfl, by decide +kernel, by decide +kernel⟩
def spLeaf (K : PySem.W.Frag) : Sp := fun vs H Q _ => ∃ (p : Addr) (x y : Int) (m : Str) (tail : Bool), vs = [.ref p, .str m, .bl tail] ∧ H p = some (.lst [.int x, .int y]) ∧ PoolOk x y ∧
  ∀ (v : V) (nd : Nd) H' x' y', Keep p H H' → H' p = some (.lst [.int x', .int y']) → PoolOk x' y' → Dp K H' v nd.d → nd.all m tail = true → nd.dep = 1 → nd.size = 1 → Q v H'
theorem ok_leaf (T : Txt K mg) (D : DefAt K mg "_law_leaf" sL_leaf ["_law_pool_here", "_law_method", "_law_at_tail"]) (CL_take : CalG P w K mg base 1 "_law_take" spTake) (CL_one : CalG P w K mg base 2 "_law_one" (spOne K)) : CalG P w K mg base 3 "_law_leaf" (spLeaf K) := by
  refine D.by scL_leaf (fun vs H Q E h => ?_) (fun f cd A hg outer s H vs Q E hr h => ?_)
  · obtain ⟨_, _, _, _, _, rfl, _⟩ := h
    rfl
  · obtain ⟨p, x, y, m, tail, rfl, hp, ok, q⟩ := h
    refine ⟨_, (pss_cons (ps_set (i := 3) scL_leaf.nd rfl (Or.inl rfl) (pe_lst (pa_cons (pe_tup (pa_cons pe_str pa_nil)) (pa_cons (pe_tup (pa_cons pe_str pa_nil)) (pa_cons (pe_tup (pa_cons pe_str (pa_cons (pe_cG CL_take hg hr (by decide) (pa_cons (pv 0) (pa_cons pe_int pa_nil))) pa_nil))) (pa_cons (pe_tup (pa_cons pe_str pa_nil)) pa_nil))))))
  (C8.pss_cut (ps_if (pt_cmpR (r := rIn K false) op_in_seq (pv 1) (pe_lst (pa_cons pe_str (pa_cons pe_str pa_nil))) (by rfl))
  (pss_one (ps_set (i := 3) scL_leaf.nd rfl (Or.inl rfl) (pe_lst (pa_cons (pe_tup (pa_cons pe_str (pa_cons (pe_cG CL_take hg hr (by decide) (pa_cons (pv 0) (pa_cons pe_int pa_nil))) pa_nil))) (pa_cons (pe_tup (pa_cons pe_str (pa_cons pe_int pa_nil))) (pa_cons (pe_tup (pa_cons pe_str pa_nil)) (pa_cons (pe_tup (pa_cons pe_str pa_nil)) pa_nil)))))))
  pss_nil)
  (C8.pss_cut (ps_if (pt_val (pv 2))
  (pss_one (ps_set (i := 3) scL_leaf.nd rfl (Or.inl rfl) (pe_op op_cat (pv 3) (pe_lst (pa_cons (pe_tup (pa_cons pe_str pa_nil)) (pa_cons (pe_tup (pa_cons pe_str pa_nil)) pa_nil))))))
  pss_nil)
  (C8.pss_cut (ps_if (PW.pt (pw_and (pt_val (pv 2)) (pw_and1 (pt_cmpR (r := rIn K false) op_in_seq (pv 1) (pe_lst (pa_cons pe_str (pa_cons pe_str (pa_cons pe_str (pa_cons pe_str pa_nil))))) (by rfl)))))
  (pss_one (ps_set (i := 3) scL_leaf.nd rfl (Or.inl rfl) (pe_op op_cat (pv 3) (pe_lst (pa_cons (pe_tup (pa_cons pe_str pa_nil)) (pa_cons (pe_tup (pa_cons pe_str pa_nil)) pa_nil))))))
  pss_nil)
  (pss_one (ps_ret (pe_cG CL_one hg hr (by decide) (pa_cons (pv 0) (pa_cons (pv 3) pa_nil))))))))), ?_⟩
    obtain ⟨H0, eH⟩ : ∃ H0, H0 = H := ⟨_, rfl⟩
    have hp0 : H0 p = some (.lst [.int x, .int y]) := by rw [eH]; exact hp
    have nt0 := nt_lst hp0
    rw [← eH] at q ⊢
    repeat walk_at "rd"
    refine ⟨Rd.sz (by simp), fun t1 h1 => ?_⟩
    have S1 := Rd.sNew (o := .tup [.str "yes"]) h1
    have hp1 := S1 _ _ hp0
    have K1 := Keep.same (p := p) S1
    have N1 : upd H0 t1 (.tup [.str "yes"]) t1 = some (.tup [.str "yes"]) := upd_same
    generalize upd H0 t1 (.tup [.str "yes"]) = H1 at S1 hp1 K1 N1 ⊢
    repeat walk_at "rd"
    refine ⟨Rd.sz (by simp), fun t2 h2 => ?_⟩
    have S2 := Rd.sNew (o := .tup [.str "no"]) h2
    have hp2 := S2 _ _ hp1
    have K2 := Keep.same (p := p) S2
    have N2 : upd H1 t2 (.tup [.str "no"]) t2 = some (.tup [.str "no"]) := upd_same
    generalize upd H1 t2 (.tup [.str "no"]) = H2 at S2 hp2 K2 N2 ⊢
    repeat walk_at "rd"
    refine ⟨p, x, y, 5, rfl, hp2, ok, by decide, by decide, fun c x1 y1 ok1 c0 c1 => ?_⟩
    have hp3 : upd H2 p (.lst [.int x1, .int y1]) p = some (.lst [.int x1, .int y1]) := upd_same
    have K3 : Keep p H2 (upd H2 p (.lst [.int x1, .int y1])) := Keep.put (fun _ _ _ e => e)
    generalize upd H2 p (.lst [.int x1, .int y1]) = H3 at hp3 K3 ⊢
    repeat walk_at "rd"
    refine ⟨Rd.sz (by simp), fun t3 h3 => ?_⟩
    have S4 := Rd.sNew (o := .tup [.str "count", .int c]) h3
    have hp4 := S4 _ _ hp3
    have K4 := Keep.same (p := p) S4
    have N4 : upd H3 t3 (.tup [.str "count", .int c]) t3 = some (.tup [.str "count", .int c]) := upd_same
    generalize upd H3 t3 (.tup [.str "count", .int c]) = H4 at S4 hp4 K4 N4 ⊢
    repeat walk_at "rd"
    refine ⟨Rd.sz (by simp), fun t4 h4 => ?_⟩
    have S5 := Rd.sNew (o := .tup [.str "raise"]) h4
    have hp5 := S5 _ _ hp4
    have K5 := Keep.same (p := p) S5
    have N5 : upd H4 t4 (.tup [.str "raise"]) t4 = some (.tup [.str "raise"]) := upd_same
    generalize upd H4 t4 (.tup [.str "raise"]) = H5 at S5 hp5 K5 N5 ⊢
    repeat walk_at "rd"
    refine ⟨Rd.sz (by simp), fun L1 h5 => ?_⟩
    have S6 := Rd.sNew (o := .lst [.ref t1, .ref t2, .ref t3, .ref t4]) h5
    have hp6 := S6 _ _ hp5
    have K6 := Keep.same (p := p) S6
    have N6 : upd H5 L1 (.lst [.ref t1, .ref t2, .ref t3, .ref t4]) L1 = some (.lst [.ref t1, .ref t2, .ref t3, .ref t4]) := upd_same
    generalize upd H5 L1 (.lst [.ref t1, .ref t2, .ref t3, .ref t4]) = H6 at S6 hp6 K6 N6 ⊢
    repeat walk_at "rd"
    have z4 := K5.trans K6
    have z2 := (K3.trans K4).trans z4
    have z1 := K2.trans z2
    have lf1 : Lf K H0 H6 p L1 m tail [.word "yes", .word "no", .cnt c, .word "raise"] x1 y1 4 := ⟨K1.trans z1, hp6, ok1, ⟨_, N6, .cons (dW N1 z1 (nt_lst hp1)) (.cons (dW N2 z2 (nt_lst hp2)) (.cons (dC N4 z4 (nt_lst hp4)) (.cons (dW N5 K6 (nt_lst hp5)) .nil)))⟩, by simp, fun nd hn => by
      simp only [List.mem_cons, List.not_mem_nil, or_false] at hn
      rcases hn with rfl | rfl | rfl | rfl
      · exact word_ok (by decide +kernel)
      · exact word_ok (by decide +kernel)
      · exact cnt_ok (by omega) (by omega)
      · exact word_ok (by decide +kernel)⟩
    clear z1 z2 z4 K1 K2 K3 K4 K5 K6 N1 N2 N4 N5 N6 S1 S2 S4 S5 S6 h1 h2 h3 h4 h5 hp1 hp2 hp3 hp4 hp5
    refine Rd.cut (fun σ' H' => ∃ L ns x y, σ' = [some (.ref p), some (.str m), some (.bl tail), some (.ref L)] ∧ Lf K H0 H' p L m tail ns x y 4) ?_ (fun σ' H' h => ?_)
    · repeat walk_at "rd"
      refine ⟨Rd.sz (by simp), fun lm hlm => ?_⟩
      have S7 := Rd.sNew (o := .lst [.str "length", .str "hash"]) hlm
      have lf7 := lf1.same S7
      refine Rd.inL (xs := [.str "length", .str "hash"]) (SqL.of upd_same) rfl rfl ?_
      generalize upd H6 lm (.lst [.str "length", .str "hash"]) = H7 at S7 lf7 ⊢
      have hp7 := lf7.hp
      repeat walk_at "rd"
      refine Rd.bool (fun _ => ?_) (fun _ => ?_)
      · repeat walk_at "rd"
        refine ⟨p, x1, y1, 5, rfl, hp7, ok1, by decide, by decide, fun c x2 y2 ok2 c0 c1 => ?_⟩
        have hp8 : upd H7 p (.lst [.int x2, .int y2]) p = some (.lst [.int x2, .int y2]) := upd_same
        have K8 : Keep p H7 (upd H7 p (.lst [.int x2, .int y2])) := Keep.put (fun _ _ _ e => e)
        generalize upd H7 p (.lst [.int x2, .int y2]) = H8 at hp8 K8 ⊢
        repeat walk_at "rd"
        refine ⟨Rd.sz (by simp), fun t5 g1 => ?_⟩
        have S9 := Rd.sNew (o := .tup [.str "count", .int c]) g1
        have hp9 := S9 _ _ hp8
        have K9 := Keep.same (p := p) S9
        have N9 : upd H8 t5 (.tup [.str "count", .int c]) t5 = some (.tup [.str "count", .int c]) := upd_same
        generalize upd H8 t5 (.tup [.str "count", .int c]) = H9 at S9 hp9 K9 N9 ⊢
        repeat walk_at "rd"
        refine ⟨Rd.sz (by simp), fun t6 g2 => ?_⟩
        have S10 := Rd.sNew (o := .tup [.str "count", .int 0]) g2
        have hp10 := S10 _ _ hp9
        have K10 := Keep.same (p := p) S10
        have N10 : upd H9 t6 (.tup [.str "count", .int 0]) t6 = some (.tup [.str "count", .int 0]) := upd_same
        generalize upd H9 t6 (.tup [.str "count", .int 0]) = H10 at S10 hp10 K10 N10 ⊢
        repeat walk_at "rd"
        refine ⟨Rd.sz (by simp), fun t7 g3 => ?_⟩
        have S11 := Rd.sNew (o := .tup [.str "no"]) g3
        have hp11 := S11 _ _ hp10
        have K11 := Keep.same (p := p) S11
        have N11 : upd H10 t7 (.tup [.str "no"]) t7 = some (.tup [.str "no"]) := upd_same
        generalize upd H10 t7 (.tup [.str "no"]) = H11 at S11 hp11 K11 N11 ⊢
        repeat walk_at "rd"
        refine ⟨Rd.sz (by simp), fun t8 g4 => ?_⟩
        have S12 := Rd.sNew (o := .tup [.str "raise"]) g4
        have hp12 := S12 _ _ hp11
        have K12 := Keep.same (p := p) S12
        have N12 : upd H11 t8 (.tup [.str "raise"]) t8 = some (.tup [.str "raise"]) := upd_same
        generalize upd H11 t8 (.tup [.str "raise"]) = H12 at S12 hp12 K12 N12 ⊢
        repeat walk_at "rd"
        refine ⟨Rd.sz (by simp), fun L2 g5 => ?_⟩
        have S13 := Rd.sNew (o := .lst [.ref t5, .ref t6, .ref t7, .ref t8]) g5
        have hp13 := S13 _ _ hp12
        have K13 := Keep.same (p := p) S13
        have N13 : upd H12 L2 (.lst [.ref t5, .ref t6, .ref t7, .ref t8]) L2 = some (.lst [.ref t5, .ref t6, .ref t7, .ref t8]) := upd_same
        generalize upd H12 L2 (.lst [.ref t5, .ref t6, .ref t7, .ref t8]) = H13 at S13 hp13 K13 N13 ⊢
        repeat walk_at "rd"
        have z10 := K11.trans K12
        have z9 := K10.trans z10
        have z8 := (K9.trans z9)
        have z7 := K8.trans z8
        have z11 := K12
        exact ⟨L2, _, x2, y2, rfl, lf7.k.trans (z7.trans K13), hp13, ok2, ⟨_, N13, .cons (dC N9 (((K10.trans K11).trans K12).trans K13) (nt_lst hp9)) (.cons (dC N10 ((K11.trans K12).trans K13) (nt_lst hp10)) (.cons (dW N11 (K12.trans K13) (nt_lst hp11)) (.cons (dW N12 K13 (nt_lst hp12)) .nil)))⟩, by simp, fun nd hn => by
          simp only [List.mem_cons, List.not_mem_nil, or_false] at hn
          rcases hn with rfl | rfl | rfl | rfl
          · exact cnt_ok (by omega) (by omega)
          · exact cnt_ok (by omega) (by omega)
          · exact word_ok (by decide +kernel)
          · exact word_ok (by decide +kernel)⟩
      · repeat walk_at "rd"
        exact ⟨L1, _, x1, y1, rfl, lf7⟩
    · clear lf1
      obtain ⟨L, ns, x3, y3, rfl, lf⟩ := h
      refine Rd.cut (fun σ' H' => ∃ L ns x y, σ' = [some (.ref p), some (.str m), some (.bl tail), some (.ref L)] ∧ Lf K H0 H' p L m tail ns x y 6) ?_ (fun σ' H'' h => ?_)
      · repeat walk_at "rd"
        refine Rd.bool (fun c => ?_) (fun c => ?_)
        · subst c
          repeat walk_at "rd"
          refine ⟨Rd.sz (by simp), fun u1 g1 => ?_⟩
          have A1 := Rd.sNew (o := .tup [.str "further"]) g1
          repeat walk_at "rd"
          refine ⟨Rd.sz (by simp), fun u2 g2 => ?_⟩
          have A2 := Rd.sNew (o := .tup [.str "further"]) g2
          repeat walk_at "rd"
          refine ⟨Rd.sz (by simp), fun u3 g3 => ?_⟩
          have A3 := Rd.sNew (o := .lst [.ref u1, .ref u2]) g3
          obtain ⟨xs, hL, pr⟩ := lf.l
          have len := pair_len' pr
          obtain ⟨n0, n8⟩ := lf.n
          have v1 := A3 _ _ (A2 _ _ (show upd H' u1 (.tup [.str "further"]) u1 = some (.tup [.str "further"]) from upd_same))
          have v2 := A3 _ _ (show upd (upd H' u1 (.tup [.str "further"])) u2 (.tup [.str "further"]) u2 = some (.tup [.str "further"]) from upd_same)
          refine Rd.cat (A3 _ _ (A2 _ _ (A1 _ _ hL))) upd_same (Nat.le_of_lt (Rd.szl (by simp only [List.length_cons, List.length_nil]; omega))) fun cc hcc => ?_
          have A4 := Rd.sNew (o := .lst (xs ++ [.ref u1, .ref u2])) hcc
          have SS := ((A1.trans A2).trans A3).trans A4
          have lff := lf.same SS
          repeat walk_at "rd"
          exact ⟨cc, ns ++ [.word "further", .word "further"], x3, y3, rfl, lff.k, lff.hp, lff.ok, ⟨_, upd_same, pair_cat (Rd.pair_imp (fun nd _ h => dp_mono SS h) pr) (.cons (.tup (.inl (.inl (A4 _ _ v1))) (.cons (.str _) .nil)) (.cons (.tup (.inl (.inl (A4 _ _ v2))) (.cons (.str _) .nil)) .nil))⟩, by
            rw [List.length_append]
            simp only [List.length_cons, List.length_nil]
            omega, fun nd hn => by
            rcases List.mem_append.mp hn with h | h
            · exact lf.a nd h
            · simp only [List.mem_cons, List.not_mem_nil, or_false] at h
              rcases h with rfl | rfl <;> exact further_ok⟩
        · repeat walk_at "rd"
          exact ⟨L, ns, x3, y3, rfl, lf.k, lf.hp, lf.ok, lf.l, ⟨lf.n.1, by have := lf.n.2; omega⟩, lf.a⟩
      · clear lf
        obtain ⟨L, ns, x3, y3, rfl, lf⟩ := h
        refine Rd.cut (fun σ' H' => ∃ L ns x y, σ' = [some (.ref p), some (.str m), some (.bl tail), some (.ref L)] ∧ Lf K H0 H' p L m tail ns x y 8) ?_ (fun σ' H3 h => ?_)
        · repeat walk_at "rd"
          refine Rd.bool (fun c => ?_) (fun c => ?_)
          · subst c
            repeat walk_at "rd"
            refine ⟨Rd.sz (by simp), fun lm hlm => ?_⟩
            have S9 := Rd.sNew (o := .lst [.str "like", .str "unlike", .str "before", .str "behind"]) hlm
            refine Rd.inL (xs := (["like", "unlike", "before", "behind"] : List Str).map V.str) (SqL.of upd_same) rfl rfl ?_
            rw [if_neg Bool.false_ne_true, inV_str]
            have lf9 := lf.same S9
            generalize upd H'' lm (.lst [.str "like", .str "unlike", .str "before", .str "behind"]) = H9 at S9 lf9 ⊢
            repeat walk_at "rd"
            refine Rd.dec (fun c => ?_) (fun c => ?_)
            · have md : m ∈ decliners := by
                simp only [List.mem_cons, List.not_mem_nil, or_false] at c
                rcases c with rfl | rfl | rfl | rfl <;> decide +kernel
              repeat walk_at "rd"
              refine ⟨Rd.sz (by simp), fun u1 g1 => ?_⟩
              have A1 := Rd.sNew (o := .tup [.str "decline"]) g1
              repeat walk_at "rd"
              refine ⟨Rd.sz (by simp), fun u2 g2 => ?_⟩
              have A2 := Rd.sNew (o := .tup [.str "decline"]) g2
              repeat walk_at "rd"
              refine ⟨Rd.sz (by simp), fun u3 g3 => ?_⟩
              have A3 := Rd.sNew (o := .lst [.ref u1, .ref u2]) g3
              obtain ⟨xs, hL, pr⟩ := lf9.l
              have len := pair_len' pr
              obtain ⟨n0, n8⟩ := lf9.n
              have v1 := A3 _ _ (A2 _ _ (show upd H9 u1 (.tup [.str "decline"]) u1 = some (.tup [.str "decline"]) from upd_same))
              have v2 := A3 _ _ (show upd (upd H9 u1 (.tup [.str "decline"])) u2 (.tup [.str "decline"]) u2 = some (.tup [.str "decline"]) from upd_same)
              refine Rd.cat (A3 _ _ (A2 _ _ (A1 _ _ hL))) upd_same (Nat.le_of_lt (Rd.szl (by simp only [List.length_cons, List.length_nil]; omega))) fun cc hcc => ?_
              have A4 := Rd.sNew (o := .lst (xs ++ [.ref u1, .ref u2])) hcc
              have SS := ((A1.trans A2).trans A3).trans A4
              have lff := lf9.same SS
              repeat walk_at "rd"
              exact ⟨cc, ns ++ [.word "decline", .word "decline"], x3, y3, rfl, lff.k, lff.hp, lff.ok, ⟨_, upd_same, pair_cat (Rd.pair_imp (fun nd _ h => dp_mono SS h) pr) (.cons (.tup (.inl (.inl (A4 _ _ v1))) (.cons (.str _) .nil)) (.cons (.tup (.inl (.inl (A4 _ _ v2))) (.cons (.str _) .nil)) .nil))⟩, by
                rw [List.length_append]
                simp only [List.length_cons, List.length_nil]
                omega, fun nd hn => by
                rcases List.mem_append.mp hn with h | h
                · exact lf9.a nd h
                · simp only [List.mem_cons, List.not_mem_nil, or_false] at h
                  rcases h with rfl | rfl <;> exact (decline_ok md)⟩
            · repeat walk_at "rd"
              exact ⟨L, ns, x3, y3, rfl, lf9.k, lf9.hp, lf9.ok, lf9.l, ⟨lf9.n.1, by have := lf9.n.2; omega⟩, lf9.a⟩
          · repeat walk_at "rd"
            exact ⟨L, ns, x3, y3, rfl, lf.k, lf.hp, lf.ok, lf.l, ⟨lf.n.1, by have := lf.n.2; omega⟩, lf.a⟩
        · clear lf
          obtain ⟨L, ns, x3, y3, rfl, lf⟩ := h
          obtain ⟨xs, hL, pr⟩ := lf.l
          have len := pair_len' pr
          obtain ⟨n0, n8⟩ := lf.n
          have Lp : L ≠ p := fun e => by
            rw [e, lf.hp] at hL
            cases hL
            cases pr with
            | cons a _ =>
              obtain ⟨_, _, _, z, _⟩ := nd_at a
              cases z
          repeat walk_at "rd"
          refine ⟨p, L, x3, y3, xs, rfl, lf.hp, SqL.of hL, fun o => SqL.of (by rw [upd_ne Lp]; exact hL), lf.ok, by omega, by omega, fun v x' y' hv ok' => ?_⟩
          obtain ⟨nd, hn, dn⟩ := pair_at pr hv
          obtain ⟨a1, a2, a3⟩ := lf.a nd hn
          have kp : Keep p H3 (upd H3 p (.lst [.int x', .int y'])) := Keep.put (fun _ _ _ e => e)
          exact q v nd _ x' y' (lf.k.trans kp) upd_same ok' (nd_keep kp (nt_lst lf.hp) _ _ dn) a1 a2 a3
end
end Ab
namespace Ab
open PySem.Spec PyProof.Rows
theorem cut1 {a b : V} : cutV [a, b] none (some 1) = [a] := rfl
theorem cut2 {a b : V} : cutV [a, b] none (some 2) = [a, b] := rfl
/-- what an asking node for m may be -/
theorem ask1_all {m o r : Str} (t : Bool) (ho : o ∈ askOne) (hr : r ∈ rolesOf m) : (Nd.ask1 o r).all m t = true := by
  show (decide (o ∈ askOne) && decide (r ∈ rolesOf m)) = true
  rw [decide_eq_true ho, decide_eq_true hr]; rfl
theorem ask2_all {m o r q : Str} (t : Bool) (ho : o ∈ askTwo) (hr : r ∈ rolesOf m) (hq : q ∈ rolesOf m) (ne : r ≠ q) : (Nd.ask2 o r q).all m t = true := by
  show (decide (o ∈ askTwo) && decide (r ∈ rolesOf m) && decide (q ∈ rolesOf m) && decide (r ≠ q)) = true
  rw [decide_eq_true ho, decide_eq_true hr, decide_eq_true hq, decide_eq_true ne]; rfl
theorem orS {c : Prop} [Decidable c] {tu : TT} {t u : TS} {D : Ends} {σ : L2.St} {H1 : Hp} (G : Hp → Prop) (suite : ∀ H', G H' → t D σ H') (h1 : c → G H1)
    (h2 : (∀ H', G H' → t D σ H') → ¬ c → tu σ H1 fun b H' => if b = true then t D σ H' else u D σ H') : if decide c = true then (if true = true then t D σ H1 else u D σ H1) else tu σ H1 fun b H' => if b = true then t D σ H' else u D σ H' := by
  by_cases h : c
  · rw [decide_eq_true h]; exact suite _ (h1 h)
  · rw [decide_eq_false h, if_neg Bool.false_ne_true]; exact h2 suite h
theorem ne_lp {H : Hp} {l p : Addr} {ws : List Str} {x y : Int} (h : H l = some (.lst (ws.map V.str))) (hp : H p = some (.lst [.int x, .int y])) : l ≠ p := fun e => by
  rw [e, hp] at h
  cases ws with
  | nil => cases h
  | cons a r => cases h
/-- one of a list of texts that stands -/
theorem oneSs {K : PySem.W.Frag} {H : Hp} {Q : VK} {E : XK} {p l : Addr} {x y : Int} {ws : List Str} (hp : H p = some (.lst [.int x, .int y])) (hl : H l = some (.lst (ws.map V.str))) (ne : l ≠ p) (ok : PoolOk x y) (n0 : 0 < ws.length) (n1 : ws.length < 1000)
    (k : ∀ (o : Str) H' x' y', o ∈ ws → Keep p H H' → H' p = some (.lst [.int x', .int y']) → PoolOk x' y' → Q (.str o) H') : spOne K ([.ref p, .ref l] ++ []) H Q E := by
  refine ⟨p, l, x, y, ws.map V.str, rfl, hp, SqL.of hl, fun o => SqL.of (by rw [upd_ne ne]; exact hl), ok, by rw [List.length_map]; exact n0, by rw [List.length_map]; exact n1, fun v x' y' hv ok' => ?_⟩
  obtain ⟨o, ho, rfl⟩ := List.mem_map.mp hv
  exact k o _ x' y' ho (Keep.put (fun _ _ _ e => e)) upd_same ok'
/-- one of a list of texts just laid -/
theorem oneS {K : PySem.W.Frag} {H : Hp} {Q : VK} {E : XK} {p l : Addr} {x y : Int} {ws : List Str} (hp : H p = some (.lst [.int x, .int y])) (hl : H l = none) (ok : PoolOk x y) (n0 : 0 < ws.length) (n1 : ws.length < 1000)
    (k : ∀ (o : Str) H' x' y', o ∈ ws → Keep p H H' → Keep p H H' → H' p = some (.lst [.int x', .int y']) → PoolOk x' y' → Q (.str o) H') : spOne K ([.ref p, .ref l] ++ []) (upd H l (.lst (ws.map V.str))) Q E := by
  have S := Rd.sNew (o := .lst (ws.map V.str)) hl
  have ne : l ≠ p := fun e => by rw [e, hp] at hl; cases hl
  exact oneSs (S _ _ hp) upd_same ne ok n0 n1 fun o H' x' y' ho kk hp' ok' => k o H' x' y' ho ((Keep.same S).trans kk) ((Keep.same S).trans kk) hp' ok'
theorem roleCut {m : Str} (h : m ∈ bodyM) : cutV [V.str "self", .str "other"] none (some (1 + if (!decide (m ∈ (["truth", "length", "hash"] : List Str))) = true then 1 else 0)) = (rolesOf m).map V.str := by
  have g : ∀ m ∈ bodyM, rolesOf m = if (!decide (m ∈ (["truth", "length", "hash"] : List Str))) = true then (["self", "other"] : List Str) else ["self"] := by decide +kernel
  rw [g m h]
  split <;> rfl
section
variable {P : Program} {w : World} {K : PySem.W.Frag} {mg : Str → Option Value} {base : Heap}
abbrev sL_asking : Stmt := top 74
abbrev nL_asking : List Str := ["_law_pool_here", "_law_method", "_law_roles", "_law_some"]
theorem scL_asking : FnScope nL_asking ["_law_pool_here", "_law_method"] (defScope sL_asking) := ⟨rfl, rfl, rfl, by decide +kernel, rfl, by decide +kernel, by decide +kernel⟩
def spAsking (K : PySem.W.Frag) : Sp := fun vs H Q _ => ∃ (p : Addr) (x y : Int) (m : Str), vs = [.ref p, .str m] ∧ H p = some (.lst [.int x, .int y]) ∧ PoolOk x y ∧ m ∈ bodyM ∧
  ∀ (v : V) (nd : Nd) H' x' y', Keep p H H' → H' p = some (.lst [.int x', .int y']) → PoolOk x' y' → Dp K H' v nd.d → (∀ t, nd.all m t = true) → nd.dep = 1 → nd.size = 1 → Q v H'
set_option pp.maxSteps 3000 in
theorem ok_asking (T : Txt K mg) (D : DefAt K mg "_law_asking" sL_asking ["_law_pool_here", "_law_method"]) (CL_take : CalG P w K mg base 1 "_law_take" spTake) (CL_one : CalG P w K mg base 2 "_law_one" (spOne K)) : CalG P w K mg base 3 "_law_asking" (spAsking K) := by
  refine D.by scL_asking (fun vs H Q E h => ?_) (fun f cd A hg outer s H vs Q E hr h => ?_)
  · obtain ⟨_, _, _, _, rfl, _⟩ := h
    rfl
  · obtain ⟨p, x, y, m, rfl, hp, ok, hm, q⟩ := h
    refine ⟨_, (pss_cons (ps_if (PW.pt (pw_or (pt_cmpR (r := rIn K false) op_in_seq (pv 1) (pe_lst (pa_cons pe_str (pa_cons pe_str pa_nil))) (by rfl)) (pw_or1 (pt_cmpR op_eq (pe_cG CL_take hg hr (by decide) (pa_cons (pv 0) (pa_cons pe_int pa_nil))) pe_int (nomark _)))))
  (pss_cons (ps_set (i := 2) scL_asking.nd rfl (Or.inl rfl) (pe_slice (r := rSlL K) sl_list (pe_lst (pa_cons pe_str (pa_cons pe_str pa_nil))) po_none (po_some (pe_op op_add pe_int (pe_callTy call_int1 (by rfl) T.int (by decide +kernel) (pa_cons (pe_cmpR (r := rIn K true) op_notIn_seq (pv 1) (pe_lst (pa_cons pe_str (pa_cons pe_str (pa_cons pe_str pa_nil)))) (by rfl)) pa_nil))))))
  (pss_one (ps_ret (pe_tup (pa_cons pe_str (pa_cons (pe_cG CL_one hg hr (by decide) (pa_cons (pv 0) (pa_cons (pe_lst (pa_cons pe_str (pa_cons pe_str (pa_cons pe_str pa_nil)))) pa_nil))) (pa_cons (pe_cG CL_one hg hr (by decide) (pa_cons (pv 0) (pa_cons (pv 2) pa_nil))) pa_nil)))))))
  pss_nil)
  (pss_cons (ps_if (pt_cmpR op_eq (pv 1) pe_str (nomark _))
  (pss_one (ps_ret (pe_tup (pa_cons pe_str (pa_cons (pe_cG CL_one hg hr (by decide) (pa_cons (pv 0) (pa_cons (pe_lst (pa_cons pe_str (pa_cons pe_str pa_nil))) pa_nil))) (pa_cons pe_str pa_nil))))))
  pss_nil)
  (pss_cons (ps_set (i := 2) scL_asking.nd rfl (Or.inl rfl) (pe_cG CL_one hg hr (by decide) (pa_cons (pv 0) (pa_cons (pe_lst (pa_cons (pe_tup (pa_cons pe_str (pa_cons pe_str pa_nil))) (pa_cons (pe_tup (pa_cons pe_str (pa_cons pe_str pa_nil))) pa_nil))) pa_nil))))
  (pss_cons (ps_set (i := 3) scL_asking.nd rfl (Or.inl rfl) (pe_lst (pa_cons pe_str (pa_cons pe_str (pa_cons pe_str (pa_cons pe_str (pa_cons pe_str (pa_cons pe_str (pa_cons pe_str pa_nil)))))))))
  (pss_one (ps_ret (pe_op op_catT (pe_tup (pa_cons pe_str (pa_cons (pe_cG CL_one hg hr (by decide) (pa_cons (pv 0) (pa_cons (pv 3) pa_nil))) pa_nil))) (pv 2)))))))), ?_⟩
    repeat walk_at "rd"
    refine ⟨Rd.sz (by simp), fun lm hlm => ?_⟩
    have S1 := Rd.sNew (o := .lst [.str "truth", .str "length"]) hlm
    have hp1 := S1 _ _ hp
    refine Rd.inL (xs := (["truth", "length"] : List Str).map V.str) (SqL.of upd_same) rfl rfl ?_
    rw [if_neg Bool.false_ne_true, inV_str]
    generalize upd H lm (.lst [.str "truth", .str "length"]) = H1 at S1 hp1 ⊢
    refine ⟨_, rfl, ?_⟩
    refine orS (fun H' => ∃ x y, Keep p H H' ∧ H' p = some (.lst [.int x, .int y]) ∧ PoolOk x y) ?_ (fun _ => ⟨x, y, Keep.same S1, hp1, ok⟩) (fun suite c => ?_)
    · rintro H2 ⟨x2, y2, K2, hp2, ok2⟩
      repeat walk_at "rd"
      refine ⟨Rd.sz (by simp), fun l1 h1 => ?_⟩
      have S3 := Rd.sNew (o := .lst [.str "self", .str "other"]) h1
      have hp3 := S3 _ _ hp2
      have K3 := Keep.same (p := p) S3
      have l3 : upd H2 l1 (.lst [.str "self", .str "other"]) l1 = some (.lst [.str "self", .str "other"]) := upd_same
      generalize upd H2 l1 (.lst [.str "self", .str "other"]) = H3 at S3 hp3 K3 l3 ⊢
      repeat walk_at "rd"
      refine ⟨Rd.sz (by simp), fun l2 h2 => ?_⟩
      have S4 := Rd.sNew (o := .lst [.str "truth", .str "length", .str "hash"]) h2
      have hp4 := S4 _ _ hp3
      have K4 := Keep.same (p := p) S4
      have l4 := S4 _ _ l3
      refine Rd.inL (xs := (["truth", "length", "hash"] : List Str).map V.str) (SqL.of upd_same) rfl rfl ?_
      generalize upd H3 l2 (.lst [.str "truth", .str "length", .str "hash"]) = H4 at S4 hp4 K4 l4 ⊢
      rw [if_pos rfl, inV_str]
      repeat walk_at "rd"
      refine Rd.slL (SqL.of l4) fun l5 h5 => ?_
      rw [roleCut hm]
      have S5 := Rd.sNew (o := .lst ((rolesOf m).map V.str)) h5
      have hp5 := S5 _ _ hp4
      have K5 := Keep.same (p := p) S5
      have l5e : upd H4 l5 (.lst ((rolesOf m).map V.str)) l5 = some (.lst ((rolesOf m).map V.str)) := upd_same
      generalize upd H4 l5 (.lst ((rolesOf m).map V.str)) = H5 at S5 hp5 K5 l5e ⊢
      have K05 := (((K2.trans K3).trans K4).trans K5)
      clear K2 K3 K4 K5 S3 S4 S5
      repeat walk_at "rd"
      refine ⟨Rd.sz (by simp), fun l6 h6 => ?_⟩
      repeat walk_at "rd"
      refine oneS (ws := askOne) hp5 h6 ok2 (by decide) (by decide) fun o H6 x6 y6 ho s6 K6 hp6 ok6 => ?_
      have l6e := K6 _ _ (ne_lp l5e hp5) l5e
      have K06 := K05.trans K6
      repeat walk_at "rd"
      refine oneSs hp6 l6e (ne_lp l6e hp6) ok6 (by rw [rolesOf]; split <;> decide) (by rw [rolesOf]; split <;> decide) fun r H7 x7 y7 hr7 K7 hp7 ok7 => ?_
      repeat walk_at "rd"
      refine ⟨Rd.sz (by simp), fun t8 h8 => ?_⟩
      have S8 := Rd.sNew (o := .tup [.str "ask", .str o, .str r]) h8
      refine q (.ref t8) (.ask1 o r) _ x7 y7 ((K06.trans K7).trans (Keep.same S8)) (S8 _ _ hp7) ok7 ?_ (fun t => ask1_all t ho hr7) rfl rfl
      exact .tup (.inl (.inl upd_same)) (.cons (.str _) (.cons (.str _) (.cons (.str _) .nil)))
    · repeat walk_at "rd"
      refine ⟨p, x, y, 4, rfl, hp1, ok, by decide, by decide, fun c4 x2 y2 ok2 c0 c1 => ?_⟩
      have K2 : Keep p H1 (upd H1 p (.lst [.int x2, .int y2])) := Keep.put (fun _ _ _ e => e)
      have hp2 : upd H1 p (.lst [.int x2, .int y2]) p = some (.lst [.int x2, .int y2]) := upd_same
      have K02 := (Keep.same (p := p) S1).trans K2
      generalize upd H1 p (.lst [.int x2, .int y2]) = H2 at K2 hp2 K02 ⊢
      repeat walk_at "rd"
      refine Rd.dec (fun _ => ?_) (fun _ => ?_)
      · exact suite H2 ⟨x2, y2, K02, hp2, ok2⟩
      · clear suite
        repeat walk_at "rd"
        refine Rd.dec (fun e => ?_) (fun e => ?_)
        · obtain rfl := V.str.inj e
          repeat walk_at "rd"
          refine ⟨Rd.sz (by simp), fun l6 h6 => ?_⟩
          repeat walk_at "rd"
          refine oneS (ws := ["size", "hash"]) hp2 h6 ok2 (by decide) (by decide) fun o H6 x6 y6 ho s6 K6 hp6 ok6 => ?_
          repeat walk_at "rd"
          refine ⟨Rd.sz (by simp), fun t8 h8 => ?_⟩
          have S8 := Rd.sNew (o := .tup [.str "ask", .str o, .str "self"]) h8
          have ho2 : o ∈ askOne := (show ∀ z ∈ (["size", "hash"] : List Str), z ∈ askOne by decide +kernel) o ho
          refine q (.ref t8) (.ask1 o "self") _ x6 y6 ((K02.trans K6).trans (Keep.same S8)) (S8 _ _ hp6) ok6 ?_ (fun t => ask1_all t ho2 (by decide +kernel)) rfl rfl
          exact .tup (.inl (.inl upd_same)) (.cons (.str _) (.cons (.str _) (.cons (.str _) .nil)))
        · have hm2 : m ∈ (["has", "like", "unlike", "before", "behind"] : List Str) := by
            have h : ∀ z ∈ bodyM, z ∉ (["truth", "length"] : List Str) → z ≠ "hash" → z ∈ (["has", "like", "unlike", "before", "behind"] : List Str) := by decide +kernel
            exact h m hm c (fun z => e (by rw [z]))
          have ro : rolesOf m = (["self", "other"] : List Str) := (show ∀ z ∈ (["has", "like", "unlike", "before", "behind"] : List Str), rolesOf z = (["self", "other"] : List Str) by decide +kernel) m hm2
          repeat walk_at "rd"
          refine ⟨Rd.sz (by simp), fun t3 h3 => ?_⟩
          have S3 := Rd.sNew (o := .tup [.str "self", .str "other"]) h3
          have hp3 := S3 _ _ hp2
          have K3 := Keep.same (p := p) S3
          have t3e : upd H2 t3 (.tup [.str "self", .str "other"]) t3 = some (.tup [.str "self", .str "other"]) := upd_same
          generalize upd H2 t3 (.tup [.str "self", .str "other"]) = H3 at S3 hp3 K3 t3e ⊢
          repeat walk_at "rd"
          refine ⟨Rd.sz (by simp), fun t4 h4 => ?_⟩
          have S4 := Rd.sNew (o := .tup [.str "other", .str "self"]) h4
          have hp4 := S4 _ _ hp3
          have K4 := Keep.same (p := p) S4
          have t4e : upd H3 t4 (.tup [.str "other", .str "self"]) t4 = some (.tup [.str "other", .str "self"]) := upd_same
          have t3e := S4 _ _ t3e
          generalize upd H3 t4 (.tup [.str "other", .str "self"]) = H4 at S4 hp4 K4 t3e t4e ⊢
          repeat walk_at "rd"
          refine ⟨Rd.sz (by simp), fun l5 h5 => ?_⟩
          have S5 := Rd.sNew (o := .lst [.ref t3, .ref t4]) h5
          have hp5 := S5 _ _ hp4
          have K5 := Keep.same (p := p) S5
          have l5e : upd H4 l5 (.lst [.ref t3, .ref t4]) l5 = some (.lst [.ref t3, .ref t4]) := upd_same
          have t3e := S5 _ _ t3e
          have t4e := S5 _ _ t4e
          generalize upd H4 l5 (.lst [.ref t3, .ref t4]) = H5 at S5 hp5 K5 t3e t4e l5e ⊢
          have K05 := ((K02.trans K3).trans K4).trans K5
          clear K3 K4 K5 S3 S4 S5 h3 h4 h5 hp3 hp4
          have nl : l5 ≠ p := fun z => by rw [z, hp5] at l5e; cases l5e
          have n3 : t3 ≠ p := fun z => by rw [z, hp5] at t3e; cases t3e
          have n4 : t4 ≠ p := fun z => by rw [z, hp5] at t4e; cases t4e
          repeat walk_at "rd"
          refine ⟨p, l5, x2, y2, [.ref t3, .ref t4], rfl, hp5, SqL.of l5e, fun o => SqL.of (by rw [upd_ne nl]; exact l5e), ok2, by simp, by simp, fun v x6 y6 hv ok6 => ?_⟩
          have K6 : Keep p H5 (upd H5 p (.lst [.int x6, .int y6])) := Keep.put (fun _ _ _ e => e)
          have hp6 : upd H5 p (.lst [.int x6, .int y6]) p = some (.lst [.int x6, .int y6]) := upd_same
          obtain ⟨r1, r2, t6, rfl, t6e, n12, i1, i2⟩ : ∃ (r1 r2 : Str) (t6 : Addr), v = .ref t6 ∧ upd H5 p (.lst [.int x6, .int y6]) t6 = some (.tup [.str r1, .str r2]) ∧ r1 ≠ r2 ∧ r1 ∈ rolesOf m ∧ r2 ∈ rolesOf m := by
            simp only [List.mem_cons, List.not_mem_nil, or_false] at hv
            rw [ro]
            rcases hv with rfl | rfl
            · exact ⟨"self", "other", t3, rfl, K6 _ _ n3 t3e, by decide +kernel, by decide +kernel, by decide +kernel⟩
            · exact ⟨"other", "self", t4, rfl, K6 _ _ n4 t4e, by decide +kernel, by decide +kernel, by decide +kernel⟩
          have K06 := K05.trans K6
          generalize upd H5 p (.lst [.int x6, .int y6]) = H6 at K6 hp6 t6e K06 ⊢
          clear K05 K6 t3e t4e l5e
          repeat walk_at "rd"
          refine ⟨Rd.sz (by simp), fun l7 h7 => ?_⟩
          have S7 := Rd.sNew (o := .lst [.str "member", .str "like", .str "unlike", .str "like", .str "unlike", .str "before", .str "behind"]) h7
          have hp7 := S7 _ _ hp6
          have K7 := Keep.same (p := p) S7
          have t7e := S7 _ _ t6e
          have l7e : upd H6 l7 (.lst [.str "member", .str "like", .str "unlike", .str "like", .str "unlike", .str "before", .str "behind"]) l7 = some (.lst ((["member", "like", "unlike", "like", "unlike", "before", "behind"] : List Str).map V.str)) := upd_same
          generalize upd H6 l7 (.lst [.str "member", .str "like", .str "unlike", .str "like", .str "unlike", .str "before", .str "behind"]) = H7 at S7 hp7 K7 t7e l7e ⊢
          repeat walk_at "rd"
          refine oneSs hp7 l7e (ne_lp l7e hp7) ok6 (by decide) (by decide) fun o H8 x8 y8 ho K8 hp8 ok8 => ?_
          have n6 : t6 ≠ p := fun z => by rw [z, hp6] at t6e; cases t6e
          have t8e := K8 _ _ n6 t7e
          repeat walk_at "rd"
          refine ⟨Rd.sz (by simp), fun t9 h9 => ?_⟩
          have S9 := Rd.sNew (o := .tup [.str "ask", .str o]) h9
          have hp9 := S9 _ _ hp8
          have t9e := S9 _ _ t8e
          repeat walk_at "rd"
          refine ⟨t9, t6, [.str "ask", .str o], [.str r1, .str r2], rfl, rfl, .inl (.inl upd_same), .inl (.inl t9e), by simp, Rd.sz (by simp), fun z => absurd z (by simp), fun _ ta ha => ?_⟩
          have Sa := Rd.sNew (o := .tup ([.str "ask", .str o] ++ [.str r1, .str r2])) ha
          have ho2 : o ∈ askTwo := (show ∀ z ∈ (["member", "like", "unlike", "like", "unlike", "before", "behind"] : List Str), z ∈ askTwo by decide +kernel) o ho
          refine q (.ref ta) (.ask2 o r1 r2) _ x8 y8 (((K06.trans K7).trans K8).trans (Keep.same (S9.trans Sa))) (Sa _ _ hp9) ok8 ?_ (fun t => ask2_all t ho2 i1 i2 n12) rfl rfl
          exact .tup (.inl (.inl upd_same)) (.cons (.str _) (.cons (.str _) (.cons (.str _) (.cons (.str _) .nil))))
end
end Ab
namespace Ab
open PySem.Spec PyProof.Rows
local macro_rules | `(tactic| walk_at "rd") => `(tactic| (with_reducible first | refine Rd.tt_ ?_ | refine Rd.ff_ ?_))
def szD : Nat → Nat
  | 0 => 1
  | n + 1 => 3 * szD n + 1
theorem szD_pos : ∀ n, 1 ≤ szD n
  | 0 => Nat.le_refl _
  | n + 1 => by rw [szD]; omega
theorem szD_mono {a b : Nat} (h : a ≤ b) : szD a ≤ szD b := by
  induction h with
  | refl => exact Nat.le_refl _
  | step _ ih => rw [szD]; omega
section
variable {P : Program} {w : World} {K : PySem.W.Frag} {mg : Str → Option Value} {base : Heap}
abbrev sL_part : Stmt := top 75
abbrev nL_part : List Str := ["_law_pool_here", "_law_method", "_law_deep", "_law_at_tail", "_law_way", "_law_first", "_law_second"]
theorem scL_part : FnScope nL_part ["_law_pool_here", "_law_method", "_law_deep", "_law_at_tail"] (defScope sL_part) := ⟨rfl, rfl, rfl, by decide +kernel, rfl, by decide +kernel, by decide +kernel⟩
def spPart (K : PySem.W.Frag) (n : Nat) : Sp := fun vs H Q _ => ∃ (p : Addr) (x y : Int) (m : Str) (tail : Bool), vs = [.ref p, .str m, .int (n : Int), .bl tail] ∧ H p = some (.lst [.int x, .int y]) ∧ PoolOk x y ∧ m ∈ bodyM ∧
  ∀ (v : V) (nd : Nd) H' x' y', Keep p H H' → H' p = some (.lst [.int x', .int y']) → PoolOk x' y' → Dp K H' v nd.d → nd.all m tail = true → nd.dep ≤ n + 1 → nd.size ≤ szD n → Q v H'
/-- of depth n at most -/
def spPartA (K : PySem.W.Frag) (n : Nat) : Sp := fun vs H Q E => ∃ j, j ≤ n ∧ spPart K j vs H Q E
theorem part_step (T : Txt K mg) (D : DefAt K mg "_law_part" sL_part ["_law_pool_here", "_law_method", "_law_deep", "_law_at_tail"]) (CL_take : CalG P w K mg base 1 "_law_take" spTake) (CL_leaf : CalG P w K mg base 3 "_law_leaf" (spLeaf K)) (CL_asking : CalG P w K mg base 3 "_law_asking" (spAsking K))
    {k top : Nat} (hk : 3 ≤ k) {sp : Sp} (CL_part : CalG P w K mg base k "_law_part" sp) (hsp : ∀ i, i < top → ∀ vs H Q E, spPart K i vs H Q E → sp vs H Q E) : CalG P w K mg base (k + 1) "_law_part" (spPartA K top) := by
  refine D.by scL_part (fun vs H Q E h => ?_) (fun f cd A hg outer s H vs Q E hr h => ?_)
  · obtain ⟨_, _, _, _, _, _, _, rfl, _⟩ := h
    rfl
  · obtain ⟨j, hj, p, x, y, m, tail, rfl, hp, ok, hm, q⟩ := h
    refine ⟨_, (pss_cons (ps_set (i := 4) scL_part.nd rfl (Or.inl rfl) (pe_cG CL_take hg hr (by omega) (pa_cons (pv 0) (pa_cons pe_int pa_nil))))
  (pss_cons (ps_if (PW.pt (pw_or (PW.pt (pw_and (pt_cmpR op_eq (pv 2) pe_int (nomark _)) (pw_and1 (pt_cmpR op_lt (pv 4) pe_int (nomark _))))) (pw_or1 (pt_cmpR op_lt (pv 4) pe_int (nomark _)))))
  (pss_one (ps_ret (pe_cG CL_leaf hg hr (by omega) (pa_cons (pv 0) (pa_cons (pv 1) (pa_cons (pv 3) pa_nil))))))
  pss_nil)
  (pss_cons (ps_if (PW.pt (pw_or (pt_cmpR op_eq (pv 2) pe_int (nomark _)) (pw_or1 (pt_cmpR op_lt (pv 4) pe_int (nomark _)))))
  (pss_one (ps_ret (pe_cG CL_asking hg hr (by omega) (pa_cons (pv 0) (pa_cons (pv 1) pa_nil)))))
  pss_nil)
  (pss_cons (ps_if (pt_cmpR op_eq (pv 4) pe_int (nomark _))
  (pss_one (ps_ret (pe_tup (pa_cons pe_str (pa_cons (pe_cG CL_part hg hr (by omega) (pa_cons (pv 0) (pa_cons (pv 1) (pa_cons (pe_op op_sub (pv 2) pe_int) (pa_cons pe_bl pa_nil))))) pa_nil)))))
  pss_nil)
  (pss_cons (ps_set (i := 5) scL_part.nd rfl (Or.inl rfl) (pe_cG CL_part hg hr (by omega) (pa_cons (pv 0) (pa_cons (pv 1) (pa_cons (pe_op op_sub (pv 2) pe_int) (pa_cons pe_bl pa_nil))))))
  (pss_cons (ps_set (i := 6) scL_part.nd rfl (Or.inl rfl) (pe_cG CL_part hg hr (by omega) (pa_cons (pv 0) (pa_cons (pv 1) (pa_cons (pe_op op_sub (pv 2) pe_int) (pa_cons (pv 3) pa_nil))))))
  (pss_one (ps_ret (pe_tup (pa_cons pe_str (pa_cons (pv 5) (pa_cons (pv 6) (pa_cons (pe_cG CL_part hg hr (by omega) (pa_cons (pv 0) (pa_cons (pv 1) (pa_cons (pe_op op_sub (pv 2) pe_int) (pa_cons (pv 3) pa_nil))))) pa_nil))))))))))))), ?_⟩
    repeat walk_at "rd"
    refine ⟨p, x, y, 8, rfl, hp, ok, by decide, by decide, fun c x1 y1 ok1 c0 c1 => ?_⟩
    have K1 : Keep p H (upd H p (.lst [.int x1, .int y1])) := Keep.put (fun _ _ _ e => e)
    have hp1 : upd H p (.lst [.int x1, .int y1]) p = some (.lst [.int x1, .int y1]) := upd_same
    generalize upd H p (.lst [.int x1, .int y1]) = H1 at K1 hp1 ⊢
    match j, hj, q with
    | 0, hj, q =>
      have leaf : spLeaf K ([.ref p, .str m, .bl tail] ++ []) H1 Q E0 := ⟨p, x1, y1, m, tail, rfl, hp1, ok1, fun v nd H2 x2 y2 K2 hp2 ok2 dp a1 a2 a3 => q v nd H2 x2 y2 (K1.trans K2) hp2 ok2 dp a1 (by omega) (by rw [szD]; omega)⟩
      have asking : spAsking K ([.ref p, .str m] ++ []) H1 Q E0 := ⟨p, x1, y1, m, rfl, hp1, ok1, hm, fun v nd H2 x2 y2 K2 hp2 ok2 dp a1 a2 a3 => q v nd H2 x2 y2 (K1.trans K2) hp2 ok2 dp (a1 tail) (by omega) (by rw [szD]; omega)⟩
      repeat walk_at "rd"
      refine Rd.dec (fun _ => ?_) (fun e => absurd rfl e)
      repeat walk_at "rd"
      refine Rd.dec (fun _ => ?_) (fun e4 => ?_)
      · repeat walk_at "rd"
        exact leaf
      · repeat walk_at "rd"
        refine Rd.dec (fun e2 => (by omega)) (fun e2 => ?_)
        repeat walk_at "rd"
        refine Rd.dec (fun _ => ?_) (fun e => absurd rfl e)
        repeat walk_at "rd"
        exact asking
    | n + 1, hj, q =>
      have hn : n < top := hj
      have sz1 := szD_pos (n + 1)
      have leaf : spLeaf K ([.ref p, .str m, .bl tail] ++ []) H1 Q E0 := ⟨p, x1, y1, m, tail, rfl, hp1, ok1, fun v nd H2 x2 y2 K2 hp2 ok2 dp a1 a2 a3 => q v nd H2 x2 y2 (K1.trans K2) hp2 ok2 dp a1 (by omega) (by omega)⟩
      have asking : spAsking K ([.ref p, .str m] ++ []) H1 Q E0 := ⟨p, x1, y1, m, rfl, hp1, ok1, hm, fun v nd H2 x2 y2 K2 hp2 ok2 dp a1 a2 a3 => q v nd H2 x2 y2 (K1.trans K2) hp2 ok2 dp (a1 tail) (by omega) (by omega)⟩
      have szn : szD (n + 1) = 3 * szD n + 1 := rfl
      have dn : (((n + 1 : Nat) : Int) - 1) = (n : Int) := by omega
      repeat walk_at "rd"
      refine Rd.dec (fun e => absurd (V.int.inj e) (by omega)) (fun _ => ?_)
      repeat walk_at "rd"
      refine Rd.dec (fun _ => ?_) (fun e2 => ?_)
      · repeat walk_at "rd"
        exact leaf
      · repeat walk_at "rd"
        refine Rd.dec (fun e => absurd (V.int.inj e) (by omega)) (fun _ => ?_)
        repeat walk_at "rd"
        refine Rd.dec (fun _ => ?_) (fun e5 => ?_)
        · repeat walk_at "rd"
          exact asking
        · repeat walk_at "rd"
          refine Rd.dec (fun _ => ?_) (fun e6 => ?_)
          · repeat walk_at "rd"
            rw [dn]
            refine hsp n hn _ _ _ _ ⟨p, x1, y1, m, false, rfl, hp1, ok1, hm, fun v nd H2 x2 y2 K2 hp2 ok2 dp a1 a2 a3 => ?_⟩
            repeat walk_at "rd"
            refine ⟨Rd.sz (by simp), fun t ht => ?_⟩
            have S3 := Rd.sNew (o := .tup [.str "not", v]) ht
            refine q (.ref t) (.no nd) _ x2 y2 ((K1.trans K2).trans (Keep.same S3)) (S3 _ _ hp2) ok2 ?_ a1 (by show nd.dep + 1 ≤ _; omega) (by show nd.size + 1 ≤ _; omega)
            exact .tup (.inl (.inl upd_same)) (.cons (.str _) (.cons (dp_mono S3 dp) .nil))
          · repeat walk_at "rd"
            rw [dn]
            refine hsp n hn _ _ _ _ ⟨p, x1, y1, m, false, rfl, hp1, ok1, hm, fun v1 nd1 H2 x2 y2 K2 hp2 ok2 dp1 a1 a2 a3 => ?_⟩
            repeat walk_at "rd"
            rw [dn]
            refine hsp n hn _ _ _ _ ⟨p, x2, y2, m, tail, rfl, hp2, ok2, hm, fun v2 nd2 H3 x3 y3 K3 hp3 ok3 dp2 b1 b2 b3 => ?_⟩
            have dp1 := nd_keep K3 (nt_lst hp2) _ _ dp1
            repeat walk_at "rd"
            rw [dn]
            refine hsp n hn _ _ _ _ ⟨p, x3, y3, m, tail, rfl, hp3, ok3, hm, fun v3 nd3 H4 x4 y4 K4 hp4 ok4 dp3 c1 c2 c3 => ?_⟩
            have dp1 := nd_keep K4 (nt_lst hp3) _ _ dp1
            have dp2 := nd_keep K4 (nt_lst hp3) _ _ dp2
            repeat walk_at "rd"
            refine ⟨Rd.sz (by simp), fun t ht => ?_⟩
            have S5 := Rd.sNew (o := .tup [.str "if", v1, v2, v3]) ht
            refine q (.ref t) (.iff nd1 nd2 nd3) _ x4 y4 ((((K1.trans K2).trans K3).trans K4).trans (Keep.same S5)) (S5 _ _ hp4) ok4 ?_ ?_ ?_ ?_
            · exact .tup (.inl (.inl upd_same)) (.cons (.str _) (.cons (dp_mono S5 dp1) (.cons (dp_mono S5 dp2) (.cons (dp_mono S5 dp3) .nil))))
            · show (nd1.all m false && nd2.all m tail && nd3.all m tail) = true
              rw [a1, b1, c1]; rfl
            · show max nd1.dep (max nd2.dep nd3.dep) + 1 ≤ _; omega
            · show nd1.size + nd2.size + nd3.size + 1 ≤ _; omega
theorem ok_part (T : Txt K mg) (D : DefAt K mg "_law_part" sL_part ["_law_pool_here", "_law_method", "_law_deep", "_law_at_tail"]) (CL_take : CalG P w K mg base 1 "_law_take" spTake) (CL_leaf : CalG P w K mg base 3 "_law_leaf" (spLeaf K)) (CL_asking : CalG P w K mg base 3 "_law_asking" (spAsking K)) :
    ∀ n, CalG P w K mg base (n + 4) "_law_part" (spPartA K n)
  | 0 => part_step T D CL_take CL_leaf CL_asking (Nat.le_refl 3) (sp := fun _ _ _ _ => False) (by
      obtain ⟨f, fd, h1, h2, h3⟩ := D
      exact ⟨f, fd, _, ⟨fun _ _ _ _ h => h.elim, fun _ _ _ _ _ _ _ _ _ _ _ _ _ _ h => h.elim⟩, h1, h2.kp, h3⟩) fun i h => absurd h (Nat.not_lt_zero i)
  | n + 1 => part_step T D CL_take CL_leaf CL_asking (by omega) (ok_part T D CL_take CL_leaf CL_asking n) fun i h vs H Q E q => ⟨i, Nat.lt_succ_iff.mp h, q⟩
end
end Ab
namespace Ab
open PySem.Spec PyProof.Rows
local macro_rules | `(tactic| walk_at "rd") => `(tactic| (with_reducible first | refine Rd.sfld ?_ | refine Rd.dget ?_ | refine Rd.methR ?_ | refine Rd.propR ?_ | refine Rd.statR ?_ | refine Rd.getR ?_))
def mput (m : Str → List Str) (o : Str) (ws : List Str) : Str → List Str := fun x => if x = o then ws else m x
section
variable {K : PySem.W.Frag} {C : Addr} {H H1 : Hp} {b w f p : Addr} {g : Str → Addr} {m m' : Str → List Str} {fl fl' : Str → Bool} {o : Str} {ws : List Str} {c : Bool}
theorem Bk.setW (k : Bk K C H b w f g m fl) (s : Same H H1) (hp : SqT K H1 p (ws.map V.str)) : Bk K C (upd H1 w (.dK (tab ops fun y => .ref (gput g o p y)))) b w f (gput g o p) (mput m o ws) fl := by
  have k1 := k.mono s
  have nt := nt_dK k1.wd
  obtain ⟨dx, hb⟩ := k1.ins
  refine ⟨⟨dx, ?_⟩, upd_same, ?_, fun y hy => ?_, k.ne⟩
  · rw [upd_ne (fun e => by rw [e, k1.wd] at hb; cases hb)]; exact hb
  · rw [upd_ne (fun e => k.ne e.symm)]; exact k1.fd
  · unfold gput mput
    by_cases e : y = o
    · rw [if_pos e, if_pos e]; exact sqT_upd nt hp
    · rw [if_neg e, if_neg e]; exact sqT_upd nt (k1.tp y hy)
theorem Bk.setF (k : Bk K C H b w f g m fl) : Bk K C (upd H f (.dK (tab flagsW fun y => .bl (fput fl o c y)))) b w f g m (fput fl o c) := by
  have nt := nt_dK k.fd
  obtain ⟨dx, hb⟩ := k.ins
  refine ⟨⟨dx, ?_⟩, ?_, upd_same, fun y hy => sqT_upd nt (k.tp y hy), k.ne⟩
  · rw [upd_ne (fun e => by rw [e, k.fd] at hb; cases hb)]; exact hb
  · rw [upd_ne k.ne]; exact k.wd
theorem Bk.congr (k : Bk K C H b w f g m fl) (h : ∀ o ∈ ops, m o = m' o) (h' : ∀ x ∈ flagsW, fl x = fl' x) : Bk K C H b w f g m' fl' :=
  ⟨k.ins, k.wd, by rw [k.fd, tab_congr (fun x hx => by rw [h' x hx])], fun o ho => by rw [← h o ho]; exact k.tp o ho, k.ne⟩
end
theorem sixN (n : Nat) : HT.sIx n 0 none = 0 := by rfl
theorem cutS1 (l : List Str) : cutV (l.map V.str) none (some 1) = (l.take 1).map V.str := by
  cases l with
  | nil => rfl
  | cons a l => simp [cutV, HT.sIx]
theorem disp {trs : List (TE × TE)} {σ : L2.St} {H : Hp} {Q : VK} (k : ∀ p, H p = none → tPairs trs σ (upd H p (.dK [])) fun ps H2 => H2 p = some (.dK []) ∧ ∃ kvs : List (Key × V), ps = kvs.map (fun kv => (kV kv.1, kv.2)) ∧ kvs.length ≤ 15 ∧ Q (.ref p) (upd H2 p (.dK (mergeK [] kvs)))) : tDisp trs σ H Q := k
theorem pcons {tk tv : TE} {r : List (TE × TE)} {σ : L2.St} {H : Hp} {Q : List (V × V) → Hp → Prop} (k : tk σ H fun x H1 => tv σ H1 fun y H2 => tPairs r σ H2 fun ps H3 => Q ((x, y) :: ps) H3) : tPairs ((tk, tv) :: r) σ H Q := k
theorem pnil {σ : L2.St} {H : Hp} {Q : List (V × V) → Hp → Prop} (k : Q [] H) : tPairs [] σ H Q := k
theorem gtup {K : PySem.W.Frag} {a : Addr} {xs : List V} {n : Nat} {t : TGs} {σ : L2.St} {H : Hp} {Q : L2.St → Hp → Prop} (h : SqT K H a xs) (l : xs.length = n) (k : t xs σ H Q) : gTup K n t (.ref a) σ H Q := ⟨a, xs, rfl, h, l, k⟩
theorem gc {t : TG} {u : TGs} {v : V} {r : List V} {σ : L2.St} {H : Hp} {Q : L2.St → Hp → Prop} (k : t v σ H fun σ' H' => u r σ' H' Q) : gCons t u (v :: r) σ H Q := ⟨v, r, rfl, k⟩
theorem gn {σ : L2.St} {H : Hp} {Q : L2.St → Hp → Prop} (k : Q σ H) : gNil [] σ H Q := ⟨rfl, k⟩
theorem Same.fr {H H' : Hp} {p : Addr} (s : Same H H') (h : H' p = none) : H p = none := by
  cases z : H p with
  | none => rfl
  | some u => rw [s _ _ z] at h; cases h
/-- a dict of ways in the making -/
structure Mg (K : PySem.W.Frag) (H Hc : Hp) (d : Addr) (l : List Str) (g : Str → Addr) : Prop where
  s : Same H Hc
  f : H d = none
  d : Hc d = some (.dK (tab l fun o => .ref (g o)))
  t : ∀ o ∈ l, SqT K Hc (g o) ((menu o).map V.str)
theorem setM {K : PySem.W.Frag} {H Hc H1 : Hp} {d p : Addr} {l : List Str} {g : Str → Addr} {x : Str} {Q : Hp → Prop} (m : Mg K H Hc d l g) (s : Same Hc H1) (hp : SqT K H1 p ((menu x).map V.str)) (nx : x ∉ l) (z : l.length ≤ 100)
    (k : ∀ H2 g2, Mg K H H2 d (l ++ [x]) g2 → (∀ q xs, SqT K H1 q xs → SqT K H2 q xs) → Q H2) : rSetD (.ref d) (.str x) (.ref p) H1 Q := by
  have hd := s _ _ m.d
  refine ⟨d, _, rfl, .inl ⟨_, .inr x, hd, rfl, by rw [tab_len]; exact Rd.szl (by omega), rfl⟩, ?_⟩
  have nt := nt_dK hd
  refine k _ (gput g x p) ⟨Rd.sMut (m.s.trans s) m.f, m.f, ?_, fun o ho => ?_⟩ (fun q xs h => sqT_upd nt h)
  · rw [upd_same, putK_new _ _ _ nx]
    have e : tab l (fun o => V.ref (g o)) = tab l fun o => V.ref (gput g x p o) := tab_congr fun o ho => by
      unfold gput
      rw [if_neg (fun e => nx (by rw [← e]; exact ho))]
    rw [e, show (Sum.inr x, V.ref p) = ((Sum.inr x : Key), V.ref (gput g x p x)) by unfold gput; rw [if_pos rfl], tab_snoc l (fun o => V.ref (gput g x p o))]
  · refine sqT_upd nt ?_
    unfold gput
    by_cases e : o = x
    · rw [if_pos e, e]; exact hp
    · rw [if_neg e]
      rcases List.mem_append.mp ho with h | h
      · exact sqT_same s (m.t o h)
      · exact absurd (by simpa using h) e
theorem Keep.new {p q : Addr} {H H1 : Hp} {o : HO} (a : Keep p H H1) (h : H1 q = none) : Keep p H (upd H1 q o) := fun b u n e => by
  have := a b u n e
  rw [upd_ne (ne_of_none this h)]
  exact this
theorem Keep.mut {p q : Addr} {H H1 : Hp} {o : HO} (a : Keep p H H1) (h : H q = none) : Keep p H (upd H1 q o) := fun b u n e => by
  rw [upd_ne (ne_of_none e h)]
  exact a b u n e
section
variable {P : Program} {w : World} {K : PySem.W.Frag} {mg : Str → Option Value} {base : Heap}
abbrev sL_menus : Stmt := top 71
abbrev nL_menus : List Str := ["_law_two", "_law_found"]
theorem scL_menus : FnScope nL_menus [] (defScope sL_menus) := ⟨rfl, rfl, rfl, by decide +kernel, rfl, by decide +kernel, by decide +kernel⟩
def spMenus (K : PySem.W.Frag) : Sp := fun vs H Q _ => vs = [] ∧ ∀ d g H', Mg K H H' d ops g → Q (.ref d) H'
theorem ok_menus (D : DefAt K mg "_law_menus" sL_menus []) : CalG P w K mg base 1 "_law_menus" (spMenus K) := by
  refine D.by scL_menus (fun vs H Q E h => ?_) (fun f cd A hg outer s H vs Q E hr h => ?_)
  · rw [h.1]; rfl
  · obtain ⟨rfl, q⟩ := h
    refine ⟨_, (pss_cons (ps_set (i := 0) scL_menus.nd rfl (Or.inl rfl) (pe_tup (pa_cons pe_str (pa_cons pe_str pa_nil))))
  (pss_cons (ps_set (i := 1) scL_menus.nd rfl (Or.inl rfl) (pe_disp (pps_cons pe_str (pe_tup (pa_cons pe_str (pa_cons pe_str pa_nil))) (pps_cons pe_str (pe_tup (pa_cons pe_str pa_nil)) (pps_cons pe_str (pe_tup (pa_cons pe_str (pa_cons pe_str pa_nil))) pps_nil))) (by rfl) (by rfl) (by simp) (by decide)))
  (pss_cons (ps_asg (pe_tup (pa_cons pe_str (pa_cons pe_str pa_nil))) (pg_sub (pv 1) pe_str (set_dict (one_ hr.units))))
  (pss_cons (ps_asg (pe_tup (pa_cons (pe_tup (pa_cons pe_str pa_nil)) (pa_cons (pe_tup (pa_cons pe_str pa_nil)) pa_nil))) (pg_tup (by rfl) (pgs_cons (pg_sub (pv 1) pe_str (set_dict (one_ hr.units))) (pgs_cons (pg_sub (pv 1) pe_str (set_dict (one_ hr.units))) pgs_nil))))
  (pss_cons (ps_asg (pe_tup (pa_cons pe_str (pa_cons pe_str (pa_cons pe_str pa_nil)))) (pg_sub (pv 1) pe_str (set_dict (one_ hr.units))))
  (pss_cons (ps_asg (pv 0) (pg_sub (pv 1) pe_str (set_dict (one_ hr.units))))
  (pss_cons (ps_asg (pe_tup (pa_cons pe_str (pa_cons pe_str (pa_cons pe_str (pa_cons pe_str pa_nil))))) (pg_sub (pv 1) pe_str (set_dict (one_ hr.units))))
  (pss_cons (ps_asg (pe_tup (pa_cons (pv 0) (pa_cons (pv 0) pa_nil))) (pg_tup (by rfl) (pgs_cons (pg_sub (pv 1) pe_str (set_dict (one_ hr.units))) (pgs_cons (pg_sub (pv 1) pe_str (set_dict (one_ hr.units))) pgs_nil))))
  (pss_cons (ps_asg (pe_tup (pa_cons pe_str (pa_cons pe_str pa_nil))) (pg_sub (pv 1) pe_str (set_dict (one_ hr.units))))
  (pss_one (ps_ret (pv 1)))))))))))), ?_⟩
    repeat walk_at "rd"
    refine ⟨Rd.sz (by simp), fun two h0 => ?_⟩
    have s0 := Rd.sNew (o := .tup [.str "own", .str "turned"]) h0
    have t0 : SqT K (upd H two (.tup [.str "own", .str "turned"])) two ((menu "like").map V.str) := .inl (.inl upd_same)
    generalize upd H two (.tup [.str "own", .str "turned"]) = H0 at s0 t0 ⊢
    repeat walk_at "rd"
    refine disp fun d hd => ?_
    have fd := Same.fr s0 hd
    refine pcons ?_
    repeat walk_at "rd"
    refine ⟨Rd.sz (by simp), fun p1 h1 => ?_⟩
    refine pcons ?_
    repeat walk_at "rd"
    refine ⟨Rd.sz (by simp), fun p2 h2 => ?_⟩
    refine pcons ?_
    repeat walk_at "rd"
    refine ⟨Rd.sz (by simp), fun p3 h3 => pnil ⟨?_, [(.inr "truth", .ref p1), (.inr "size", .ref p2), (.inr "each", .ref p3)], rfl, by simp, ?_⟩⟩
    · exact Rd.sNew h3 _ _ (Rd.sNew h2 _ _ (Rd.sNew h1 _ _ upd_same))
    have d1 : p1 ≠ d := fun e => by rw [e, upd_same] at h1; cases h1
    have S1 := Rd.sNew (o := .tup [.str "truth", .str "length"]) h1
    have S2 := Rd.sNew (o := .tup [.str "length"]) h2
    have S3 := Rd.sNew (o := .tup [.str "walk", .str "item"]) h3
    have dd := S3 _ _ (S2 _ _ (S1 _ _ upd_same))
    have nt := nt_dK dd
    have M : ∃ g, Mg K H (upd (upd (upd (upd (upd H0 d (.dK [])) p1 (.tup [.str "truth", .str "length"])) p2 (.tup [.str "length"])) p3 (.tup [.str "walk", .str "item"])) d (.dK (mergeK [] [(.inr "truth", .ref p1), (.inr "size", .ref p2), (.inr "each", .ref p3)]))) d ["truth", "size", "each"] g := by
      refine ⟨fun o => if o = "truth" then p1 else if o = "size" then p2 else p3, ⟨?_, fd, by rw [upd_same]; rfl, fun o ho => sqT_upd nt ?_⟩⟩
      · exact Rd.sMut (((Rd.sMut s0 fd).trans S1).trans (S2.trans S3)) fd
      · simp only [List.mem_cons, List.not_mem_nil, or_false] at ho
        rcases ho with rfl | rfl | rfl
        · exact .inl (.inl (S3 _ _ (S2 _ _ upd_same)))
        · exact .inl (.inl (S3 _ _ upd_same))
        · exact .inl (.inl upd_same)
    have t1 := sqT_upd (z := .dK (mergeK [] [(.inr "truth", .ref p1), (.inr "size", .ref p2), (.inr "each", .ref p3)])) nt (sqT_same S3 (sqT_same S2 (sqT_same S1 (sqT_same (Rd.sNew hd) t0))))
    obtain ⟨g, M⟩ := M
    clear dd nt
    generalize upd (upd (upd (upd (upd H0 d (.dK [])) p1 (.tup [.str "truth", .str "length"])) p2 (.tup [.str "length"])) p3 (.tup [.str "walk", .str "item"])) d (.dK (mergeK [] [(.inr "truth", .ref p1), (.inr "size", .ref p2), (.inr "each", .ref p3)])) = H1 at M t1 ⊢
    clear S1 S2 S3 h1 h2 h3 hd d1
    repeat walk_at "rd"
    refine ⟨Rd.sz (by simp), fun p1 h1 => ?_⟩
    have S1 := Rd.sNew (o := .tup [.str "back", .str "count"]) h1
    repeat walk_at "rd"
    refine setM M S1 (.inl (.inl upd_same)) (by decide +kernel) (by decide) fun H2 g2 M2 k2 => ?_
    have t2 := k2 _ _ (sqT_same S1 t1)
    clear M t1 k2 S1 h1 H1 g p1
    repeat walk_at "rd"
    refine ⟨Rd.sz (by simp), fun p1 h1 => ?_⟩
    repeat walk_at "rd"
    refine ⟨Rd.sz (by simp), fun p2 h2 => ?_⟩
    repeat walk_at "rd"
    refine ⟨Rd.sz (by simp), fun p3 h3 => ?_⟩
    have S1 := Rd.sNew (o := .tup [.str "hash"]) h1
    have S2 := Rd.sNew (o := .tup [.str "call"]) h2
    have S3 := Rd.sNew (o := .tup [.ref p1, .ref p2]) h3
    refine gtup (.inl (.inl upd_same)) rfl (gc ?_)
    repeat walk_at "rd"
    refine setM M2 (S1.trans (S2.trans S3)) (.inl (.inl (S3 _ _ (S2 _ _ upd_same)))) (by decide +kernel) (by decide) fun H3 g3 M3 k3 => gc ?_
    repeat walk_at "rd"
    refine setM M3 (Same.refl _) (k3 _ _ (.inl (.inl (S3 _ _ upd_same)))) (by decide +kernel) (by decide) fun H4 g4 M4 k4 => gn ?_
    have t4 := k4 _ _ (k3 _ _ (sqT_same (S1.trans (S2.trans S3)) t2))
    clear M2 M3 k3 k4 S1 S2 S3 h1 h2 h3 t2
    repeat walk_at "rd"
    refine ⟨Rd.sz (by simp), fun p4 h4 => ?_⟩
    have S1 := Rd.sNew (o := .tup [.str "has", .str "walk", .str "item"]) h4
    repeat walk_at "rd"
    refine setM M4 S1 (.inl (.inl upd_same)) (by decide +kernel) (by decide) fun H5 g5 M5 k5 => ?_
    have t5 := k5 _ _ (sqT_same S1 t4)
    clear M4 k5 S1 h4 t4
    repeat walk_at "rd"
    refine setM M5 (Same.refl _) t5 (by decide +kernel) (by decide) fun H6 g6 M6 k6 => ?_
    have t6 := k6 _ _ t5
    clear M5 k6 t5
    repeat walk_at "rd"
    refine ⟨Rd.sz (by simp), fun p5 h5 => ?_⟩
    have S1 := Rd.sNew (o := .tup [.str "own", .str "like", .str "turned", .str "turned_like"]) h5
    repeat walk_at "rd"
    refine setM M6 S1 (.inl (.inl upd_same)) (by decide +kernel) (by decide) fun H7 g7 M7 k7 => ?_
    have t7 := k7 _ _ (sqT_same S1 t6)
    clear M6 k7 S1 h5 t6
    repeat walk_at "rd"
    refine ⟨Rd.sz (by simp), fun p6 h6 => ?_⟩
    have S1 := Rd.sNew (o := .tup [.ref two, .ref two]) h6
    refine gtup (.inl (.inl upd_same)) rfl (gc ?_)
    repeat walk_at "rd"
    refine setM M7 S1 (sqT_same S1 t7) (by decide +kernel) (by decide) fun H8 g8 M8 k8 => gc ?_
    repeat walk_at "rd"
    refine setM M8 (Same.refl _) (k8 _ _ (sqT_same S1 t7)) (by decide +kernel) (by decide) fun H9 g9 M9 k9 => gn ?_
    clear M7 M8 k8 k9 S1 h6 t7
    repeat walk_at "rd"
    refine ⟨Rd.sz (by simp), fun p7 h7 => ?_⟩
    have S1 := Rd.sNew (o := .tup [.str "grow", .str "plus"]) h7
    repeat walk_at "rd"
    refine setM M9 S1 (.inl (.inl upd_same)) (by decide +kernel) (by decide) fun H10 g10 M10 k10 => ?_
    repeat walk_at "rd"
    exact q d g10 H10 M10
end
end Ab
namespace Fz
open PySem.Spec PyProof.Rows
/-- a container that e has just made, locked from here on -/
def tFrz (t : TE) : TE := fun τ G Q => t τ G fun x G1 => ∃ d u, x = .ref d ∧ G1 d = some u ∧ Mut (some u) ∧ ∀ od, Q x (upd G1 d (.frz od u))
theorem pe_frz {X : Cx} {e : Expr} {t : TE} (h : PE X e t) : PE X e (tFrz t) := by
  refine ⟨fun pins s τ G Q I q => thn (h.run pins s τ G _ I q) fun u s1 ⟨x, G1, I1, r, d, o, ex, hd, mu, k⟩ => ?_⟩
  obtain ⟨od, I2⟩ := I1.lock hd mu
  exact ⟨x, _, I2, r, k od⟩
theorem frz {t : TE} {τ : L2.St} {G : Hp} {Q : VK} (k : t τ G fun x G1 => ∃ d u, x = .ref d ∧ G1 d = some u ∧ Mut (some u) ∧ ∀ od, Q x (upd G1 d (.frz od u))) : tFrz t τ G Q := k
end Fz
namespace Ab
open PySem.Spec PyProof.Rows
/-- a for over the keys of a dict, which is locked meanwhile -/
theorem forK {j : Nat} {td : TE} {tb : TS} {D : Ends} {σ : L2.St} {H : Hp} {d : Addr} {l : List Str} {F : Str → V} (Pv : Obj → Nat → L2.St → Hp → Prop) (htd : ∀ (od : Obj) (R : V → Hp → Prop), R (.ref d) (upd H d (.frz od (.dK (tab l F)))) → td σ (upd H d (.frz od (.dK (tab l F)))) R) (hd : H d = some (.dK (tab l F)))
    (h0 : ∀ od, Pv od 0 σ (upd H d (.frz od (.dK (tab l F))))) (hG : ∀ od i σ1 H1, Pv od i σ1 H1 → H1 d = some (.frz od (.dK (tab l F))))
    (hs : ∀ od i (hi : i < l.length) σ1 H1 rt bk, Pv od i σ1 H1 → tb { nx := Pv od (i + 1), rt := rt, bk := bk, ct := Pv od (i + 1) } (σ1.set j (some (.str l[i]))) H1)
    (he : ∀ od σ1 H1, Pv od l.length σ1 H1 → D.nx σ1 (upd H1 d (.dK (tab l F)))) : tLock (tFor (iKeys td) (gName j) tb) D σ H := by
  refine ⟨d, _, hd, True.intro, fun od => htd od _ ⟨d, od, rfl, .inl ⟨_, upd_same, ?_⟩⟩⟩
  refine for_it (walk_keys (d := d) (o := od) (kvs := tab l F)) (Pv od) (h0 od) (fun i σ1 H1 _ p => hG od i σ1 H1 p) ?_ ?_
  · rintro i x σ1 H1 H1' hi p ⟨rfl, k, v, hk, rfl⟩
    rw [tab_len] at hi
    have ek : k = .inr l[i] := by
      have : (tab l F)[i]? = some (.inr l[i], F l[i]) := by simp [tab, hi]
      rw [this] at hk
      cases hk
      rfl
    subst ek
    exact hs od i hi σ1 _ _ _ p
  · intro σ1 H1 p
    rw [tab_len] at p
    exact ⟨hG od _ σ1 H1 p, he od σ1 H1 p⟩
/-! ### the law's own books -/
structure Own (K : PySem.W.Frag) (H : Hp) (o w f : Addr) (g : Str → Addr) (m : Str → List Str) (fl : Str → Bool) : Prop where
  od : H o = some (.dK [(.inr "ways", .ref w), (.inr "flags", .ref f)])
  wd : H w = some (.dK (tab ops fun y => .ref (g y)))
  fd : H f = some (.lst (flagsW.map fun x => .bl (fl x)))
  tp : ∀ y ∈ ops, SqT K H (g y) ((m y).map V.str)
  ne : o ≠ w
theorem Own.mono {K : PySem.W.Frag} {H H' : Hp} {o w f : Addr} {g : Str → Addr} {m : Str → List Str} {fl : Str → Bool} (k : Own K H o w f g m fl) (s : Same H H') : Own K H' o w f g m fl :=
  ⟨s _ _ k.od, s _ _ k.wd, s _ _ k.fd, fun y hy => sqT_same s (k.tp y hy), k.ne⟩
theorem Own.ways {K : PySem.W.Frag} {H : Hp} {o w f : Addr} {g : Str → Addr} {m : Str → List Str} {fl : Str → Bool} (k : Own K H o w f g m fl) : DGet H o (.str "ways") (some (.ref w)) := .inl ⟨_, .inr "ways", .inl k.od, rfl, rfl⟩
theorem Own.flags {K : PySem.W.Frag} {H : Hp} {o w f : Addr} {g : Str → Addr} {m : Str → List Str} {fl : Str → Bool} (k : Own K H o w f g m fl) : DGet H o (.str "flags") (some (.ref f)) := .inl ⟨_, .inr "flags", .inl k.od, rfl, rfl⟩
def NewOwn (K : PySem.W.Frag) (m : Str → List Str) (fl : Str → Bool) (Q : VK) (H : Hp) : Prop := ∀ o w f g H', Same H H' → H o = none → H w = none → H f = none → Own K H' o w f g m fl → Q (.ref o) H'
/-- the law's own book within a dict of more keys -/
structure OwB (K : PySem.W.Frag) (H : Hp) (o w f : Addr) (g : Str → Addr) (m : Str → List Str) (fl : Str → Bool) : Prop where
  od : ∃ kvs, H o = some (.dK kvs) ∧ valV kvs (.inr "ways") = some (.ref w) ∧ valV kvs (.inr "flags") = some (.ref f)
  wd : H w = some (.dK (tab ops fun y => .ref (g y)))
  fd : H f = some (.lst (flagsW.map fun x => .bl (fl x)))
  tp : ∀ y ∈ ops, SqT K H (g y) ((m y).map V.str)
  ne : o ≠ w
theorem OwB.mono {K : PySem.W.Frag} {H H' : Hp} {o w f : Addr} {g : Str → Addr} {m : Str → List Str} {fl : Str → Bool} (k : OwB K H o w f g m fl) (s : Same H H') : OwB K H' o w f g m fl :=
  ⟨let ⟨kvs, h, a⟩ := k.od; ⟨kvs, s _ _ h, a⟩, s _ _ k.wd, s _ _ k.fd, fun y hy => sqT_same s (k.tp y hy), k.ne⟩
theorem OwB.ways {K : PySem.W.Frag} {H : Hp} {o w f : Addr} {g : Str → Addr} {m : Str → List Str} {fl : Str → Bool} (k : OwB K H o w f g m fl) : DGet H o (.str "ways") (some (.ref w)) := let ⟨_, h, a, _⟩ := k.od; .inl ⟨_, .inr "ways", .inl h, rfl, a.symm⟩
theorem OwB.flags {K : PySem.W.Frag} {H : Hp} {o w f : Addr} {g : Str → Addr} {m : Str → List Str} {fl : Str → Bool} (k : OwB K H o w f g m fl) : DGet H o (.str "flags") (some (.ref f)) := let ⟨_, h, _, a⟩ := k.od; .inl ⟨_, .inr "flags", .inl h, rfl, a.symm⟩
/-- all but what stands at A stays -/
def Chg (A : List Addr) (H H' : Hp) : Prop := ∀ a u, H a = some u → a ∉ A → H' a = some u
section
variable {A B : List Addr} {H H1 H2 : Hp} {a p : Addr} {o : HO}
theorem Chg.refl : Chg A H H := fun _ _ e _ => e
theorem Chg.same (c : Chg A H H1) (s : Same H1 H2) : Chg A H H2 := fun b u e n => s _ _ (c b u e n)
theorem Chg.upd (c : Chg A H H1) (m : a ∈ A) : Chg A H (L2.upd H1 a o) := fun b u e n => by
  rw [upd_ne (fun z => n (by rw [z]; exact m))]
  exact c b u e n
theorem Chg.keep (c : Chg A H H1) (k : Keep p H1 H2) (m : p ∈ A) : Chg A H H2 := fun b u e n => k b u (fun z => n (by rw [z]; exact m)) (c b u e n)
theorem Chg.sub (c : Chg A H H1) (h : ∀ x ∈ A, x ∈ B) : Chg B H H1 := fun b u e n => c b u e fun z => n (h b z)
theorem chg1 : Chg [a] H (L2.upd H a o) := Chg.refl.upd List.mem_cons_self
theorem Keep.chg (k : Keep p H H1) : Chg [p] H H1 := fun b u e n => k b u (by simpa using n) e
end
section
variable {K : PySem.W.Frag} {C : Addr} {A : List Addr} {H H' : Hp} {b w f o q : Addr} {g : Str → Addr} {m : Str → List Str} {fl : Str → Bool} {xs : List V}
theorem sqT_chg (c : Chg A H H') (nt : ∀ a ∈ A, NoTup H a) (h : SqT K H q xs) : SqT K H' q xs := by
  rcases h with (h | ⟨o, h⟩) | h
  · exact .inl (.inl (c _ _ h fun m => (nt _ m _ h).1 _ rfl))
  · exact .inl (.inr ⟨o, c _ _ h fun m => (nt _ m _ h).2 _ _ rfl⟩)
  · exact .inr h
theorem Bk.chg (k : Bk K C H b w f g m fl) (c : Chg A H H') (nt : ∀ a ∈ A, NoTup H a) (hb : b ∉ A) (hw : w ∉ A) (hf : f ∉ A) : Bk K C H' b w f g m fl :=
  ⟨let ⟨dx, h⟩ := k.ins; ⟨dx, c _ _ h hb⟩, c _ _ k.wd hw, c _ _ k.fd hf, fun y hy => sqT_chg c nt (k.tp y hy), k.ne⟩
theorem Own.chg (k : Own K H o w f g m fl) (c : Chg A H H') (nt : ∀ a ∈ A, NoTup H a) (ho : o ∉ A) (hw : w ∉ A) (hf : f ∉ A) : Own K H' o w f g m fl :=
  ⟨c _ _ k.od ho, c _ _ k.wd hw, c _ _ k.fd hf, fun y hy => sqT_chg c nt (k.tp y hy), k.ne⟩
theorem Own.setW {t y : Addr} {x : Str} {ws : List Str} (k : Own K H o w f g m fl) (s : SqT K H t (ws.map V.str)) : Own K (upd H w (.dK (tab ops fun y => .ref (gput g x t y)))) o w f (gput g x t) (mput m x ws) fl := by
  have nt := nt_dK k.wd
  refine ⟨by rw [upd_ne k.ne]; exact k.od, upd_same, ?_, fun y hy => ?_, k.ne⟩
  · rw [upd_ne (fun e => by have := k.fd; rw [e, k.wd] at this; cases this)]; exact k.fd
  · unfold gput mput
    by_cases e : y = x
    · rw [if_pos e, if_pos e]; exact sqT_upd nt s
    · rw [if_neg e, if_neg e]; exact sqT_upd nt (k.tp y hy)
theorem Own.setF {x : Str} {c : Bool} (k : Own K H o w f g m fl) : Own K (upd H f (.lst (flagsW.map fun y => .bl (fput fl x c y)))) o w f g m (fput fl x c) := by
  have nt := nt_lst k.fd
  refine ⟨?_, ?_, upd_same, fun y hy => sqT_upd nt (k.tp y hy), k.ne⟩
  · rw [upd_ne (fun e => by have := k.od; rw [e, k.fd] at this; cases this)]; exact k.od
  · rw [upd_ne (fun e => by have := k.wd; rw [e, k.fd] at this; cases this)]; exact k.wd
end
theorem flag_set (fl : Str → Bool) (c : Bool) : ∀ i (hi : i < flagsW.length), (flagsW.map fun x => V.bl (fl x)).set i (.bl c) = flagsW.map fun x => .bl (fput fl flagsW[i] c x) := by
  intro i hi
  have e : i = 0 ∨ i = 1 ∨ i = 2 := by have : flagsW.length = 3 := rfl; omega
  rcases e with rfl | rfl | rfl <;> rfl
theorem mem_menu_len : ∀ o ∈ ops, (menu o).Nodup ∧ (menu o).length ≤ 20 := by decide +kernel
theorem ways_ok {o : Str} {ws : List Str} (nd : ws.Nodup) (h : ∀ z ∈ ws, z ∈ menu o) : waysOk o (ws.map V.str) = true := by
  have e : ∀ l : List Str, strsOf (l.map V.str) = l := fun l => by
    induction l with
    | nil => rfl
    | cons a l ih => show a :: strsOf (l.map V.str) = _; rw [ih]
  rw [waysOk, e, decide_eq_true nd, Bool.and_true, List.all_eq_true]
  intro x hx
  obtain ⟨z, hz, rfl⟩ := List.mem_map.mp hx
  exact decide_eq_true (h z hz)
theorem len_sub {ws l : List Str} (nd : ws.Nodup) (h : ∀ z ∈ ws, z ∈ l) : ws.length ≤ l.length := by
  induction ws generalizing l with
  | nil => simp
  | cons a ws ih =>
    rw [List.nodup_cons] at nd
    have ha := h a List.mem_cons_self
    have := ih (l := l.erase a) nd.2 fun z hz => by
      refine (List.mem_erase_of_ne (fun e => nd.1 (by rw [← e]; exact hz))).mpr (h z (List.mem_cons_of_mem _ hz))
    rw [List.length_erase_of_mem ha] at this
    have : 0 < l.length := List.length_pos_of_mem ha
    rw [List.length_cons]
    omega

theorem Rd.revT {K : PySem.W.Frag} {te : TE} {σ : L2.St} {H : Hp} {Q : VK} (k : te σ H fun x H1 => ∃ a xs, x = .ref a ∧ SqT K H1 a xs ∧ ∀ p, H1 p = none → Q (.ref p) (upd H1 p (.tup xs.reverse))) : Tr.tRevT K te σ H Q := k
end Ab
namespace Ab
open PySem.Spec PyProof.Rows
local macro_rules | `(tactic| walk_at "rd") => `(tactic| (with_reducible first | refine Rd.sfld ?_ | refine Rd.dget ?_ | refine Rd.methR ?_ | refine Rd.propR ?_ | refine Rd.getR ?_ | refine Rd.revT ?_))
/-- ways of a menu, none of them twice -/
def PM (m : Str → List Str) : Prop := ∀ o ∈ ops, (m o).Nodup ∧ ∀ z ∈ m o, z ∈ menu o
theorem Keep.fr {p a : Addr} {H H1 : Hp} {u : HO} (k : Keep p H H1) (hp : H1 p = some u) (h : H1 a = none) : H a = none := by
  cases z : H a with
  | none => rfl
  | some v =>
    have n : a ≠ p := fun e => by rw [e, hp] at h; cases h
    rw [k _ _ n z] at h
    cases h
theorem nt_frz {H : Hp} {a : Addr} {od : Obj} {kvs : List (Key × V)} (h : H a = some (.frz od (.dK kvs))) : NoTup H a := fun u e => by
  rw [h] at e; cases e; exact ⟨fun _ => by simp, fun _ _ => by simp⟩
theorem cutGA {K : PySem.W.Frag} {a : Addr} {xs : List V} {lo hi : Option Int} {H : Hp} {Q : VK} (h : SqT K H a xs) (k : ∀ t H', Same H H' → SqT K H' t (cutV xs lo hi) → Q (.ref t) H') : rSlA K (.ref a) lo hi H Q := by
  refine ⟨a, xs, rfl, h, fun c => k a H (Same.refl _) ?_, fun _ p hp => k p _ (Rd.sNew hp) (.inl (.inl upd_same))⟩
  have e : cutV xs lo hi = xs := by
    unfold cutV
    rw [c.1, c.2]
    simp
  rw [e]
  exact h
theorem cut_from1 (l : List Str) : cutV (l.map V.str) (some 1) none = (l.drop 1).map V.str := by
  cases l with
  | nil => rfl
  | cons a l =>
    unfold cutV
    have e1 : HT.sIx ((a :: l).map V.str).length 0 (some 1) = 1 := by simp [HT.sIx]
    have e2 : HT.sIx ((a :: l).map V.str).length ((a :: l).map V.str).length none = l.length + 1 := by simp [HT.sIx]
    rw [e1, e2]
    simp
    rw [List.take_of_length_le (by simp)]
structure BO (K : PySem.W.Frag) (H H1 : Hp) (p fd md : Addr) (od : Obj) (gm : Str → Addr) (l : List Str) (g : Str → Addr) (m : Str → List Str) (x y : Int) : Prop where
  kp : Keep p H H1
  hp : H1 p = some (.lst [.int x, .int y])
  ok : PoolOk x y
  md : H1 md = some (.frz od (.dK (tab ops fun o => .ref (gm o))))
  mt : ∀ o ∈ ops, SqT K H1 (gm o) ((menu o).map V.str)
  df : H1 fd = some (.dK (tab l fun o => .ref (g o)))
  ft : ∀ o ∈ l, SqT K H1 (g o) ((m o).map V.str)
  pm : ∀ o ∈ l, (m o).Nodup ∧ ∀ z ∈ m o, z ∈ menu o
  ff : H fd = none
section
variable {K : PySem.W.Frag} {H H1 H2 : Hp} {p fd md q : Addr} {od : Obj} {gm g : Str → Addr} {l : List Str} {m : Str → List Str} {x y x' y' : Int} {o : Str} {ws : List Str} {Q : Hp → Prop}
theorem BO.same (k : BO K H H1 p fd md od gm l g m x y) (s : Same H1 H2) : BO K H H2 p fd md od gm l g m x y :=
  ⟨k.kp.trans (Keep.same s), s _ _ k.hp, k.ok, s _ _ k.md, fun o ho => sqT_same s (k.mt o ho), s _ _ k.df, fun o ho => sqT_same s (k.ft o ho), k.pm, k.ff⟩
theorem BO.pool (k : BO K H H1 p fd md od gm l g m x y) (ok : PoolOk x' y') : BO K H (upd H1 p (.lst [.int x', .int y'])) p fd md od gm l g m x' y' :=
  ⟨k.kp.put, upd_same, ok, by rw [upd_ne (fun e => by have := k.md; rw [e, k.hp] at this; cases this)]; exact k.md, fun o ho => sqT_upd (nt_lst k.hp) (k.mt o ho),
    by rw [upd_ne (fun e => by have := k.df; rw [e, k.hp] at this; cases this)]; exact k.df, fun o ho => sqT_upd (nt_lst k.hp) (k.ft o ho), k.pm, k.ff⟩
theorem BO.put {l2 : List Str} (k : BO K H H1 p fd md od gm l g m x y) (hq : SqT K H1 q (ws.map V.str)) (hw : ws.Nodup ∧ ∀ z ∈ ws, z ∈ menu o) (hl : ∀ z ∈ l2, z = o ∨ z ∈ l) : BO K H (upd H1 fd (.dK (tab l2 fun z => .ref (gput g o q z)))) p fd md od gm l2 (gput g o q) (mput m o ws) x y := by
  have nt := nt_dK k.df
  refine ⟨k.kp.mut k.ff, ?_, k.ok, ?_, fun o ho => sqT_upd nt (k.mt o ho), upd_same, fun z hz => sqT_upd nt ?_, fun z hz => ?_, k.ff⟩
  · rw [upd_ne (fun e => by have := k.hp; rw [e, k.df] at this; cases this)]; exact k.hp
  · rw [upd_ne (fun e => by have := k.md; rw [e, k.df] at this; cases this)]; exact k.md
  · unfold gput mput
    by_cases e : z = o
    · rw [if_pos e, if_pos e]; exact hq
    · rw [if_neg e, if_neg e]; exact k.ft z ((hl z hz).resolve_left e)
  · unfold mput
    by_cases e : z = o
    · rw [if_pos e, e]; exact hw
    · rw [if_neg e]; exact k.pm z ((hl z hz).resolve_left e)
theorem BO.setN (k : BO K H H1 p fd md od gm l g m x y) (hq : SqT K H1 q (ws.map V.str)) (hw : ws.Nodup ∧ ∀ z ∈ ws, z ∈ menu o) (nx : o ∉ l) (z : l.length ≤ 100)
    (r : ∀ H2 g2 m2, BO K H H2 p fd md od gm (l ++ [o]) g2 m2 x y → (∀ b xs, SqT K H1 b xs → SqT K H2 b xs) → Q H2) : rSetD (.ref fd) (.str o) (.ref q) H1 Q := by
  refine ⟨fd, _, rfl, .inl ⟨_, .inr o, k.df, rfl, by rw [tab_len]; exact Rd.szl (by omega), rfl⟩, ?_⟩
  have e : putK (tab l fun o => V.ref (g o)) (.inr o) (.ref q) = tab (l ++ [o]) fun z => .ref (gput g o q z) := by
    rw [putK_new _ _ _ nx]
    have e : tab l (fun o => V.ref (g o)) = tab l fun z => V.ref (gput g o q z) := tab_congr fun z hz => by
      unfold gput
      rw [if_neg (fun e => nx (by rw [← e]; exact hz))]
    rw [e, show (Sum.inr o, V.ref q) = ((Sum.inr o : Key), V.ref (gput g o q o)) by unfold gput; rw [if_pos rfl], tab_snoc l (fun z => V.ref (gput g o q z))]
  rw [e]
  exact r _ _ _ (k.put hq hw fun z hz => (List.mem_append.mp hz).elim .inr fun h => .inl (by simpa using h)) fun b xs h => sqT_upd (nt_dK k.df) h
theorem BO.setO (k : BO K H H1 p fd md od gm l g m x y) (hq : SqT K H1 q (ws.map V.str)) (hw : ws.Nodup ∧ ∀ z ∈ ws, z ∈ menu o) (nx : o ∈ l) (z : l.length ≤ 100)
    (r : ∀ H2 g2 m2, BO K H H2 p fd md od gm l g2 m2 x y → Q H2) : rSetD (.ref fd) (.str o) (.ref q) H1 Q := by
  refine ⟨fd, _, rfl, .inl ⟨_, .inr o, k.df, rfl, by rw [tab_len]; exact Rd.szl (by omega), rfl⟩, ?_⟩
  rw [put_tab _ _ _ nx, gput_tab]
  exact r _ _ _ (k.put hq hw fun z hz => .inr hz)
end
theorem ops_len : ops.length = 12 := rfl
theorem take_new {i : Nat} (hi : i < ops.length) : ops[i] ∉ ops.take i := fun m => by
  obtain ⟨k, hk, e⟩ := List.mem_iff_getElem.mp m
  rw [List.getElem_take] at e
  rw [List.length_take] at hk
  have := (List.getElem_inj ops_nd).mp e
  omega
theorem take_snoc {i : Nat} (hi : i < ops.length) : ops.take i ++ [ops[i]] = ops.take (i + 1) := by
  rw [List.take_add_one, List.getElem?_eq_getElem hi]
  rfl
section
variable {P : Program} {w : World} {K : PySem.W.Frag} {mg : Str → Option Value} {base : Heap}
abbrev sL_book_of : Stmt := top 72
abbrev nL_book_of : List Str := ["_law_pool_here", "_law_found", "_law_menus_here", "_law_operation", "_law_menu", "_law_way", "_law_turn"]
theorem scL_book_of : FnScope nL_book_of ["_law_pool_here"] (defScope sL_book_of) := ⟨rfl, rfl, rfl, by decide +kernel, rfl, by decide +kernel, by decide +kernel⟩
def spBookOf (K : PySem.W.Frag) : Sp := fun vs H Q _ => ∃ (p : Addr) (x y : Int), vs = [.ref p] ∧ H p = some (.lst [.int x, .int y]) ∧ PoolOk x y ∧
  ∀ o w f g m fl H' x' y', Keep p H H' → H' p = some (.lst [.int x', .int y']) → PoolOk x' y' → H o = none → H w = none → H f = none → Own K H' o w f g m fl → PM m → Q (.ref o) H'
theorem ok_book_of (T : Txt K mg) (D : DefAt K mg "_law_book_of" sL_book_of ["_law_pool_here"]) (CL_menus : CalG P w K mg base 1 "_law_menus" (spMenus K)) (CL_take : CalG P w K mg base 1 "_law_take" spTake) : CalG P w K mg base 2 "_law_book_of" (spBookOf K) := by
  refine D.by scL_book_of (fun vs H Q E h => ?_) (fun f cd A hg outer s H vs Q E hr h => ?_)
  · obtain ⟨_, _, _, rfl, _⟩ := h
    rfl
  · obtain ⟨p, x, y, rfl, hp, ok, q⟩ := h
    refine ⟨_, (pss_cons (ps_set (i := 1) scL_book_of.nd rfl (Or.inl rfl) pe_dnewK)
  (pss_cons (ps_set (i := 2) scL_book_of.nd rfl (Or.inl rfl) (pe_cG0 CL_menus hg hr (by decide)))
  (pss_cons (ps_lock (ps_for (wi := iKeys _) PassesOwn.never rfl (pi_keys (pv 2)) (pg_name (i := 3) scL_book_of.nd rfl (Or.inl rfl))
  (pss_cons (ps_set (i := 4) scL_book_of.nd rfl (Or.inl rfl) (pe_dget (one_ hr.units) (pv 2) (pv 3) (fun _ _ => rfl)))
  (pss_cons (ps_set (i := 5) scL_book_of.nd rfl (Or.inl rfl) (pe_cG CL_take hg hr (by decide) (pa_cons (pv 0) (pa_cons pe_int pa_nil))))
  (pss_cons (ps_asg (pv 4) (pg_sub (pv 1) (pv 3) (set_dict (one_ hr.units))))
  (pss_one (ps_if (pt_cmpR op_eq (pv 5) pe_int (nomark _))
  (pss_one (ps_asg (Tr.pe_revT (pv 4)) (pg_sub (pv 1) (pv 3) (set_dict (one_ hr.units)))))
  (pss_one (ps_if (pt_cmpR op_eq (pv 5) pe_int (nomark _))
  (pss_one (ps_asg (pe_slice (r := rSlA K) sl_tupA (pv 4) po_none (po_some pe_int)) (pg_sub (pv 1) (pv 3) (set_dict (one_ hr.units)))))
  (pss_one (ps_if (pt_cmpR op_eq (pv 5) pe_int (nomark _))
  (pss_one (ps_asg (pe_slice (r := rSlA K) sl_tupA (pv 4) (po_some pe_int) po_none) (pg_sub (pv 1) (pv 3) (set_dict (one_ hr.units)))))
  pss_nil)))))))))))
  (pss_one (ps_ret (pe_disp (pps_cons pe_str (pv 1) (pps_cons pe_str (pe_lc (own := [("_law_turn", 6)]) (g := gName 6) (by rfl) scL_book_of.nd (pi_range1 (by rfl) T.range (pa_cons pe_int pa_nil)) (blkOk_by (N := nL_book_of) (sc := defScope sL_book_of) (by decide +kernel)) (fun _ _ _ _ _ => pg_name (i := 6) scL_book_of.nd rfl (Or.inl rfl)) (fun _ _ _ _ _ => pts_nil) (fun _ _ _ _ _ => (pe_cmpR op_gt (pe_cG CL_take hg hr (by decide) (pa_cons (pv 0) (pa_cons pe_int pa_nil))) pe_int (nomark _)))) pps_nil)) (by rfl) (by rfl) (by simp) (by decide))))))), ?_⟩
    repeat walk_at "rd"
    intro fd hfd
    have s0 := Rd.sNew (o := .dK []) hfd
    have f0 : upd H fd (.dK []) fd = some (.dK (tab [] fun o => .ref fd)) := upd_same
    generalize upd H fd (.dK []) = H0 at s0 f0 ⊢
    repeat walk_at "rd"
    refine ⟨rfl, fun md gm H1 mg1 => ?_⟩
    have s1 := s0.trans mg1.s
    have hmd : H md = none := Same.fr s0 mg1.f
    repeat walk_at "rd"
    refine forK (d := md) (l := ops) (F := fun o => .ref (gm o)) (fun od i σ1 H2 => ∃ z3 z4 z5 g m x y, σ1 = [some (.ref p), some (.ref fd), some (.ref md), z3, z4, z5, none] ∧ BO K H H2 p fd md od gm (ops.take i) g m x y) (fun od R k => Rd.var rfl k) mg1.d
      (fun od => ?_) (fun od i σ1 H2 h => ?_) (fun od i hi σ1 H2 rt bk h => ?_) (fun od σ1 H2 h => ?_)
    · have nt := nt_dK mg1.d
      have ne : fd ≠ md := fun e => by have := mg1.f; rw [← e, f0] at this; cases this
      refine ⟨none, none, none, fun _ => fd, fun _ => [], x, y, rfl, ⟨(Keep.same s1).mut hmd, ?_, ok, upd_same, fun o ho => sqT_upd nt (mg1.t o ho), ?_, fun o ho => by simp at ho, fun o ho => by simp at ho, hfd⟩⟩
      · rw [upd_ne (fun e => by rw [e, hmd] at hp; cases hp)]; exact s1 _ _ hp
      · rw [upd_ne ne]; exact mg1.s _ _ f0
    · obtain ⟨_, _, _, _, _, _, _, _, k⟩ := h
      exact k.md
    · obtain ⟨z3, z4, z5, g, m, x1, y1, rfl, k⟩ := h
      have ho : ops[i] ∈ ops := List.getElem_mem hi
      have nx := take_new hi
      have zl : (ops.take i).length ≤ 100 := by rw [List.length_take, ops_len]; omega
      have zl2 : (ops.take i ++ [ops[i]]).length ≤ 100 := by rw [List.length_append, List.length_take, ops_len]; simp; omega
      obtain ⟨nd, _⟩ := mem_menu_len _ ho
      have hn := take_snoc hi
      generalize ops[i] = o at ho nx nd hn zl2 ⊢
      repeat walk_at "rd"
      refine ⟨md, _, rfl, .inl ⟨_, .inr o, .inr ⟨od, k.md⟩, rfl, by rw [val_tab _ _ ho]⟩, ?_⟩
      repeat walk_at "rd"
      refine ⟨p, x1, y1, 8, rfl, k.hp, k.ok, by decide, by decide, fun r x2 y2 ok2 r0 r1 => ?_⟩
      have k2 := k.pool ok2
      generalize upd H2 p (.lst [.int x2, .int y2]) = H3 at k2 ⊢
      repeat walk_at "rd"
      refine k2.setN (k2.mt o ho) ⟨nd, fun z h => h⟩ nx zl fun H4 g4 m4 k4 t4 => ?_
      have mt4 := k4.mt o ho
      have mem : o ∈ ops.take i ++ [o] := List.mem_append_right _ List.mem_cons_self
      have done : ∀ H5 g5 m5, BO K H H5 p fd md od gm (ops.take i ++ [o]) g5 m5 x2 y2 → ∃ z3 z4 z5 g m x y, [some (V.ref p), some (.ref fd), some (.ref md), some (.str o), some (.ref (gm o)), some (.int r), none] = [some (.ref p), some (.ref fd), some (.ref md), z3, z4, z5, none] ∧ BO K H H5 p fd md od gm (ops.take (i + 1)) g m x y :=
        fun H5 g5 m5 k5 => ⟨_, _, _, g5, m5, x2, y2, rfl, by rw [← hn]; exact k5⟩
      repeat walk_at "rd"
      refine Rd.dec (fun c => ?_) (fun c => ?_)
      · repeat walk_at "rd"
        refine ⟨gm o, _, rfl, mt4, fun t ht => ?_⟩
        have k5 := k4.same (Rd.sNew (o := .tup ((menu o).map V.str).reverse) ht)
        repeat walk_at "rd"
        refine k5.setO (ws := (menu o).reverse) (.inl (.inl (by rw [upd_same, List.map_reverse]))) ⟨(List.reverse_perm _).nodup_iff.mpr nd, fun z h => List.mem_reverse.mp h⟩ mem zl2 fun H6 g6 m6 k6 => ?_
        repeat walk_at "rd"
        exact done _ _ _ k6
      · repeat walk_at "rd"
        refine Rd.dec (fun c => ?_) (fun c => ?_)
        · repeat walk_at "rd"
          refine cutGA mt4 fun t H5 s5 ht => ?_
          rw [cutS1] at ht
          repeat walk_at "rd"
          refine (k4.same s5).setO ht ⟨nd.sublist (List.take_sublist _ _), fun z h => List.mem_of_mem_take h⟩ mem zl2 fun H6 g6 m6 k6 => ?_
          repeat walk_at "rd"
          exact done _ _ _ k6
        · repeat walk_at "rd"
          refine Rd.dec (fun c => ?_) (fun c => ?_)
          · repeat walk_at "rd"
            refine cutGA mt4 fun t H5 s5 ht => ?_
            rw [cut_from1] at ht
            repeat walk_at "rd"
            refine (k4.same s5).setO ht ⟨nd.sublist (List.drop_sublist _ _), fun z h => List.mem_of_mem_drop h⟩ mem zl2 fun H6 g6 m6 k6 => ?_
            repeat walk_at "rd"
            exact done _ _ _ k6
          · repeat walk_at "rd"
            exact done _ _ _ k4
    · obtain ⟨z3, z4, z5, g, m, x1, y1, rfl, k⟩ := h
      rw [List.take_length] at k
      have nt := nt_frz k.md
      have kp := k.kp.mut (o := .dK (tab ops fun o => .ref (gm o))) hmd
      have hp2 : upd H2 md (.dK (tab ops fun o => .ref (gm o))) p = some (.lst [.int x1, .int y1]) := by
        rw [upd_ne (fun e => by rw [e, hmd] at hp; cases hp)]; exact k.hp
      have fd2 : upd H2 md (.dK (tab ops fun o => .ref (gm o))) fd = some (.dK (tab ops fun o => .ref (g o))) := by
        rw [upd_ne (fun e => by have := k.df; rw [e, k.md] at this; cases this)]; exact k.df
      have ft2 : ∀ o ∈ ops, SqT K (upd H2 md (.dK (tab ops fun o => .ref (gm o)))) (g o) ((m o).map V.str) := fun o ho => sqT_upd nt (k.ft o ho)
      have pm := k.pm
      have ok1 := k.ok
      clear k nt mg1
      generalize upd H2 md (.dK (tab ops fun o => .ref (gm o))) = H3 at kp hp2 fd2 ft2 ⊢
      repeat walk_at "rd"
      refine disp fun o0 ho0 => pcons ?_
      have no : H o0 = none := kp.fr hp2 ho0
      have s3 := Rd.sNew (o := .dK []) ho0
      have op : o0 ≠ p := fun e => by rw [e, hp2] at ho0; cases ho0
      have of_ : fd ≠ o0 := fun e => by rw [← e, fd2] at ho0; cases ho0
      repeat walk_at "rd"
      refine pcons ?_
      repeat walk_at "rd"
      refine Rd.rng (by decide) (by decide) ?_
      refine Rd.goR (fun D i acc H4 => ∃ (cs : List Bool) (x y : Int), acc = cs.map V.bl ∧ PoolOk x y ∧ H4 p = some (.lst [.int x, .int y]) ∧ Keep p (upd H3 o0 (.dK [])) H4 ∧ p ≠ D) (fun D hD => ?_) (fun _ => rfl) (by decide) (fun D i acc H4 hD hi ha hd pv R k => ?_) (fun D acc H4 hD ha hd pv => ?_)
      · exact ⟨[], x1, y1, rfl, ok1, by rw [upd_ne (fun e => by rw [← e, s3 _ _ hp2] at hD; cases hD)]; exact s3 _ _ hp2, Keep.same (Rd.sNew hD), fun e => by rw [← e, s3 _ _ hp2] at hD; cases hD⟩
      · obtain ⟨cs, x2, y2, rfl, ok2, hp4, k4, nD⟩ := pv
        repeat walk_at "rd"
        refine ⟨p, x2, y2, 3, rfl, hp4, ok2, by decide, by decide, fun r x3 y3 ok3 r0 r1 => ?_⟩
        repeat walk_at "rd"
        refine k _ _ (by rw [upd_ne (fun e => nD e.symm)]; exact hd) ⟨cs ++ [_], x3, y3, by rw [List.map_append]; rfl, ok3, by rw [upd_ne nD, upd_same], ?_, nD⟩
        exact k4.put.mut hD
      · obtain ⟨cs, x2, y2, rfl, ok2, hp4, k4, nD⟩ := pv
        rw [List.length_map] at ha
        obtain ⟨c0, c1, c2, rfl⟩ : ∃ c0 c1 c2, cs = [c0, c1, c2] := by
          match cs, ha with
          | [a, b, c], _ => exact ⟨a, b, c, rfl⟩
        have hD3 : H3 D = none := Same.fr s3 hD
        have oD : D ≠ o0 := fun e => by rw [e, upd_same] at hD; cases hD
        have o4 : H4 o0 = some (.dK []) := k4 _ _ op upd_same
        have fd4 := k4 _ _ (fun e => by rw [e, hp2] at fd2; cases fd2) (s3 _ _ fd2)
        refine pnil ⟨o4, [(.inr "ways", .ref fd), (.inr "flags", .ref D)], rfl, by simp, ?_⟩
        repeat walk_at "rd"
        have hm : mergeK [] [((.inr "ways" : Key), V.ref fd), (.inr "flags", .ref D)] = [(.inr "ways", .ref fd), (.inr "flags", .ref D)] := by rfl
        rw [hm]
        refine q o0 fd D g m (fun z => if z = "bars_hash" then c0 else if z = "ends_same" then c1 else c2) _ x2 y2 ?_ (by rw [upd_ne (fun e => op e.symm)]; exact hp4) ok2 no ?_ (kp.fr hp2 hD3) ⟨upd_same, ?_, ?_, fun z hz => ?_, fun e => of_ e.symm⟩ pm
        · exact ((kp.trans (Keep.same s3)).trans k4).mut no
        · exact hfd
        · rw [upd_ne of_]; exact fd4
        · rw [upd_ne oD]; exact hd
        · exact sqT_upd (nt_dK o4) (sqT_keep k4 (nt_lst (s3 _ _ hp2)) (sqT_same s3 (ft2 z hz)))
end
end Ab
namespace Ab
open PySem.Spec PyProof.Rows
local macro_rules | `(tactic| walk_at "rd") => `(tactic| (with_reducible first | refine Rd.sfld ?_ | refine Rd.dget ?_ | refine Rd.methR ?_ | refine Rd.propR ?_ | refine Rd.getR ?_ | refine Rd.revT ?_))
theorem Chg.mut {A : List Addr} {H H1 : Hp} {a : Addr} {o : HO} (c : Chg A H H1) (h : H a = none) : Chg A H (L2.upd H1 a o) := fun b u e n => by
  rw [upd_ne (ne_of_none e h)]
  exact c b u e n
theorem Chg.back {H H1 : Hp} {a : Addr} {o : HO} (c : Chg [a] H H1) (h : H a = some o) : Same H (L2.upd H1 a o) := fun b u e => by
  by_cases z : b = a
  · rw [z] at e ⊢
    rw [upd_same, ← h, e]
  · rw [upd_ne z]
    exact c b u e (by simpa using z)
theorem flags3 {fl : Str → Bool} {x : Str} (h : x ∈ flagsW) : fput (fput (fput (fun _ => true) "bars_hash" (fl "bars_hash")) "ends_same" (fl "ends_same")) "ends_true" (fl "ends_true") x = fl x := by
  simp only [flagsW, List.mem_cons, List.not_mem_nil, or_false] at h
  rcases h with rfl | rfl | rfl <;> rfl
section
variable {P : Program} {w : World} {K : PySem.W.Frag} {mg : Str → Option Value} {base : Heap}
abbrev sL_book : Stmt := top 81
abbrev nL_book : List Str := ["_law_own_here", "_law_book_here", "_law_operation"]
theorem scL_book : FnScope nL_book ["_law_own_here"] (defScope sL_book) := ⟨rfl, rfl, rfl, by decide +kernel, rfl, by decide +kernel, by decide +kernel⟩
def spLBook (K : PySem.W.Frag) (C : Addr) : Sp := fun vs H Q _ => ∃ (o w f : Addr) (g : Str → Addr) (m : Str → List Str) (fl : Str → Bool), vs = [.ref o] ∧ OwB K H o w f g m fl ∧ PM m ∧
  ∀ b w' f' g' H', Same H H' → H b = none → H w' = none → H f' = none → Bk K C H' b w' f' g' m fl → Q (.ref b) H'
theorem ok_lbook (T : Txt K mg) {C_Book CN CW CF pO pM pF : Addr} {gM : Str → Addr} (K_Book : BF K mg C_Book) (t : Tb K w mg pO pM pF gM) (I_Book : Ob.MkCal P w K mg base CX0 C_Book 1 "Book" (spBkInit C_Book gM)) (U_Book : Ob.GetCal P w K mg base (L2.CX P w) C_Book 4 "__setitem__" (spBkSet K C_Book CN CW))
    (M_Book_set_flag : Ob.MCal P w K mg base (L2.CX P w) C_Book 4 "set_flag" (spSetFlag K C_Book CN CF)) (D : DefAt K mg "_law_book" sL_book ["_law_own_here"]) : CalG P w K mg base 5 "_law_book" (spLBook K C_Book) := by
  refine D.by scL_book (fun vs H Q E h => ?_) (fun f cd A hg outer s H vs Q E hr h => ?_)
  · obtain ⟨_, _, _, _, _, _, rfl, _⟩ := h
    rfl
  · obtain ⟨o, wo, fo, g, m, fl, rfl, ow, pm, q⟩ := h
    refine ⟨_, (pss_cons (ps_set (i := 1) scL_book.nd rfl (Or.inl rfl) (Ob.make0 I_Book hg hr (by decide) pass0))
  (pss_cons (ps_lock (ps_for (wi := iKeys _) PassesOwn.never rfl (pi_keys (pe_dget (one_ hr.units) (pv 0) pe_str (fun _ _ => rfl))) (pg_name (i := 2) scL_book.nd rfl (Or.inl rfl))
  (pss_one (ps_asg (pe_dget (one_ hr.units) (pe_dget (one_ hr.units) (pv 0) pe_str (fun _ _ => rfl)) (pv 2) (fun _ _ => rfl)) (pg_sub (pv 1) (pv 2) (Ob.setO U_Book hg hr (by decide) Ob.px0))))))
  (pss_cons (ps_expr (Ob.meth (pv 1) K_Book.cl M_Book_set_flag hg hr (by decide) Ob.px0 (pa_cons pe_str (pa_cons (pe_ix (r := rIxL K) ix_list (pe_dget (one_ hr.units) (pv 0) pe_str (fun _ _ => rfl)) pe_int (fun _ _ => rfl)) pa_nil))))
  (pss_cons (ps_expr (Ob.meth (pv 1) K_Book.cl M_Book_set_flag hg hr (by decide) Ob.px0 (pa_cons pe_str (pa_cons (pe_ix (r := rIxL K) ix_list (pe_dget (one_ hr.units) (pv 0) pe_str (fun _ _ => rfl)) pe_int (fun _ _ => rfl)) pa_nil))))
  (pss_cons (ps_expr (Ob.meth (pv 1) K_Book.cl M_Book_set_flag hg hr (by decide) Ob.px0 (pa_cons pe_str (pa_cons (pe_ix (r := rIxL K) ix_list (pe_dget (one_ hr.units) (pv 0) pe_str (fun _ _ => rfl)) pe_int (fun _ _ => rfl)) pa_nil))))
  (pss_one (ps_ret (pv 1)))))))), ?_⟩
    repeat walk_at "rd"
    refine mkBk (fun o ho => (t.tm o ho).2) fun b wb fb H1 s1 nb nw nf bk => ?_
    have ow1 := ow.mono s1
    have od1 : o ≠ wo := ow.ne
    have ntw := nt_dK ow1.wd
    repeat walk_at "rd"
    refine forK (d := wo) (l := ops) (F := fun y => .ref (g y)) (fun od i σ1 H2 => ∃ z, σ1 = [some (.ref o), some (.ref b), z] ∧ Chg [wo] H H2 ∧ H2 wo = some (.frz od (.dK (tab ops fun y => .ref (g y)))) ∧ ∃ gb mb, Bk K C_Book H2 b wb fb gb mb (fun _ => true) ∧ ∀ y ∈ ops.take i, mb y = m y)
      (fun od R k => ?_) ow1.wd (fun od => ?_) (fun od i σ1 H2 h => ?_) (fun od i hi σ1 H2 rt bk' h => ?_) (fun od σ1 H2 h => ?_)
    · repeat walk_at "rd"
      obtain ⟨kv, hkv, hw, _⟩ := ow1.od
      exact ⟨o, _, rfl, .inl ⟨kv, .inr "ways", .inl (by rw [upd_ne od1]; exact hkv), rfl, hw.symm⟩, k⟩
    · refine ⟨none, rfl, (Chg.refl.same s1).upd List.mem_cons_self, upd_same, gM, menu, bk.chg chg1 (fun a ha => ?_) ?_ ?_ ?_, fun y hy => by simp at hy⟩
      · rw [List.mem_singleton.mp ha]; exact ntw
      · exact fun e => by have := ow.wd; rw [← List.mem_singleton.mp e, nb] at this; cases this
      · exact fun e => by have := ow.wd; rw [← List.mem_singleton.mp e, nw] at this; cases this
      · exact fun e => by have := ow.wd; rw [← List.mem_singleton.mp e, nf] at this; cases this
    · obtain ⟨_, _, _, h, _⟩ := h
      exact h
    · obtain ⟨z, rfl, cg, hw, gb, mb, bk2, hm⟩ := h
      have ho : ops[i] ∈ ops := List.getElem_mem hi
      have nxt : ops.take (i + 1) = ops.take i ++ [ops[i]] := (take_snoc hi).symm
      obtain ⟨kv, hkv, hkw, _⟩ := ow.od
      have ho2 := cg _ _ hkv (by simpa using od1)
      have tp2 : SqT K H2 (g ops[i]) ((m ops[i]).map V.str) := sqT_chg cg (fun a ha => by rw [List.mem_singleton.mp ha]; exact nt_dK ow.wd) (ow.tp _ ho)
      generalize ops[i] = x at ho nxt tp2 ⊢
      obtain ⟨dx, hb⟩ := bk2.ins
      have wo_ok := ways_ok (pm x ho).1 (pm x ho).2
      have wl := len_sub (pm x ho).1 (pm x ho).2
      have ml := (mem_menu_len x ho).2
      repeat walk_at "rd"
      refine ⟨o, _, rfl, .inl ⟨_, .inr "ways", .inl ho2, rfl, hkw.symm⟩, ?_⟩
      repeat walk_at "rd"
      refine ⟨wo, _, rfl, .inl ⟨_, .inr x, .inr ⟨od, hw⟩, rfl, by rw [val_tab _ _ ho]⟩, ?_⟩
      repeat walk_at "rd"
      refine ⟨b, dx, _, rfl, hb, b, wb, fb, gb, mb, _, .str x, .ref (g x), "str", rfl, bk2, kd_str _, fun c => ?_, fun o' eo _ => .inr ⟨g x, (m x).map V.str, rfl, tp2, ?_, fun y hy H' _ => ?_, fun c => ?_, fun _ H4 s4 => ?_⟩⟩
      · rw [show isIn (.str x) ops = true from decide_eq_true ho] at c; cases c
      · rw [List.length_map]; omega
      · obtain ⟨z, _, rfl⟩ := List.mem_map.mp hy
        exact ⟨_, kd_str z⟩
      · rw [← V.str.inj eo, wo_ok] at c; cases c
      · obtain rfl := V.str.inj eo
        have ne : wo ≠ wb := fun e => by have := ow.wd; rw [e, nw] at this; cases this
        refine ⟨_, rfl, (cg.same s4).mut nw, by rw [upd_ne ne]; exact s4 _ _ hw, _, _, bk2.setW s4 (sqT_same s4 tp2), fun y hy => ?_⟩
        rw [nxt] at hy
        unfold mput
        by_cases e : y = x
        · rw [if_pos e, e]
        · rw [if_neg e]
          exact hm y ((List.mem_append.mp hy).resolve_right fun h => e (by simpa using h))
    · obtain ⟨z, rfl, cg, hw, gb, mb, bk2, hm⟩ := h
      rw [List.take_length] at hm
      have s2 := cg.back ow.wd
      have bk3 := bk2.chg (H' := upd H2 wo (.dK (tab ops fun y => .ref (g y)))) (chg1 (a := wo)) (fun a ha => by rw [List.mem_singleton.mp ha]; exact nt_frz hw)
        (fun e => by have := ow.wd; rw [← List.mem_singleton.mp e, nb] at this; cases this) (fun e => by have := ow.wd; rw [← List.mem_singleton.mp e, nw] at this; cases this) (fun e => by have := ow.wd; rw [← List.mem_singleton.mp e, nf] at this; cases this)
      clear bk2 hw cg
      generalize upd H2 wo (.dK (tab ops fun y => .ref (g y))) = H3 at s2 bk3 ⊢
      have ow3 := ow.mono s2
      obtain ⟨dx, hb⟩ := bk3.ins
      have step : ∀ {H4 : Hp} {fl4 : Str → Bool} {x : Str} {c : Bool} {Q4 : VK}, Bk K C_Book H4 b wb fb gb mb fl4 → x ∈ flagsW → Q4 .non (upd H4 fb (.dK (tab flagsW fun y => .bl (fput fl4 x c y)))) → spSetFlag K C_Book CN CF [.ref b, .str x, .bl c] H4 Q4 E0 := fun {H4 fl4 x c Q4} k hx r =>
        ⟨b, wb, fb, gb, mb, fl4, .str x, .bl c, "str", "bool", rfl, k, kd_str _, kd_bl _, fun z => (by rw [show isIn (.str x) flagsW = true from decide_eq_true hx] at z; cases z), fun o' eo _ => ⟨fun z => (by cases z), fun c' ec => by cases ec; cases eo; exact r⟩⟩
      repeat walk_at "rd"
      refine ⟨b, dx, _, rfl, hb, rfl, ?_⟩
      repeat walk_at "rd"
      refine ⟨o, _, rfl, ow3.flags, ?_⟩
      repeat walk_at "rd"
      refine Rd.ixL (SqL.of ow3.fd) (Rd.atN (by decide) rfl) ?_
      repeat walk_at "rd"
      refine step bk3 (by decide) ?_
      have s4 : Same H (upd H3 fb (.dK (tab flagsW fun y => .bl (fput (fun _ => true) "bars_hash" (fl "bars_hash") y)))) := Rd.sMut s2 nf
      have bk4 := bk3.setF (o := "bars_hash") (c := fl "bars_hash")
      generalize upd H3 fb (.dK (tab flagsW fun y => .bl (fput (fun _ => true) "bars_hash" (fl "bars_hash") y))) = H4 at s4 bk4 ⊢
      have ow4 := ow.mono s4
      obtain ⟨dx4, hb4⟩ := bk4.ins
      repeat walk_at "rd"
      refine ⟨b, dx4, _, rfl, hb4, rfl, ?_⟩
      repeat walk_at "rd"
      refine ⟨o, _, rfl, ow4.flags, ?_⟩
      repeat walk_at "rd"
      refine Rd.ixL (SqL.of ow4.fd) (Rd.atN (by decide) rfl) ?_
      repeat walk_at "rd"
      refine step bk4 (by decide) ?_
      have bk5 := bk4.setF (o := "ends_same") (c := fl "ends_same")
      have s5 := Rd.sMut (o := .dK (tab flagsW fun y => .bl (fput (fput (fun _ => true) "bars_hash" (fl "bars_hash")) "ends_same" (fl "ends_same") y))) s4 nf
      generalize upd H4 fb _ = H5 at s5 bk5 ⊢
      have ow5 := ow.mono s5
      obtain ⟨dx5, hb5⟩ := bk5.ins
      repeat walk_at "rd"
      refine ⟨b, dx5, _, rfl, hb5, rfl, ?_⟩
      repeat walk_at "rd"
      refine ⟨o, _, rfl, ow5.flags, ?_⟩
      repeat walk_at "rd"
      refine Rd.ixL (SqL.of ow5.fd) (Rd.atN (by decide) rfl) ?_
      repeat walk_at "rd"
      refine step bk5 (by decide) ?_
      have bk6 := bk5.setF (o := "ends_true") (c := fl "ends_true")
      have s6 := Rd.sMut (o := .dK (tab flagsW fun y => .bl (fput (fput (fput (fun _ => true) "bars_hash" (fl "bars_hash")) "ends_same" (fl "ends_same")) "ends_true" (fl "ends_true") y))) s5 nf
      repeat walk_at "rd"
      exact q b wb fb gb _ s6 nb nw nf (bk6.congr hm fun x hx => flags3 hx)
end
end Ab
namespace W6
open L2 TL
theorem tl_app (a b : Str) : tl (a ++ b) = tl a ++ tl b := by show (a.cps ++ b.cps).toList = _; simp
theorem tl_cut (a : Str) (lo hi : Option Int) : tl (cutS a lo hi) = (a.cps.toList.drop (HT.sIx a.length 0 lo)).take (HT.sIx a.length a.length hi - HT.sIx a.length 0 lo) := by
  show (cutS a lo hi).cps.toList = _
  simp [cutS]
theorem tl_cut_sub {a : Str} {lo hi : Option Int} {c : Nat} (h : c ∈ tl (cutS a lo hi)) : c ∈ tl a := by
  rw [tl_cut] at h
  exact List.mem_of_mem_drop (List.mem_of_mem_take h)
theorem cut_two (a : Str) (i : Int) : (cutS a none (some i)).length + (cutS a (some i) none).length ≤ a.length := by
  rw [← tl_len, ← tl_len, tl_cut, tl_cut, List.length_take, List.length_take, List.length_drop, List.length_drop]
  have e1 : HT.sIx a.length 0 none = 0 := rfl
  have e2 : HT.sIx a.length a.length none = a.length := rfl
  have e3 : HT.sIx a.length a.length (some i) = HT.sIx a.length 0 (some i) := rfl
  have e4 : a.cps.toList.length = a.length := tl_len a
  have e5 : HT.sIx a.length 0 (some i) ≤ a.length := HT.sIx_le _ _ (Nat.zero_le _) _
  rw [e1, e2, e3, e4]
  omega
theorem tl_join0 (cs : List Str) : tl (Txt.join "" cs) = (cs.map tl).flatten := by
  rw [join_eq, tl_join]
  exact joinL_nil _
end W6
namespace Ab
open M6 W6 TL PySem.Spec PyProof.Rows
def letW : List Nat := [117, 118, 119, 120, 121, 122, 115, 116]
/-- the i-th of the law's words -/
structure GoodW (i : Nat) (w : Str) : Prop where
  len : w.length ≤ 4
  lo : ∀ c ∈ tl w, 97 ≤ c ∧ c ≤ 122
  mark : (tl w).filter (fun c => decide (100 ≤ c)) = [letW.getD i 0]
theorem low_fact : ∀ c ∈ List.range' 97 26, Unicode.isAlpha c = true ∧ Unicode.isLower c = true ∧ Unicode.isUpper c = false ∧ Unicode.isTitle c = false := by decide +kernel
theorem low_in {c : Nat} (h : 97 ≤ c ∧ c ≤ 122) : c ∈ List.range' 97 26 := by rw [List.mem_range'_1]; omega
theorem wordOk_of {w : Str} (l : w.length ≤ 6) (ne : tl w ≠ []) (lo : ∀ c ∈ tl w, 97 ≤ c ∧ c ≤ 122) : wordOk w = true := by
  have al : ∀ {p : Nat → Bool}, (∀ c ∈ tl w, p c = true) → w.cps.all p = true := fun {p} h => by rw [← Array.all_toList, List.all_eq_true]; exact h
  have pos : w.length > 0 := by rw [← tl_len]; exact List.length_pos_iff.mpr ne
  unfold wordOk
  rw [decide_eq_true l]
  have a1 : Txt.isascii w = true := al fun c hc => decide_eq_true (by have := lo c hc; omega)
  have a2 : Txt.isalpha w = true := by
    show (decide (w.length > 0) && _) = true
    rw [decide_eq_true pos]
    exact al fun c hc => (low_fact c (low_in (lo c hc))).1
  have a3 : Txt.islower w = true := by
    show (w.cps.any Unicode.isLower && !w.cps.any fun c => Unicode.isUpper c || Unicode.isTitle c) = true
    have y : w.cps.any Unicode.isLower = true := by
      obtain ⟨c, r, e⟩ := List.exists_cons_of_ne_nil ne
      have hc : c ∈ tl w := by rw [e]; exact List.mem_cons_self
      rw [← Array.any_toList, List.any_eq_true]
      exact ⟨c, hc, (low_fact c (low_in (lo c hc))).2.1⟩
    have n : (w.cps.any fun c => Unicode.isUpper c || Unicode.isTitle c) = false := by
      rw [← Array.any_toList, List.any_eq_false]
      intro c hc
      obtain ⟨_, _, h1, h2⟩ := low_fact c (low_in (lo c hc))
      simp [h1, h2]
    rw [y, n]
    rfl
  rw [a1, a2, a3]
  rfl
theorem GoodW.ok {i : Nat} {w : Str} (g : GoodW i w) : wordOk w = true := wordOk_of (Nat.le_trans g.len (by decide)) (fun e => by have := g.mark; rw [e] at this; cases this) g.lo
theorem shaped_low {w : Str} (l : w.length ≤ 100) (lo : ∀ c ∈ tl w, 97 ≤ c ∧ c ≤ 122) : SeqAt.shaped (.str w) = true := by
  refine str_sh ?_
  show w.cps.all _ = true
  rw [← Array.all_toList, List.all_eq_true]
  exact fun c hc => decide_eq_true (by have := lo c hc; omega)
/-- words, each good in its place -/
def GoodWs (ws : List Str) : Prop := ∀ i w, ws[i]? = some w → GoodW i w
theorem letW_inj : ∀ i < 8, ∀ j < 8, letW.getD i 0 = letW.getD j 0 → i = j := by decide
theorem GoodWs.nodup {ws : List Str} (g : GoodWs ws) (n : ws.length ≤ 8) : ws.Nodup := by
  refine List.pairwise_iff_getElem.mpr fun i j hi hj ij e => ?_
  have g1 := (g i _ (List.getElem?_eq_getElem hi)).mark
  have g2 := (g j _ (List.getElem?_eq_getElem hj)).mark
  rw [← e, g1] at g2
  have := letW_inj i (by omega) j (by omega) (List.cons.inj g2).1
  omega
theorem sign1 {i : Int} (h0 : 0 ≤ i) (h1 : i < 3) : ∃ c, atI (Str.cps "abc").toList i = some c ∧ W 1 ⟨#[c]⟩ ∧ 97 ≤ c ∧ c < 100 := by
  have : i = 0 ∨ i = 1 ∨ i = 2 := by omega
  rcases this with rfl | rfl | rfl <;> exact ⟨_, rfl, ⟨by decide, by decide⟩, by decide, by decide⟩
theorem sign8 {i : Nat} (h : i < 8) : atI (Str.cps "uvwxyzst").toList (i : Int) = some (letW.getD i 0) ∧ W 1 ⟨#[letW.getD i 0]⟩ ∧ 100 ≤ letW.getD i 0 ∧ letW.getD i 0 ≤ 122 := by
  have : i = 0 ∨ i = 1 ∨ i = 2 ∨ i = 3 ∨ i = 4 ∨ i = 5 ∨ i = 6 ∨ i = 7 := by omega
  rcases this with rfl | rfl | rfl | rfl | rfl | rfl | rfl | rfl <;> exact ⟨by decide +kernel, ⟨by decide, by decide⟩, by decide, by decide⟩
section
variable {P : Program} {w : World} {K : PySem.W.Frag} {mg : Str → Option Value} {base : Heap}
abbrev sL_words : Stmt := top 70
abbrev nL_words : List Str := ["_law_pool_here", "_law_many", "_law_found", "_law_k", "_law_body", "_law_turn", "_law_at"]
theorem scL_words : FnScope nL_words ["_law_pool_here", "_law_many"] (defScope sL_words) := ⟨rfl, rfl, rfl, by decide +kernel, rfl, by decide +kernel, by decide +kernel⟩
def spWords : Sp := fun vs H Q _ => ∃ (p : Addr) (x y : Int) (n : Nat), vs = [.ref p, .int (n : Int)] ∧ n ≤ 8 ∧ H p = some (.lst [.int x, .int y]) ∧ PoolOk x y ∧
  ∀ (l : Addr) (ws : List Str) (x' y' : Int) (H' : Hp), H l = none → H' l = some (.lst (ws.map V.str)) → ws.length = n → GoodWs ws → PoolOk x' y' → H' p = some (.lst [.int x', .int y']) → Keep p H H' → Q (.ref l) H'
theorem w_abc : W 3 "abc" := ⟨by decide +kernel, by decide +kernel⟩
theorem ok_words (T : Txt K mg) (D : DefAt K mg "_law_words" sL_words ["_law_pool_here", "_law_many"]) (CL_take : CalG P w K mg base 1 "_law_take" spTake) : CalG P w K mg base 2 "_law_words" spWords := by
  refine D.by scL_words (fun vs H Q E h => ?_) (fun f cd A hg outer s H vs Q E hr h => ?_)
  · obtain ⟨a, x, y, n, rfl, _⟩ := h
    rfl
  · obtain ⟨p, x, y, n, rfl, n8, hp, ok, q⟩ := h
    refine ⟨_, (pss_cons (ps_set (i := 2) scL_words.nd rfl (Or.inl rfl) (pe_lst pa_nil))
  (pss_cons (ps_for PassesOwn.never rfl (pi_range1 (by rfl) T.range (pa_cons (pv 1) pa_nil)) (pg_name (i := 3) scL_words.nd rfl (Or.inl rfl))
  (pss_cons (ps_set (i := 4) scL_words.nd rfl (Or.inl rfl) (pe_join pe_str (pe_lc (own := [("_law_turn", 5)]) (g := gName 5) (by rfl) scL_words.nd (pi_range1 (by rfl) T.range (pa_cons (pe_cG CL_take hg hr (by decide) (pa_cons (pv 0) (pa_cons pe_int pa_nil))) pa_nil)) (blkOk_by (N := nL_words) (sc := defScope sL_words) (by decide +kernel)) (fun _ _ _ _ _ => pg_name (i := 5) scL_words.nd rfl (Or.inl rfl)) (fun _ _ _ _ _ => pts_nil) (fun _ _ _ _ _ => (pe_ix (r := rIxS) ix_str pe_str (pe_cG CL_take hg hr (by decide) (pa_cons (pv 0) (pa_cons pe_int pa_nil))) (fun _ _ => rfl))))))
  (pss_cons (ps_set (i := 6) scL_words.nd rfl (Or.inl rfl) (pe_cG CL_take hg hr (by decide) (pa_cons (pv 0) (pa_cons (pe_op op_add (pe_callB call_len_str (by rfl) T.len PySem.boot_len (pa_cons (pv 4) pa_nil)) pe_int) pa_nil))))
  (pss_one (ps_expr (pe_bm PySem.F.plainAttrs_list PySem.F.slot_list_append PySem.F.type_list_append mt_append (pv 2) (pa_cons (pe_op op_add_str (pe_op op_add_str (pe_slice (r := rSlS) sl_str (pv 4) po_none (po_some (pv 6))) (pe_ix (r := rIxS) ix_str pe_str (pv 3) (fun _ _ => rfl))) (pe_slice (r := rSlS) sl_str (pv 4) (po_some (pv 6)) po_none)) pa_nil)))))))
  (pss_one (ps_ret (pv 2))))), ?_⟩
    repeat walk_at "rd"
    refine ⟨Rd.sz (by simp), fun L hL => ?_⟩
    have npL : p ≠ L := ne_of_none hp hL
    repeat walk_at "rd"
    refine Rd.rng (by omega) (by omega) ?_
    refine Rd.forGo (fun i σ H1 => ∃ (v3 v4 v6 : Option V) (ws : List Str) (x y : Int), σ = [some (.ref p), some (.int (n : Int)), some (.ref L), v3, v4, none, v6] ∧ H1 L = some (.lst (ws.map V.str)) ∧ ws.length = i ∧ GoodWs ws ∧ PoolOk x y ∧
      H1 p = some (.lst [.int x, .int y]) ∧ Keep p H H1) ⟨none, none, none, [], x, y, rfl, upd_same, rfl, fun i w h => (by simp at h), ok, by rw [upd_ne npL]; exact hp, (Keep.same (Same.refl H)).new hL⟩ ?_ ?_
    · rintro i σ H1 hi ⟨v3, v4, v6, ws, x, y, rfl, hl, hn, hw, ok, hp1, kp⟩
      repeat walk_at "rd"
      refine ⟨p, x, y, 4, rfl, hp1, ok, by decide, by decide, fun r x2 y2 ok2 r0 r1 => ?_⟩
      repeat walk_at "rd"
      refine Rd.rng r0 (by omega) ?_
      refine Rd.goR (fun D i acc H2 => ∃ (cs : List Str) (x y : Int), acc = cs.map V.str ∧ (∀ c ∈ cs, W 1 c) ∧ (∀ c ∈ cs, ∀ z ∈ tl c, 97 ≤ z ∧ z < 100) ∧ PoolOk x y ∧ H2 p = some (.lst [.int x, .int y]) ∧ Keep p H H2 ∧ H2 L = some (.lst (ws.map V.str)) ∧ p ≠ D ∧ H D = none)
        ?_ (fun _ => rfl) (by omega) ?_ ?_
      · intro D hD
        have npD : p ≠ D := fun e => by rw [← e, upd_same] at hD; cases hD
        have hD1 : H1 D = none := by rw [upd_ne npD.symm] at hD; exact hD
        have hDH : H D = none := Keep.fr kp hp1 hD1
        have nLD : L ≠ D := ne_of_none hl hD1
        exact ⟨[], x2, y2, rfl, by simp, by simp, ok2, by rw [upd_ne npD, upd_same], kp.put.mut hDH, by rw [upd_ne nLD, upd_ne npL.symm]; exact hl, npD, hDH⟩
      · rintro D j acc H2 hD0 hj ha hd ⟨cs, x3, y3, rfl, hc, hc3, ok3, hp3, kp3, hl3, npD, hDH⟩ R k
        repeat walk_at "rd"
        refine ⟨p, x3, y3, 3, rfl, hp3, ok3, by decide, by decide, fun r x4 y4 ok4 r0 r1 => ?_⟩
        obtain ⟨c, hc1, wc, z1, z2⟩ := sign1 r0 r1
        refine Rd.ixS (by decide +kernel) hc1 (k _ _ ?_ ?_)
        · rw [upd_ne npD.symm]; exact hd
        · refine ⟨cs ++ [⟨#[c]⟩], x4, y4, by rw [List.map_append]; rfl, ?_, ?_, ok4, by rw [upd_ne npD, upd_same], kp3.put.mut hDH, ?_, npD, hDH⟩
          · intro z hz
            rw [List.mem_append] at hz
            rcases hz with hz | hz
            · exact hc z hz
            · obtain rfl : z = ⟨#[c]⟩ := by simpa using hz
              exact wc
          · intro z hz
            rw [List.mem_append] at hz
            rcases hz with hz | hz
            · exact hc3 z hz
            · obtain rfl : z = ⟨#[c]⟩ := by simpa using hz
              intro u hu
              obtain rfl : u = c := by
                have hu : u ∈ [c] := hu
                simpa using hu
              exact ⟨z1, z2⟩
          · have nLD : L ≠ D := ne_of_none hl (by rw [upd_ne npD.symm] at hD0; exact hD0)
            rw [upd_ne nLD, upd_ne npL.symm]; exact hl3
      · rintro D acc H2 hD0 ha hd ⟨cs, x3, y3, rfl, hc, hc3, ok3, hp3, kp3, hl3, npD, hDH⟩
        have wj := W.join hc
        have sj := W.sum hc
        rw [List.length_map] at ha
        have lj : ∀ z ∈ tl (Txt.join "" cs), 97 ≤ z ∧ z < 100 := fun z hz => by
          rw [tl_join0, List.mem_flatten] at hz
          obtain ⟨l, hl, hz⟩ := hz
          obtain ⟨c, hc, rfl⟩ := List.mem_map.mp hl
          exact hc3 c hc z hz
        refine ⟨"", D, cs, rfl, rfl, .inl (SqL.of hd), ?_, ?_⟩
        · have e0 : Str.length "" = 0 := by decide +kernel
          rw [e0]
          omega
        generalize Txt.join "" cs = body at wj lj
        have wl := wj.len
        repeat walk_at "rd"
        refine Rd.lenS (Rd.sz (by omega)) ?_
        repeat walk_at "rd"
        refine ⟨p, x3, y3, _, rfl, hp3, ok3, by omega, by omega, fun a x5 y5 ok5 a0 a1 => ?_⟩
        repeat walk_at "rd"
        have hl4 : upd H2 p (.lst [.int x5, .int y5]) L = some (.lst (ws.map V.str)) := by rw [upd_ne npL.symm]; exact hl3
        refine ⟨Rd.ty_list hl4, ?_⟩
        repeat walk_at "rd"
        have c3 : cs.length ≤ 3 := by omega
        have w1 := (wj.mono c3).cut none (some a)
        have w3 := (wj.mono c3).cut (some a) none
        refine Rd.slS (Rd.sz (by omega)) ?_
        repeat walk_at "rd"
        have i8 : i < 8 := by omega
        have e8 : Str.length "uvwxyzst" = 8 := by decide +kernel
        obtain ⟨hc1, w2, g1, g2⟩ := sign8 i8
        refine Rd.ixS (by decide +kernel) hc1 ?_
        have w4 := w1.app w2
        refine Rd.adds (by have := w1.len; have := w2.len; omega) ?_
        repeat walk_at "rd"
        refine Rd.slS (Rd.sz (by omega)) ?_
        repeat walk_at "rd"
        refine Rd.adds (by have := w4.len; have := w3.len; omega) ?_
        repeat walk_at "rd"
        refine Rd.app hl4 (Rd.szl (by rw [List.length_map]; omega)) ?_
        repeat walk_at "rd"
        refine ⟨_, _, _, ws ++ [cutS body none (some a) ++ ⟨#[letW.getD i 0]⟩ ++ cutS body (some a) none], x5, y5, rfl, ?_, by rw [List.length_append, hn]; first | done | rfl, ?_, ok5, by rw [upd_ne npL, upd_same], kp3.put.mut hL⟩
        · rw [List.map_append]
          exact upd_same
        · intro j z hz
          by_cases cj : j < ws.length
          · rw [List.getElem?_append_left cj] at hz
            exact hw j z hz
          · rw [List.getElem?_append_right (by omega)] at hz
            obtain ⟨e1, e2⟩ : j - ws.length = 0 ∧ z = cutS body none (some a) ++ ⟨#[letW.getD i 0]⟩ ++ cutS body (some a) none := by
              cases e : j - ws.length with
              | zero => rw [e] at hz; exact ⟨rfl, (Option.some.inj hz).symm⟩
              | succ k => rw [e] at hz; simp at hz
            have ej : j = i := by omega
            subst ej e2
            have et : tl (cutS body none (some a) ++ ⟨#[letW.getD j 0]⟩ ++ cutS body (some a) none) = tl (cutS body none (some a)) ++ ([letW.getD j 0] ++ tl (cutS body (some a) none)) := by rw [tl_app, tl_app, List.append_assoc]
            have f0 : ∀ lo hi, (tl (cutS body lo hi)).filter (fun c => decide (100 ≤ c)) = [] := fun lo hi => List.filter_eq_nil_iff.mpr fun c hc => by
              have := (lj c (tl_cut_sub hc)).2
              simp
              omega
            refine ⟨?_, fun c hc => ?_, ?_⟩
            · rw [← tl_len, et, List.length_append, List.length_append, tl_len, tl_len]
              have := cut_two body a
              show _ + (1 + _) ≤ 4
              omega
            · rw [et] at hc
              rcases List.mem_append.mp hc with h | h
              · have := lj c (tl_cut_sub h); omega
              · rcases List.mem_append.mp h with h | h
                · obtain rfl := List.mem_singleton.mp h
                  omega
                · have := lj c (tl_cut_sub h); omega
            · rw [et, List.filter_append, List.filter_append, f0, f0, List.filter_cons_of_pos (by simpa using g1)]
              rfl
    · rintro σ H1 ⟨v3, v4, v6, ws, x, y, rfl, hl, hn, hw, ok, hp1, kp⟩
      repeat walk_at "rd"
      exact q L ws x y H1 hL hl (by omega) hw ok hp1 kp
end
end Ab
namespace Ab.Lm
open M6 W6 Dt PySem.Spec PyProof.Rows
def Strs (K : PySem.W.Frag) (r : List Str) (v : V) (H : Hp) : Prop := ∃ p, v = .ref p ∧ SqL K H p (r.map V.str)
theorem Strs.stays (K : PySem.W.Frag) : Rd.Stays (Strs K) := fun r x H H' s ⟨p, e, h⟩ => ⟨p, e, s.seq h⟩
def RowsAt (K : PySem.W.Frag) (rows : List (List Str)) (a : Addr) (H : Hp) : Prop := ∃ xs, SqL K H a xs ∧ Paired (fun r x => Strs K r x H) rows xs
theorem RowsAt.mono {K : PySem.W.Frag} {rows : List (List Str)} {a : Addr} {H H' : Hp} (s : Same H H') (h : RowsAt K rows a H) : RowsAt K rows a H' :=
  let ⟨xs, h1, h2⟩ := h; ⟨xs, s.seq h1, Rd.pair_imp (fun r x => Strs.stays K r x _ _ s) h2⟩
theorem off_strs {K : PySem.W.Frag} {H H1 H2 : Hp} {p : Addr} {r : List Str} (h1 : H1 p = none) (h2 : H2 p = some (.lst (r.map V.str))) : Rd.Off H H1 H2 (Strs K r) (.ref p) := fun D o _ hD =>
  ⟨p, rfl, SqL.of (by rw [upd_ne (fun e => hD (by rw [← e]; exact h1))]; exact h2)⟩
theorem nr_hide {K : PySem.W.Frag} {H H' : Hp} {rows : List (List Str)} {p k : Addr} (h : NewRows H rows p H') (hk : H k ≠ none) : RowsAt K rows p (hide k H') := by
  obtain ⟨xs, h1, h2⟩ := h.at_
  have ne : ∀ b, H b = none → b ≠ k := fun b z e => hk (by rw [← e]; exact z)
  exact ⟨xs, SqL.of (by rw [hide_ne _ (ne _ h.new)]; exact h1), Rd.pair_imp (fun r x ⟨q, e, z, hq⟩ => ⟨q, e, SqL.of (by rw [hide_ne _ (ne _ z)]; exact hq)⟩) h2⟩
theorem dp_pairs {K : PySem.W.Frag} {H : Hp} : ∀ {rows : List (List Str)} {xs : List V}, Paired (fun r x => Strs K r x H) rows xs → DpAll K H xs (rows.map dS)
  | _, _, .nil => .nil
  | _, _, .cons ⟨p, e, h⟩ t => by subst e; exact .cons (dp_S h) (dp_pairs t)
theorem RowsAt.dp {K : PySem.W.Frag} {rows : List (List Str)} {a : Addr} {H : Hp} (h : RowsAt K rows a H) : Dp K H (.ref a) (dR rows) :=
  let ⟨_, h1, h2⟩ := h; .lst h1 (dp_pairs h2)
theorem rsSmall {rows : List (List Str)} (h : Dt.Rs rows) : Small rows := ⟨h.n, fun r hr => (h.r r hr).n⟩
theorem rs_without {rows : List (List Str)} {w : Str} (s : Dt.Rs rows) : Dt.Rs (M6.without rows w) := by
  have sm := small_without (w := w) (rsSmall s)
  refine ⟨sm.n, fun r hr => ⟨sm.m r hr, fun x hx => ?_⟩⟩
  unfold M6.without at hr
  obtain ⟨h1, _⟩ := List.mem_filter.mp hr
  obtain ⟨r0, h0, rfl⟩ := List.mem_map.mp h1
  exact (s.r _ h0).w x (List.mem_filter.mp hx).1
theorem rs_full {rows : List (List Str)} (s : Dt.Rs rows) : Dt.Rs (full rows) :=
  ⟨Nat.le_trans (List.length_filter_le _ _) s.n, fun r hr => s.r r (List.mem_filter.mp hr).1⟩
theorem ne_nil {α : Type} [DecidableEq α] (r : List α) : (!decide (r = [])) = !r.isEmpty := by cases r <;> simp
def hd (r : List Str) : Str := r.headD Str.empty
theorem heads_of {rows : List (List Str)} (ne : ∀ r ∈ rows, r ≠ []) : headOf rows = ((rows.filter (isHead rows)).map hd).head? := by
  unfold headOf
  rw [List.head?_map, List.head?_filter]
  cases e : rows.find? (isHead rows) with
  | none => rfl
  | some r =>
    have := ne r (List.mem_of_find?_eq_some e)
    cases r with
    | nil => exact absurd rfl this
    | cons a t => rfl
theorem ok_filter {rows : List (List Str)} {w : Str} : decide ((rows.filter fun o => decide (w ∈ o.tail)) = []) = okHead rows w := by
  unfold okHead
  rw [Bool.eq_iff_iff]
  simp [List.filter_eq_nil_iff]
section
variable {P : Program} {w : World} {K : PySem.W.Frag} {mg : Str → Option Value} {base : Heap}
abbrev sL_merge : Stmt := top 77
abbrev nL_merge : List Str := ["_law_rows", "_law_found", "_law_row", "_law_heads", "_law_other", "_law_one_here"]
theorem scL_merge : FnScope nL_merge ["_law_rows"] (defScope sL_merge) := ⟨rfl, rfl, rfl, by decide +kernel, rfl, by decide +kernel, by decide +kernel⟩
def spMerge (K : PySem.W.Frag) : Sp := fun vs H Q _ => ∃ (a : Addr) (rows : List (List Str)), vs = [.ref a] ∧ RowsAt K rows a H ∧ Dt.Rs rows ∧ (mrg rows = none → ∀ H', Same H H' → Q .non H') ∧
  ∀ l, mrg rows = some l → ∀ p H', H p = none → Same H H' → H' p = some (.lst (l.map V.str)) → Q (.ref p) H'
theorem ok_merge (T : Txt K mg) (D : DefAt K mg "_law_merge" sL_merge ["_law_rows"]) : CalG P w K mg base 1 "_law_merge" (spMerge K) := by
  refine D.by scL_merge (fun vs H Q E h => ?_) (fun f cd A hg outer s H vs Q E hr h => ?_)
  · obtain ⟨a, ns, rfl, _⟩ := h
    rfl
  · obtain ⟨a, rows, rfl, ⟨xs, hl, hp⟩, rs, qn, qs⟩ := h
    refine ⟨_, (pss_cons (ps_asg (pe_tup (pa_cons (pe_lc (wi := iList K _) (own := [("_law_row", 2)]) (g := gName 2) (by rfl) scL_merge.nd (pi_list (pv 0)) (blkOk_by (N := nL_merge) (sc := defScope sL_merge) (by decide +kernel)) (fun _ _ _ _ _ => pg_name (i := 2) scL_merge.nd rfl (Or.inl rfl)) (fun _ _ _ _ _ => (pts_one (pt_cmpR (r := rNeD K) (op_neD hr.units) (pv 2) (pe_lst pa_nil) (nomark _)))) (fun _ _ _ _ _ => (pe_callTy (r := Rd.rListK K) Rd.callList (by rfl) T.list (by decide +kernel) (pa_cons (pv 2) pa_nil)))) (pa_cons (pe_lst pa_nil) pa_nil))) (pg_tup (by rfl) (pgs_cons (pg_name (i := 0) scL_merge.nd rfl (Or.inr rfl)) (pgs_cons (pg_name (i := 1) scL_merge.nd rfl (Or.inl rfl)) pgs_nil))))
  (pss_cons (ps_while PassesOwn.never (pt_cmpR (r := rNeD K) (op_neD hr.units) (pv 0) (pe_lst pa_nil) (nomark _))
  (pss_cons (ps_set (i := 3) scL_merge.nd rfl (Or.inr rfl) (pe_lc (wi := iList K _) (own := [("_law_row", 2)]) (g := gName 2) (by rfl) scL_merge.nd (pi_list (pv 0)) (blkOk_by (N := nL_merge) (sc := defScope sL_merge) (by decide +kernel)) (fun _ _ _ _ _ => pg_name (i := 2) scL_merge.nd rfl (Or.inr rfl)) (fun _ _ _ _ _ => (pts_one (pt_cmpR (r := rEqD K) (op_eqD hr.units) (pe_lc (wi := iList K _) (own := [("_law_other", 4)]) (g := gName 4) (by rfl) scL_merge.nd (pi_list (pv 0)) (blkOk_by (by kernel_rfl)) (fun _ _ _ _ _ => pg_name (i := 4) scL_merge.nd rfl (Or.inl rfl)) (fun _ _ _ _ _ => (pts_one (pt_cmpR (r := rIn K false) op_in_seq (pe_ix (r := rIxL K) ix_list (pv 2) pe_int (fun _ _ => rfl)) (pe_slice (r := rSlL K) sl_list (pv 4) (po_some pe_int) po_none) (by rfl)))) (fun _ _ _ _ _ => (pv 4))) (pe_lst pa_nil) (nomark _)))) (fun _ _ _ _ _ => (pe_ix (r := rIxL K) ix_list (pv 2) pe_int (fun _ _ => rfl)))))
  (pss_cons (ps_if (pt_cmpR (r := rEqD K) (op_eqD hr.units) (pv 3) (pe_lst pa_nil) (nomark _))
  (pss_one (ps_ret pe_non))
  pss_nil)
  (pss_cons (ps_expr (pe_bm PySem.F.plainAttrs_list PySem.F.slot_list_append PySem.F.type_list_append mt_append (pv 1) (pa_cons (pe_ix (r := rIxL K) ix_list (pv 3) pe_int (fun _ _ => rfl)) pa_nil)))
  (pss_cons (ps_set (i := 0) scL_merge.nd rfl (Or.inr rfl) (pe_lc (wi := iList K _) (own := [("_law_row", 2)]) (g := gName 2) (by rfl) scL_merge.nd (pi_list (pv 0)) (blkOk_by (N := nL_merge) (sc := defScope sL_merge) (by decide +kernel)) (fun _ _ _ _ _ => pg_name (i := 2) scL_merge.nd rfl (Or.inl rfl)) (fun _ _ _ _ _ => pts_nil) (fun _ _ _ _ _ => (pe_lc (wi := iList K _) (own := [("_law_one_here", 5)]) (g := gName 5) (by rfl) scL_merge.nd (pi_list (pv 2)) (blkOk_by (by kernel_rfl)) (fun _ _ _ _ _ => pg_name (i := 5) scL_merge.nd rfl (Or.inl rfl)) (fun _ _ _ _ _ => (pts_one (pt_cmpR op_ne (pv 5) (pe_ix (r := rIxL K) ix_list (pv 3) pe_int (fun _ _ => rfl)) (nomark _)))) (fun _ _ _ _ _ => (pv 5))))))
  (pss_one (ps_set (i := 0) scL_merge.nd rfl (Or.inr rfl) (pe_lc (wi := iList K _) (own := [("_law_row", 2)]) (g := gName 2) (by rfl) scL_merge.nd (pi_list (pv 0)) (blkOk_by (N := nL_merge) (sc := defScope sL_merge) (by decide +kernel)) (fun _ _ _ _ _ => pg_name (i := 2) scL_merge.nd rfl (Or.inl rfl)) (fun _ _ _ _ _ => (pts_one (pt_cmpR (r := rNeD K) (op_neD hr.units) (pv 2) (pe_lst pa_nil) (nomark _)))) (fun _ _ _ _ _ => (pv 2))))))))))
  (pss_one (ps_ret (pv 1))))), ?_⟩
    have hlen := Rd.pair_len hp
    have w0 : ∀ w ∈ ([] : List Str), W 100 w := by simp
    repeat walk_at "rd"
    refine Rd.lcL (K := K) (a := a) (xs := xs) (bs := rows) (Strs K) (Strs K) (fun r => !r.isEmpty) id (fun R k => Rd.var rfl k) hl (Strs.stays K) (Strs.stays K) hp (by have := rs.n; omega) (fun _ => rfl) ?_ ?_ ?_
    · rintro r x H3 R3 hs _ ⟨p3, rfl, h3⟩ s3 k3
      repeat walk_at "rd"
      refine ⟨Rd.sz (by simp), fun q hq => ?_⟩
      refine Rd.neD (d := dS r) (e := dS []) (dp_S ((Rd.sNew hq).seq h3)) (dp_S (SqL.of upd_same)) (shaped_dS (rs.r r hs).w) (shaped_dS w0) ?_
      repeat walk_at "rd"
      rw [eqv_dS, ne_nil]
      exact k3 _ (Rd.sNew hq)
    · rintro r x H3 R3 hs _ h2 ⟨p3, rfl, h3⟩ s3 k3
      repeat walk_at "rd"
      refine Rd.listK h3 fun l hl => k3 _ _ (Rd.sNew hl) (off_strs hl upd_same)
    · intro L ys H1 hL s1 hd1 pr
      rw [List.map_id] at pr
      repeat walk_at "rd"
      refine ⟨Rd.sz (by simp), fun tk htk => ?_⟩
      repeat walk_at "rd"
      refine ⟨Rd.sz (by simp), fun tp htp => ?_⟩
      have ntp : tk ≠ tp := fun e => by rw [← e, upd_same] at htp; cases htp
      refine Rd.gtup (SqT.of upd_same) rfl ?_
      repeat walk_at "rd"
      refine ⟨fun m σ H2 => ∃ (L : Addr) (rows' : List (List Str)) (acc : List Str) (v : Option V) (H0 : Hp), σ = [some (.ref L), some (.ref tk), none, v, none, none] ∧ Same H H2 ∧ H0 tk = none ∧ Same H0 H2 ∧ RowsAt K rows' L H0 ∧
        (∀ r ∈ rows', r ≠ []) ∧ Dt.Rs rows' ∧ H2 tk = some (.lst (acc.map V.str)) ∧ acc.length + size rows' ≤ 10000 ∧ mrg rows = mrgF (size rows' + 1) rows' acc ∧ m = size rows', ⟨_, L, full rows, [], none, H1, rfl, s1.trans ((Rd.sNew htk).trans (Rd.sNew htp)), htk, (Rd.sNew htk).trans (Rd.sNew htp), ⟨ys, SqL.of hd1, pr⟩, full_full rows, rs_full rs, by rw [upd_ne ntp, upd_same]; rfl, ?_, rfl, rfl⟩, ?_⟩
      · have := small_size (rsSmall (rs_full rs))
        simpa using this
      · rintro m σ H2 ⟨L, rows', acc, v, H0, rfl, s2, h0, s0, hR, ne, rs', ht, hz, hm, rfl⟩
        have hR2 := hR.mono s0
        repeat walk_at "rd"
        refine ⟨Rd.sz (by simp), fun q hq => ?_⟩
        have sq := Rd.sNew (o := .lst []) hq
        refine Rd.neD (d := dR rows') (e := dR []) (hR2.mono sq).dp (.lst (SqL.of upd_same) .nil) (shaped_dR rs'.r) (shaped_dR (by simp)) ?_
        rw [eqv_dR, ne_nil]
        repeat walk_at "rd"
        refine Rd.bool (fun c => ?_) (fun c => ?_)
        · refine ⟨_, fun σ' H' h => h, ?_⟩
          have c' : rows'.isEmpty = false := by simpa using c
          obtain ⟨zs, hz1, hz2⟩ := hR2.mono sq
          have sm' := rsSmall rs'
          have zl := Rd.pair_len hz2
          repeat walk_at "rd"
          refine Rd.lcL (K := K) (a := L) (xs := zs) (bs := rows') (Strs K) (fun (s : Str) y _ => y = .str s) (isHead rows') hd (fun R k => Rd.var rfl k) hz1 (Strs.stays K) (fun _ _ _ _ _ h => h) hz2 (by have := sm'.n; omega) (fun _ => rfl) ?_ ?_ ?_
          · rintro r x H3 R3 hs _ ⟨p3, rfl, h3⟩ s3 k3
            obtain ⟨w0', t, rfl⟩ : ∃ w0 t, r = w0 :: t := by
              cases r with
              | nil => exact absurd rfl (ne _ hs)
              | cons w0 t => exact ⟨w0, t, rfl⟩
            repeat walk_at "rd"
            refine Rd.lcL (K := K) (a := L) (xs := zs) (bs := rows') (Strs K) (Strs K) (fun o => decide (w0' ∈ o.tail)) id (fun R k => Rd.var rfl k) (s3.seq hz1) (Strs.stays K) (Strs.stays K)
              (Rd.pair_imp (fun r x => Strs.stays K r x _ _ s3) hz2) (by have := sm'.n; omega) (fun _ => rfl) ?_ ?_ ?_
            · rintro o x H4 R4 ho _ ⟨po, rfl, hpo⟩ s4 k4
              have h34 := s4.seq h3
              repeat walk_at "rd"
              refine Rd.slL hpo fun q hq => ?_
              have e1 : cutV (o.map V.str) (some 1) none = o.tail.map V.str := by rw [Sq.cut1, ← List.map_tail]
              refine Rd.inL (xs := cutV (o.map V.str) (some 1) none) (SqL.of upd_same) rfl (by rw [e1]; exact flat_strs _) ?_
              repeat walk_at "rd"
              have e2 : (if (false : Bool) = true then !inV (.str w0') (cutV (o.map V.str) (some 1) none) else inV (.str w0') (cutV (o.map V.str) (some 1) none)) = decide (w0' ∈ o.tail) := by rw [e1, inV_str]; rfl
              rw [e2]
              exact k4 _ (Rd.sNew hq)
            · rintro o x H4 R4 ho _ h2 h4 s4 k4
              exact Rd.var rfl (k4 _ _ (Same.refl _) (Rd.off_old (Strs.stays K o) s4 h2))
            · intro D ys H4 hD s4 hd4 pq
              rw [List.map_id] at pq
              repeat walk_at "rd"
              refine ⟨Rd.sz (by simp), fun q5 hq5 => ?_⟩
              have s5 := Rd.sNew (o := .lst []) hq5
              have rA : RowsAt K (rows'.filter fun o => decide (w0' ∈ o.tail)) D H4 := ⟨ys, SqL.of hd4, pq⟩
              refine Rd.eqD (d := dR (rows'.filter fun o => decide (w0' ∈ o.tail))) (e := dR []) (rA.mono s5).dp (.lst (SqL.of upd_same) .nil) (shaped_dR fun x hx => rs'.r x (List.mem_filter.mp hx).1) (shaped_dR (by simp)) ?_
              rw [eqv_dR, ok_filter]
              repeat walk_at "rd"
              exact k3 _ (s4.trans s5)
          · rintro r x H3 R3 hs _ _ ⟨p3, rfl, h3⟩ s3 k3
            obtain ⟨w0', t, rfl⟩ : ∃ w0 t, r = w0 :: t := by
              cases r with
              | nil => exact absurd rfl (ne _ hs)
              | cons w0 t => exact ⟨w0, t, rfl⟩
            repeat walk_at "rd"
            exact k3 _ _ (Same.refl _) (Rd.off_any (B := fun y => y = V.str _) rfl)
          · intro D ys H3 hD s3 hd3 pq
            have e := Rd.pair_map pq
            subst e
            have hh := heads_of ne
            have hw : ∀ w ∈ (rows'.filter (isHead rows')).map hd, W 100 w := by
              intro w hw
              obtain ⟨r, hr, rfl⟩ := List.mem_map.mp hw
              have hr := (List.mem_filter.mp hr).1
              cases r with
              | nil => exact absurd rfl (ne _ hr)
              | cons a t => exact (rs'.r _ hr).w a (by simp)
            generalize (rows'.filter (isHead rows')).map hd = heads at hd3 hh hw
            repeat walk_at "rd"
            refine ⟨Rd.sz (by simp), fun q6 hq6 => ?_⟩
            have s6 := Rd.sNew (o := .lst []) hq6
            refine Rd.eqD (d := dS heads) (e := dS []) (dp_S (SqL.of (s6 _ _ hd3))) (dp_S (SqL.of upd_same)) (shaped_dS hw) (shaped_dS w0) ?_
            rw [eqv_dS]
            repeat walk_at "rd"
            have s26 := (sq.trans s3).trans s6
            have ht6 := s26 _ _ ht
            refine Rd.dec (fun c => ?_) (fun c => ?_)
            · subst c
              repeat walk_at "rd"
              exact qn (by rw [hm]; exact mrg_no c' hh) _ (s2.trans s26)
            · obtain ⟨w1, hs', rfl⟩ : ∃ w1 t, heads = w1 :: t := by
                cases heads with
                | nil => exact absurd rfl c
                | cons w0 t => exact ⟨w0, t, rfl⟩
              have hd6 := s6 _ _ hd3
              repeat walk_at "rd"
              refine ⟨Rd.ty_list ht6, ?_⟩
              repeat walk_at "rd"
              refine Rd.app ht6 (Rd.szl (by rw [List.length_map]; omega)) ?_
              have e4 : acc.map V.str ++ [V.str w1] = (acc ++ [w1]).map V.str := by rw [List.map_append]; rfl
              rw [e4]
              obtain ⟨H7, hH7⟩ : ∃ H7, H7 = upd (upd H3 q6 (.lst [])) tk (.lst ((acc ++ [w1]).map V.str)) := ⟨_, rfl⟩
              rw [← hH7]
              have ht7 : H7 tk = some (.lst ((acc ++ [w1]).map V.str)) := by rw [hH7, upd_same]
              have hd7 : H7 D = some (.lst ((w1 :: hs').map V.str)) := by
                have n : D ≠ tk := (ne_of_none (sq _ _ ht) hD).symm
                rw [hH7, upd_ne n]; exact hd6
              have s07 : Same H0 H7 := by rw [hH7]; exact Rd.sMut (s0.trans s26) h0
              have sH7 : Same H H7 := by rw [hH7]; exact Rd.sMut (s2.trans s26) (Same.free s1 htk)
              obtain ⟨zs7, hz7, pz7⟩ := hR.mono s07
              have zl7 := Rd.pair_len pz7
              repeat walk_at "rd"
              refine Rd.lcL (K := K) (a := L) (xs := zs7) (bs := rows') (Strs K) (NStrs H7) (fun _ => true) (fun r => r.filter fun x => decide (x ≠ w1)) (fun R k => Rd.var rfl k) hz7 (Strs.stays K) (NStrs.stays H7) pz7 (by have := sm'.n; omega) (fun _ => rfl)
                (fun b x H2 R _ _ _ s2 k => Rd.yes (k H2 (Same.refl _))) ?_ ?_
              · rintro r x H8 R hr _ _ ⟨pr, rfl, hpr⟩ s8 k
                refine Rd.lcL (K := K) (a := pr) (xs := r.map V.str) (bs := r) (fun s x _ => x = V.str s) (fun s x _ => x = V.str s) (fun x => decide (x ≠ w1)) id (fun R k => Rd.var rfl k) hpr (fun _ _ _ _ _ h => h) (fun _ _ _ _ _ h => h)
                  (strs_pair r H8) (by rw [List.length_map]; have := sm'.m r hr; omega) (fun _ => rfl) ?_ ?_ ?_
                · rintro s x H9 R9 hs rfl _ s9 k9
                  have hd9 := s9 _ _ (s8 _ _ hd7)
                  repeat walk_at "rd"
                  rw [ne_str]
                  exact k9 _ (Same.refl _)
                · rintro s x H9 R9 hs _ rfl _ s9 k9
                  repeat walk_at "rd"
                  exact k9 _ _ (Same.refl _) (Rd.off_any (B := fun y => y = V.str s) rfl)
                · intro D9 ys9 H9 hD9 s9 hd9 pq9
                  have e := Rd.pair_map pq9
                  rw [List.map_id] at e
                  subst e
                  exact k _ _ s9 (off_new (Same.free s8 hD9) hD9 hd9)
              · intro D8 ys8 H8 hD8 s8 hd8 pr8
                rw [List.filter_eq_self.mpr (by simp)] at pr8
                repeat walk_at "rd"
                have pl8 := Rd.pair_len pr8
                rw [List.length_map] at pl8
                refine Rd.lcL (K := K) (a := D8) (xs := ys8) (bs := rows'.map fun r => r.filter fun x => decide (x ≠ w1)) (NStrs H7) (NStrs H7) (fun r => !r.isEmpty) id (fun R k => Rd.var rfl k) (SqL.of hd8) (NStrs.stays H7) (NStrs.stays H7) pr8
                  (by have := sm'.n; omega) (fun _ => rfl) ?_ ?_ ?_
                · rintro r x H9 R9 hr _ ⟨p9, rfl, _, h9⟩ s9 k9
                  repeat walk_at "rd"
                  refine ⟨Rd.sz (by simp), fun q9 hq9 => ?_⟩
                  have hr' : ∀ w ∈ r, W 100 w := by
                    obtain ⟨r0, h0, rfl⟩ := List.mem_map.mp hr
                    exact fun w hw => (rs'.r _ h0).w w (List.mem_filter.mp hw).1
                  refine Rd.neD (d := dS r) (e := dS []) (dp_S (SqL.of (Rd.sNew hq9 _ _ h9))) (dp_S (SqL.of upd_same)) (shaped_dS hr') (shaped_dS w0) ?_
                  repeat walk_at "rd"
                  rw [eqv_dS, ne_nil]
                  exact k9 _ (Rd.sNew hq9)
                · rintro r x H9 R9 hr _ h8 h9 s9 k9
                  exact Rd.var rfl (k9 _ _ (Same.refl _) (Rd.off_old (NStrs.stays H7 r) s9 h8))
                · intro D9 ys9 H9 hD9 s9 hd9 pr9
                  rw [List.map_id] at pr9
                  repeat walk_at "rd"
                  have lt := size_without hh
                  have nr : NewRows H7 (M6.without rows' w1) D9 H9 := ⟨Same.free s8 hD9, ys9, hd9, pr9⟩
                  refine ⟨size (M6.without rows' w1), lt, D9, M6.without rows' w1, acc ++ [w1], some (.ref D), hide tk H9, rfl, sH7.trans (s8.trans s9), hide_at _ _, hide_same _ _, nr_hide nr (by rw [ht7]; simp), without_full _ _, rs_without rs', (s8.trans s9) _ _ ht7, ?_, ?_, rfl⟩
                  · rw [List.length_append]; simp; omega
                  · rw [hm]; exact mrg_step c' hh
        · have c' : rows'.isEmpty = true := by simpa using c
          repeat walk_at "rd"
          obtain rfl : rows' = [] := by simpa using c'
          exact qs acc hm tk _ (Same.free s1 htk) (s2.trans sq) (sq _ _ ht)
end
end Ab.Lm
namespace Ab
open M6 PySem.Spec PyProof.Rows
/-! ### orders as classes come -/
theorem mrg_row {α : Type} [DecidableEq α] : ∀ (t : List α), t.Nodup → ∀ acc, mrgF (size (full [t]) + 1) (full [t]) acc = some (acc ++ t)
  | [], _, acc => by rw [List.append_nil]; rfl
  | a :: u, nd, acc => by
    obtain ⟨na, nu⟩ := List.nodup_cons.mp nd
    have ef : full [a :: u] = [a :: u] := rfl
    have hh : headOf [a :: u] = some a := by
      have : isHead [a :: u] (a :: u) = true := by
        show okHead [a :: u] a = true
        simp [okHead, na]
      simp [headOf, this]
    have fu : (a :: u).filter (fun x => decide (x ≠ a)) = u := by
      rw [List.filter_cons_of_neg (by simp)]
      exact List.filter_eq_self.mpr fun x hx => decide_eq_true fun e => na (by rw [← e]; exact hx)
    have hw : M6.without [a :: u] a = full [u] := by
      unfold M6.without full
      rw [List.map_cons, List.map_nil, fu]
    rw [ef, mrg_step rfl hh, hw, mrg_row u nu, List.append_assoc]
    rfl
theorem mrg_base {α : Type} [DecidableEq α] {a : α} {u : List α} (nd : (a :: u).Nodup) : mrg [a :: u, [a]] = some (a :: u) := by
  obtain ⟨na, nu⟩ := List.nodup_cons.mp nd
  have ef : full [a :: u, [a]] = [a :: u, [a]] := rfl
  have hh : headOf [a :: u, [a]] = some a := by
    have : isHead [a :: u, [a]] (a :: u) = true := by
      show okHead [a :: u, [a]] a = true
      simp [okHead, na]
    simp [headOf, this]
  have fu : (a :: u).filter (fun x => decide (x ≠ a)) = u := by
    rw [List.filter_cons_of_neg (by simp)]
    exact List.filter_eq_self.mpr fun x hx => decide_eq_true fun e => na (by rw [← e]; exact hx)
  have fa : [a].filter (fun x => decide (x ≠ a)) = [] := by simp
  have hw : M6.without [a :: u, [a]] a = full [u] := by
    unfold M6.without full
    rw [List.map_cons, List.map_cons, List.map_nil, fu, fa]
    cases u <;> rfl
  unfold mrg
  rw [ef, mrg_step rfl hh, hw, mrg_row u nu]
  rfl
theorem ord_low {ns : List Str} {bs : Str → List Str} {rk : Str → Nat} (d : Dag ns bs rk) : ∀ {n : Nat} {x : Str} {l : List Str}, x ∈ ns → ordF bs n x = some l → ∃ t, l = x :: t ∧ (∀ w ∈ t, rk w < rk x) ∧ t.Nodup
  | 0, _, _, _, h => by cases h
  | n + 1, x, l, hx, h => by
    rw [ordF] at h
    cases e : listO (ordF bs n) (bs x) with
    | none => rw [e] at h; cases h
    | some rows =>
      rw [e] at h
      dsimp only at h
      cases e2 : mrg (rows ++ [bs x]) with
      | none => rw [e2] at h; cases h
      | some l2 =>
        rw [e2] at h
        cases h
        have M := M7.merges e2
        refine ⟨l2, rfl, fun w hw => ?_, M.nd⟩
        obtain ⟨r, hr, hwr⟩ := (M.mem w).mp hw
        rcases List.mem_append.mp hr with hr | hr
        · obtain ⟨b, hb, hf⟩ := listO_at e r hr
          obtain ⟨t, rfl, h1, _⟩ := ord_low d (d.inn x hx b hb) hf
          have := d.low x hx b hb
          rcases List.mem_cons.mp hwr with rfl | hwr
          · exact this
          · exact Nat.lt_trans (h1 w hwr) this
        · obtain rfl := List.mem_singleton.mp hr
          exact d.low x hx w hwr
theorem ord_congr {ns : List Str} {bs bs' : Str → List Str} {rk : Str → Nat} (d : Dag ns bs rk) (h : ∀ m ∈ ns, bs' m = bs m) : ∀ {n : Nat} {x : Str}, x ∈ ns → ordF bs' n x = ordF bs n x
  | 0, _, _ => rfl
  | n + 1, x, hx => by
    rw [ordF, ordF, h x hx, listO_congr (f := ordF bs' n) (g := ordF bs n) fun b hb => ord_congr d h (d.inn x hx b hb)]
/-- classes with their bases and orders -/
structure TOk (ns : List Str) (bs od : Str → List Str) : Prop where
  nd : ns.Nodup
  rk : ∃ rk, Dag ns bs rk ∧ ∀ n ∈ ns, rk n < ns.length
  od : ∀ n ∈ ns, ordF bs 9 n = some (od n)
theorem TOk.nil : TOk [] (fun _ => []) (fun _ => []) := ⟨.nil, ⟨fun _ => 0, ⟨fun m hm => (nomatch hm), fun m hm => (nomatch hm), fun m hm => (nomatch hm)⟩, fun n hn => (nomatch hn)⟩, fun n hn => (nomatch hn)⟩
theorem TOk.head {ns : List Str} {bs od : Str → List Str} (h : TOk ns bs od) {n : Str} (hn : n ∈ ns) : ∃ t, od n = n :: t ∧ (n :: t).Nodup ∧ (∀ w ∈ od n, w ∈ ns) ∧ (od n).length ≤ ns.length + 1 := by
  obtain ⟨rk, d, _⟩ := h.rk
  obtain ⟨t, e, h1, h2⟩ := ord_low d hn (h.od n hn)
  obtain ⟨h3, h4⟩ := ord_sub d hn (h.od n hn)
  exact ⟨t, e, List.nodup_cons.mpr ⟨fun m => Nat.lt_irrefl _ (h1 n m), h2⟩, h3, h4⟩
theorem TOk.step {ns : List Str} {bs od : Str → List Str} (h : TOk ns bs od) {x : Str} {l r : List Str} (nx : x ∉ ns) (z : ns.length < 8) (hl : ∀ b ∈ l, b ∈ ns) (fw : l.length ≤ 90) (hm : mrg (l.map od ++ [l]) = some r) :
    TOk (ns ++ [x]) (fset bs x l) (fset od x (x :: r)) ∧ ∃ rk, Dag (ns ++ [x]) (fset bs x l) rk ∧ rk x < 9 ∧ ordF (fset bs x l) 9 x = some (x :: r) := by
  obtain ⟨rk, d, hr⟩ := h.rk
  have sub : ∀ m ∈ ns, m ≠ x := fun m hm e => nx (by rw [← e]; exact hm)
  have mem : ∀ m, m ∈ ns ++ [x] → m = x ∨ m ∈ ns := fun m hm => (List.mem_append.mp hm).elim Or.inr fun h => .inl (List.mem_singleton.mp h)
  have d' : Dag (ns ++ [x]) (fset bs x l) (fset rk x ns.length) := by
    refine ⟨fun m hm b hb => ?_, fun m hm b hb => ?_, fun m hm => ?_⟩
    · rcases mem m hm with rfl | hm
      · rw [fset_at] at hb; exact List.mem_append_left _ (hl b hb)
      · rw [fset_ne (sub m hm)] at hb; exact List.mem_append_left _ (d.inn m hm b hb)
    · rcases mem m hm with rfl | hm
      · rw [fset_at] at hb ⊢
        rw [fset_ne (sub b (hl b hb))]
        exact hr b (hl b hb)
      · rw [fset_ne (sub m hm)] at hb ⊢
        rw [fset_ne (sub b (d.inn m hm b hb))]
        exact d.low m hm b hb
    · rcases mem m hm with rfl | hm
      · rw [fset_at]; exact fw
      · rw [fset_ne (sub m hm)]; exact d.few m hm
  have old : ∀ n ∈ ns, ordF (fset bs x l) 9 n = some (od n) := fun n hn => by
    rw [ord_congr d (fun m hm => fset_ne (sub m hm)) hn]
    exact h.od n hn
  have new : ordF (fset bs x l) 9 x = some (x :: r) := by
    have e : listO (ordF (fset bs x l) 8) l = some (l.map od) := listO_map fun b hb => by
      have hb' := hl b hb
      have lt : fset rk x ns.length b < 8 := by rw [fset_ne (sub b hb')]; have := hr b hb'; omega
      rw [ord_fuel d' (List.mem_append_left _ hb') lt (show fset rk x ns.length b < 9 by omega)]
      exact old b hb'
    show (match listO (ordF (fset bs x l) 8) (fset bs x l x) with | none => none | some rows => match mrg (rows ++ [fset bs x l x]) with | none => none | some l => some (x :: l)) = _
    rw [fset_at, e]
    dsimp only
    rw [hm]
  refine ⟨⟨?_, ⟨_, d', fun n hn => ?_⟩, fun n hn => ?_⟩, _, d', by rw [fset_at]; omega, new⟩
  · exact List.nodup_append.mpr ⟨h.nd, by simp, fun a ha b hb e => sub a ha (e.trans (List.mem_singleton.mp hb))⟩
  · rw [List.length_append]
    show _ < ns.length + 1
    rcases mem n hn with rfl | hn
    · rw [fset_at]; omega
    · rw [fset_ne (sub n hn)]; have := hr n hn; omega
  · rcases mem n hn with rfl | hn
    · rw [fset_at]; exact new
    · rw [fset_ne (sub n hn)]; exact old n hn
end Ab
namespace Ab
open M6 PySem.Spec PyProof.Rows
local macro_rules | `(tactic| walk_at "rd") => `(tactic| (with_reducible first | refine Rd.tt_ ?_ | refine Rd.ff_ ?_ | refine Rd.dget ?_))
/-! ### the law's own entries -/
def EvAt (K : PySem.W.Frag) (H : Hp) (m : Str) : Ent → V → Prop
  | .w z, v => v = .str z ∧ z ∈ entW
  | .b nd, v => Dp K H v nd.d ∧ BdOk m nd
def OvAt (K : PySem.W.Frag) (H : Hp) (m : Str) : Option Ent → V → Prop
  | none, v => v = .non
  | some e, v => EvAt K H m e v
theorem EvAt.mono {K : PySem.W.Frag} {H H' : Hp} {m : Str} {e : Ent} {v : V} (s : Same H H') (h : EvAt K H m e v) : EvAt K H' m e v := by
  cases e with
  | w z => exact h
  | b nd => exact ⟨dp_mono s h.1, h.2⟩
theorem EvAt.keep {K : PySem.W.Frag} {p : Addr} {H H' : Hp} {m : Str} {e : Ent} {v : V} (k : Keep p H H') (n : NoTup H p) (h : EvAt K H m e v) : EvAt K H' m e v := by
  cases e with
  | w z => exact h
  | b nd => exact ⟨dp_keepT k n h.1 (nd_noList _), h.2⟩
theorem EvAt.nn {K : PySem.W.Frag} {H : Hp} {m : Str} {e : Ent} {v : V} (h : EvAt K H m e v) : v ≠ .non := by
  cases e with
  | w z => obtain ⟨rfl, _⟩ := h; simp
  | b nd => obtain ⟨p, _, _, rfl, _⟩ := nd_at h.1; simp
section
variable {P : Program} {w : World} {K : PySem.W.Frag} {mg : Str → Option Value} {base : Heap}
abbrev sL_methods : Stmt := top 76
abbrev nL_methods : List Str := ["_law_found"]
theorem scL_methods : FnScope nL_methods [] (defScope sL_methods) := ⟨rfl, rfl, rfl, by decide +kernel, rfl, by decide +kernel, by decide +kernel⟩
def spMethods : Sp := fun vs H Q _ => vs = [] ∧ ∀ l H', Same H H' → H l = none → H' l = some (.lst (methods.map V.str)) → Q (.ref l) H'
theorem ok_methods (D : DefAt K mg "_law_methods" sL_methods []) : CalG P w K mg base 1 "_law_methods" spMethods := by
  refine D.by scL_methods (fun vs H Q E h => ?_) (fun f cd A hg outer s H vs Q E hr h => ?_)
  · rw [h.1]; rfl
  · obtain ⟨rfl, q⟩ := h
    refine ⟨_, (pss_cons (ps_set (i := 0) scL_methods.nd rfl (Or.inl rfl) (pe_lst (pa_cons pe_str (pa_cons pe_str (pa_cons pe_str (pa_cons pe_str (pa_cons pe_str (pa_cons pe_str (pa_cons pe_str (pa_cons pe_str (pa_cons pe_str (pa_cons pe_str (pa_cons pe_str pa_nil)))))))))))))
  (pss_one (ps_ret (pe_op op_cat (pv 0) (pe_lst (pa_cons pe_str (pa_cons pe_str (pa_cons pe_str pa_nil)))))))), ?_⟩
    repeat walk_at "rd"
    refine ⟨Rd.sz (by simp), fun a ha => ?_⟩
    have s1 := Rd.sNew (o := .lst [.str "truth", .str "length", .str "item", .str "walk", .str "back", .str "has", .str "like", .str "unlike", .str "before", .str "behind", .str "hash"]) ha
    repeat walk_at "rd"
    refine ⟨Rd.sz (by simp), fun b hb => ?_⟩
    have ab : a ≠ b := fun e => by rw [← e, upd_same] at hb; cases hb
    refine ⟨a, b, _, _, rfl, rfl, by rw [upd_ne ab, upd_same], by rw [upd_same], Nat.le_of_lt (Rd.szl (by decide)), fun l hl => ?_⟩
    have s2 := s1.trans (Rd.sNew (o := .lst [.str "grow", .str "plus", .str "call"]) hb)
    exact q l _ (s2.trans (Rd.sNew hl)) (Same.free s2 hl) (by rw [upd_same]; rfl)
abbrev sL_entry : Stmt := top 78
abbrev nL_entry : List Str := ["_law_pool_here", "_law_method", "_law_way"]
theorem scL_entry : FnScope nL_entry ["_law_pool_here", "_law_method"] (defScope sL_entry) := ⟨rfl, rfl, rfl, by decide +kernel, rfl, by decide +kernel, by decide +kernel⟩
def spEntry (K : PySem.W.Frag) : Sp := fun vs H Q _ => ∃ (p : Addr) (x y : Int) (m : Str), vs = [.ref p, .str m] ∧ H p = some (.lst [.int x, .int y]) ∧ PoolOk x y ∧ m ∈ methods ∧
  ∀ (o : Option Ent) (v : V) H' x' y', Keep p H H' → H' p = some (.lst [.int x', .int y']) → PoolOk x' y' → OvAt K H' m o v → Q v H'
theorem meth_split : ∀ m ∈ methods, m ∈ (["item", "walk", "back", "grow", "plus", "call"] : List Str) ∨ m ∈ bodyM := by decide +kernel
theorem ok_entry (T : Txt K mg) (D : DefAt K mg "_law_entry" sL_entry ["_law_pool_here", "_law_method"]) (CL_take : CalG P w K mg base 1 "_law_take" spTake) (CL_part : CalG P w K mg base 6 "_law_part" (spPartA K 2)) : CalG P w K mg base 7 "_law_entry" (spEntry K) := by
  refine D.by scL_entry (fun vs H Q E h => ?_) (fun f cd A hg outer s H vs Q E hr h => ?_)
  · obtain ⟨_, _, _, _, rfl, _⟩ := h
    rfl
  · obtain ⟨p, x, y, m, rfl, hp, ok, hm, q⟩ := h
    refine ⟨_, (pss_cons (ps_set (i := 2) scL_entry.nd rfl (Or.inl rfl) (pe_cG CL_take hg hr (by decide) (pa_cons (pv 0) (pa_cons pe_int pa_nil))))
  (pss_cons (ps_if (pt_cmpR op_lt (pv 2) pe_int (nomark _))
  (pss_one (ps_ret pe_non))
  pss_nil)
  (pss_cons (ps_if (pt_cmpR op_eq (pv 2) pe_int (nomark _))
  (pss_one (ps_ret pe_str))
  pss_nil)
  (pss_cons (ps_if (PW.pt (pw_or (pt_cmpR op_lt (pv 2) pe_int (nomark _)) (pw_or1 (pt_cmpR (r := rIn K false) op_in_seq (pv 1) (pe_lst (pa_cons pe_str (pa_cons pe_str (pa_cons pe_str (pa_cons pe_str (pa_cons pe_str (pa_cons pe_str pa_nil))))))) (by rfl)))))
  (pss_one (ps_ret pe_str))
  pss_nil)
  (pss_one (ps_ret (pe_cG CL_part hg hr (by decide) (pa_cons (pv 0) (pa_cons (pv 1) (pa_cons pe_int (pa_cons pe_bl pa_nil))))))))))), ?_⟩
    repeat walk_at "rd"
    refine ⟨p, x, y, 12, rfl, hp, ok, by decide, by decide, fun r x2 y2 ok2 r0 r1 => ?_⟩
    have k1 : Keep p H (upd H p (.lst [.int x2, .int y2])) := Keep.put (fun _ _ _ e => e)
    have hp1 : upd H p (.lst [.int x2, .int y2]) p = some (.lst [.int x2, .int y2]) := upd_same
    generalize upd H p (.lst [.int x2, .int y2]) = H1 at k1 hp1 ⊢
    repeat walk_at "rd"
    refine Rd.dec (fun c => ?_) (fun c => ?_)
    · repeat walk_at "rd"
      exact q none .non H1 x2 y2 k1 hp1 ok2 rfl
    repeat walk_at "rd"
    refine Rd.dec (fun c => ?_) (fun c => ?_)
    · repeat walk_at "rd"
      exact q (some (.w "blocked")) _ H1 x2 y2 k1 hp1 ok2 ⟨rfl, by decide +kernel⟩
    repeat walk_at "rd"
    have nat : ∀ H2, Same H1 H2 → Q (.str "native") H2 := fun H2 s2 => q (some (.w "native")) _ H2 x2 y2 (k1.trans (Keep.same s2)) (s2 _ _ hp1) ok2 ⟨rfl, by decide +kernel⟩
    refine Rd.dec (fun c => ?_) (fun c => ?_)
    · repeat walk_at "rd"
      exact nat H1 (Same.refl _)
    repeat walk_at "rd"
    refine ⟨Rd.sz (by simp), fun l hl => ?_⟩
    have s2 := Rd.sNew (o := .lst ((["item", "walk", "back", "grow", "plus", "call"] : List Str).map V.str)) hl
    refine Rd.inL (xs := (["item", "walk", "back", "grow", "plus", "call"] : List Str).map V.str) (SqL.of upd_same) rfl (flat_strs _) ?_
    rw [inV_str]
    repeat walk_at "rd"
    refine Rd.bool (fun c => ?_) (fun c => ?_)
    · repeat walk_at "rd"
      exact nat _ s2
    · repeat walk_at "rd"
      have hb : m ∈ bodyM := (meth_split m hm).resolve_left (of_decide_eq_false c)
      refine ⟨2, Nat.le_refl _, p, x2, y2, m, true, rfl, s2 _ _ hp1, ok2, hb, fun v nd H3 x3 y3 k3 hp3 ok3 dp al de sz => ?_⟩
      have e13 : szD 2 = 13 := rfl
      exact q (some (.b nd)) v H3 x3 y3 ((k1.trans (Keep.same s2)).trans k3) hp3 ok3 ⟨dp, hm, (bodyM_iff m hm).mpr hb, al, by omega, by omega⟩
end
end Ab
namespace Ab
open M6 PySem.Spec PyProof.Rows
local macro_rules | `(tactic| walk_at "rd") => `(tactic| (with_reducible first | refine Rd.tt_ ?_ | refine Rd.ff_ ?_ | refine Rd.dget ?_))
/-! ### the law's own tables -/
structure OA where
  o : Addr
  w : Addr
  f : Addr
  nm : Addr
  ba : Addr
  od : Addr
  en : Addr
  g : Str → Addr
  gB : Str → Addr
  gO : Str → Addr
def own6 (a : OA) : List (Key × V) := [(.inr "ways", .ref a.w), (.inr "flags", .ref a.f), (.inr "names", .ref a.nm), (.inr "bases", .ref a.ba), (.inr "orders", .ref a.od), (.inr "entries", .ref a.en)]
abbrev EsL := List ((Str × Str) × Ent)
def EsAt (K : PySem.W.Frag) (H : Hp) (e : (Str × Str) × Ent) (kv : List Key × V) : Prop := kv.1 = [.inr e.1.1, .inr e.1.2] ∧ EvAt K H e.1.2 e.2 kv.2
structure OwnA (K : PySem.W.Frag) (H : Hp) (a : OA) (m : Str → List Str) (fl : Str → Bool) (ws ns : List Str) (bs od : Str → List Str) (es : EsL) : Prop where
  kv : H a.o = some (.dK (own6 a))
  wd : H a.w = some (.dK (tab ops fun y => .ref (a.g y)))
  fd : H a.f = some (.lst (flagsW.map fun x => .bl (fl x)))
  tp : ∀ y ∈ ops, SqT K H (a.g y) ((m y).map V.str)
  nm : H a.nm = some (.lst (ws.map V.str))
  ba : BasesAt K H a.ba ns a.gB bs
  dO : H a.od = some (.dK (tab ns fun n => .ref (a.gO n)))
  ol : ∀ n ∈ ns, H (a.gO n) = some (.lst ((od n).map V.str))
  en : ∃ kvs, H a.en = some (.dT kvs) ∧ Paired (EsAt K H) es kvs
  nd : [a.o, a.w, a.ba, a.od].Nodup
section
variable {K : PySem.W.Frag} {H H' : Hp} {a : OA} {m : Str → List Str} {fl : Str → Bool} {ws ns : List Str} {bs od : Str → List Str} {es : EsL} {p : Addr} {x y : Int}
theorem OwnA.mono (h : OwnA K H a m fl ws ns bs od es) (s : Same H H') : OwnA K H' a m fl ws ns bs od es where
  kv := s _ _ h.kv
  wd := s _ _ h.wd
  fd := s _ _ h.fd
  tp := fun y hy => sqT_same s (h.tp y hy)
  nm := s _ _ h.nm
  ba := h.ba.mono s
  dO := s _ _ h.dO
  ol := fun n hn => s _ _ (h.ol n hn)
  en := let ⟨kvs, e, p⟩ := h.en; ⟨kvs, s _ _ e, Rd.pair_imp (fun _ _ ⟨c, d⟩ => ⟨c, d.mono s⟩) p⟩
  nd := h.nd
theorem ne_pool {a : Addr} {l : List Str} (hp : H p = some (.lst [.int x, .int y])) (h : H a = some (.lst (l.map V.str))) : a ≠ p := fun e => by
  rw [e, hp] at h
  cases l with
  | nil => cases h
  | cons z r => cases h
theorem ne_poolF {a : Addr} {fl : Str → Bool} (hp : H p = some (.lst [.int x, .int y])) (h : H a = some (.lst (flagsW.map fun x => .bl (fl x)))) : a ≠ p := fun e => by
  rw [e, hp] at h
  cases h
theorem ne_poolK {a : Addr} {kv : List (Key × V)} (hp : H p = some (.lst [.int x, .int y])) (h : H a = some (.dK kv)) : a ≠ p := fun e => by
  rw [e, hp] at h
  cases h
theorem ne_poolT {a : Addr} {kv : List (List Key × V)} (hp : H p = some (.lst [.int x, .int y])) (h : H a = some (.dT kv)) : a ≠ p := fun e => by
  rw [e, hp] at h
  cases h
/-- only a list that is not its own has gone on -/
theorem OwnA.keepL {xs : List V} (h : OwnA K H a m fl ws ns bs od es) (hp : H p = some (.lst xs)) (k : Keep p H H') (d1 : ∀ b ∈ ns, a.gO b ≠ p) (d2 : a.nm ≠ p) (d3 : a.f ≠ p) : OwnA K H' a m fl ws ns bs od es := by
  have dk : ∀ {b : Addr} {kv : List (Key × V)}, H b = some (.dK kv) → H' b = some (.dK kv) := fun e => k _ _ (fun c => by rw [c, hp] at e; cases e) e
  exact {
    kv := dk h.kv
    wd := dk h.wd
    fd := k _ _ d3 h.fd
    tp := fun y hy => sqT_keep k (nt_lst hp) (h.tp y hy)
    nm := k _ _ d2 h.nm
    ba := ⟨dk h.ba.dt, fun n hn => sqT_keep k (nt_lst hp) (h.ba.tp n hn)⟩
    dO := dk h.dO
    ol := fun n hn => k _ _ (d1 n hn) (h.ol n hn)
    en := let ⟨kvs, e, r⟩ := h.en; ⟨kvs, k _ _ (fun c => by rw [c, hp] at e; cases e) e, Rd.pair_imp (fun _ _ ⟨c, d⟩ => ⟨c, d.keep k (nt_lst hp)⟩) r⟩
    nd := h.nd }
/-- only the pool has gone on -/
theorem OwnA.pool (h : OwnA K H a m fl ws ns bs od es) (hp : H p = some (.lst [.int x, .int y])) (k : Keep p H H') : OwnA K H' a m fl ws ns bs od es :=
  h.keepL hp k (fun n hn => ne_pool hp (h.ol n hn)) (ne_pool hp h.nm) (ne_poolF hp h.fd)
theorem OwnA.grow {H8 H11 : Hp} {n : Str} {T M : Addr} {l r : List Str} (h : OwnA K H8 a m fl ws ns bs od es) (nn : n ∉ ns) (hT : SqT K H8 T (l.map V.str)) (s : Same (upd H8 a.ba (.dK (tab (ns ++ [n]) fun z => .ref (fset a.gB n T z)))) H11) (hM : H11 M = some (.lst ((n :: r).map V.str))) :
    OwnA K (upd H11 a.od (.dK (tab (ns ++ [n]) fun z => .ref (fset a.gO n M z)))) { a with gB := fset a.gB n T, gO := fset a.gO n M } m fl ws (ns ++ [n]) (fset bs n l) (fset od n (n :: r)) es := by
  have nd := h.nd
  simp only [List.nodup_cons, List.mem_cons, List.not_mem_nil, or_false, not_or] at nd
  obtain ⟨⟨o1, o2, o3⟩, ⟨w2, w3⟩, b3, _⟩ := nd
  have sub : ∀ z ∈ ns, z ≠ n := fun z hz e => nn (by rw [← e]; exact hz)
  have mem : ∀ z, z ∈ ns ++ [n] → z = n ∨ z ∈ ns := fun z hz => (List.mem_append.mp hz).elim Or.inr fun h => .inl (List.mem_singleton.mp h)
  have k9 : Keep a.ba H8 H11 := fun b u ne e => s _ _ (by rw [upd_ne ne]; exact e)
  have ba11 := s _ _ upd_same
  have nt8 := nt_dK h.ba.dt
  have od11 := k9 _ _ (Ne.symm b3) h.dO
  have nt11 := nt_dK od11
  have kk : ∀ {b : Addr} {u : HO}, H8 b = some u → b ≠ a.ba → b ≠ a.od → upd H11 a.od (.dK (tab (ns ++ [n]) fun z => .ref (fset a.gO n M z))) b = some u := fun e c1 c2 => by rw [upd_ne c2]; exact k9 _ _ c1 e
  have kl : ∀ {b : Addr} {xs : List V}, H8 b = some (.lst xs) → upd H11 a.od (.dK (tab (ns ++ [n]) fun z => .ref (fset a.gO n M z))) b = some (.lst xs) := fun e => kk e (fun c => by rw [c, h.ba.dt] at e; cases e) (fun c => by rw [c, h.dO] at e; cases e)
  have tt : ∀ {b : Addr} {xs : List V}, SqT K H8 b xs → SqT K (upd H11 a.od (.dK (tab (ns ++ [n]) fun z => .ref (fset a.gO n M z)))) b xs := fun e => sqT_upd nt11 (sqT_keep k9 nt8 e)
  exact {
    kv := kk h.kv o2 o3
    wd := kk h.wd w2 w3
    fd := kl h.fd
    tp := fun y hy => tt (h.tp y hy)
    nm := kl h.nm
    ba := ⟨by
      show upd H11 a.od _ a.ba = _
      rw [upd_ne b3]
      exact ba11, fun z hz => by
      show SqT K _ (fset a.gB n T z) ((fset bs n l z).map V.str)
      rcases mem z hz with rfl | hz
      · rw [fset_at, fset_at]; exact tt hT
      · rw [fset_ne (sub z hz), fset_ne (sub z hz)]; exact tt (h.ba.tp z hz)⟩
    dO := upd_same
    ol := fun z hz => by
      show upd H11 a.od _ (fset a.gO n M z) = some (.lst ((fset od n (n :: r) z).map V.str))
      rcases mem z hz with rfl | hz
      · rw [fset_at, fset_at, upd_ne (fun c => by rw [c, od11] at hM; cases hM)]; exact hM
      · rw [fset_ne (sub z hz), fset_ne (sub z hz)]; exact kl (h.ol z hz)
    en := let ⟨kvs, e, r⟩ := h.en; ⟨kvs, kk e (fun c => by rw [c, h.ba.dt] at e; cases e) (fun c => by rw [c, h.dO] at e; cases e), Rd.pair_imp (fun _ _ ⟨c, d⟩ => ⟨c, (d.keep k9 nt8).keep (Keep.put fun _ _ _ e => e) nt11⟩) r⟩
    nd := h.nd }
theorem OwnA.get {k : Str} {v : V} (h : OwnA K H a m fl ws ns bs od es) (e : valV (own6 a) (.inr k) = some v) : DGet H a.o (.str k) (some v) := .inl ⟨_, .inr k, .inl h.kv, rfl, e.symm⟩
theorem OwnA.book (h : OwnA K H a m fl ws ns bs od es) : OwB K H a.o a.w a.f a.g m fl :=
  ⟨⟨_, h.kv, rfl, rfl⟩, h.wd, h.fd, h.tp, fun e => by have := h.nd; rw [e] at this; simp at this⟩
end
section
variable {P : Program} {w : World} {K : PySem.W.Frag} {mg : Str → Option Value} {base : Heap}
abbrev sL_bases : Stmt := top 79
abbrev nL_bases : List Str := ["_law_pool_here", "_law_own_here", "_law_name", "_law_ahead", "_law_some", "_law_turn", "_law_one_here", "_law_orders", "_law_rest"]
theorem scL_bases : FnScope nL_bases ["_law_pool_here", "_law_own_here", "_law_name", "_law_ahead"] (defScope sL_bases) := ⟨rfl, rfl, rfl, by decide +kernel, rfl, by decide +kernel, by decide +kernel⟩
def spLBases (K : PySem.W.Frag) : Sp := fun vs H Q _ => ∃ (H0 : Hp) (p : Addr) (x y : Int) (a : OA) (m : Str → List Str) (fl : Str → Bool) (ws ns : List Str) (bs od : Str → List Str) (es : EsL) (n : Str) (L : Addr), vs = [.ref p, .ref a.o, .str n, .ref L] ∧
  H p = some (.lst [.int x, .int y]) ∧ PoolOk x y ∧ OwnA K H a m fl ws ns bs od es ∧ H L = some (.lst (ns.map V.str)) ∧ Keep p H0 H ∧ H0 a.ba = none ∧ H0 a.od = none ∧ n ∉ ns ∧ ns.length < 8 ∧ TOk ns bs od ∧ (∀ z ∈ ns, W6.W 100 z) ∧
  ∀ gB gO bs' od' l r H' x' y', Keep p H0 H' → H' p = some (.lst [.int x', .int y']) → PoolOk x' y' → OwnA K H' { a with gB := gB, gO := gO } m fl ws (ns ++ [n]) bs' od' es → (∀ b ∈ l, b ∈ ns) → l.length ≤ 2 → mrg (l.map od ++ [l]) = some r → bs' = fset bs n l → od' = fset od n (n :: r) → Q .non H'
theorem ok_lbases (T : Txt K mg) (D : DefAt K mg "_law_bases" sL_bases ["_law_pool_here", "_law_own_here", "_law_name", "_law_ahead"]) (CL_take : CalG P w K mg base 1 "_law_take" spTake) (CL_one : CalG P w K mg base 2 "_law_one" (spOne K)) (CL_merge : CalG P w K mg base 1 "_law_merge" (Lm.spMerge K)) : CalG P w K mg base 3 "_law_bases" (spLBases K) := by
  refine D.by scL_bases (fun vs H Q E h => ?_) (fun f cd A hg outer s H vs Q E hr h => ?_)
  · obtain ⟨_, _, _, _, _, _, _, _, _, _, _, _, _, _, rfl, _⟩ := h
    rfl
  · obtain ⟨H0, p, x, y, a, m, fl, ws, ns, bs, od, es, n, L, rfl, hp, ok, ow, hL, kp, n1, n2, nn, l8, tk, hW, q⟩ := h
    refine ⟨_, (pss_cons (ps_set (i := 4) scL_bases.nd rfl (Or.inl rfl) (pe_lst pa_nil))
  (pss_cons (ps_for PassesOwn.never rfl (pi_range1 (by rfl) T.range (pa_cons (pe_cG CL_take hg hr (by decide) (pa_cons (pv 0) (pa_cons pe_int pa_nil))) pa_nil)) (pg_name (i := 5) scL_bases.nd rfl (Or.inl rfl))
  (pss_cons (ps_set (i := 6) scL_bases.nd rfl (Or.inl rfl) (pe_cG CL_one hg hr (by decide) (pa_cons (pv 0) (pa_cons (pe_op op_cat (pv 3) (pe_lst (pa_cons (pv 2) pa_nil))) pa_nil))))
  (pss_one (ps_if (PW.pt (pw_and (pt_cmpR op_ne (pv 6) (pv 2) (nomark _)) (pw_and1 (pt_cmpR (r := rIn K true) op_notIn_seq (pv 6) (pv 4) (by rfl)))))
  (pss_one (ps_expr (pe_bm PySem.F.plainAttrs_list PySem.F.slot_list_append PySem.F.type_list_append mt_append (pv 4) (pa_cons (pv 6) pa_nil))))
  pss_nil))))
  (pss_cons (ps_setLc (i := 7) (wi := iList K _) (own := [("_law_one_here", 6)]) (g := gName 6) (by rfl) scL_bases.nd rfl rfl (sw_true rfl rfl rfl (by decide +kernel)) (pi_list (pv 4)) (blkOk_by (N := nL_bases) (sc := defScope sL_bases) (by decide +kernel)) (fun _ _ _ _ _ => pg_name (i := 6) scL_bases.nd rfl (Or.inl rfl)) (fun _ _ _ _ _ => pts_nil) (fun _ _ _ _ _ => (pe_dget (one_ hr.units) (pe_dget (one_ hr.units) (pv 1) pe_str (fun _ _ => rfl)) (pv 6) (fun _ _ => rfl))))
  (pss_cons (ps_set (i := 8) scL_bases.nd rfl (Or.inl rfl) (pe_cG CL_merge hg hr (by decide) (pa_cons (pe_op op_cat (pv 7) (pe_lst (pa_cons (pv 4) pa_nil))) pa_nil)))
  (C8.pss_cut (ps_if (pt_cmpR op_isN (pv 8) pe_non (nomark _))
  (pss_cons (ps_set (i := 4) scL_bases.nd rfl (Or.inl rfl) (pe_slice (r := rSlL K) sl_list (pv 4) po_none (po_some pe_int)))
  (pss_one (ps_set (i := 8) scL_bases.nd rfl (Or.inl rfl) (pe_ix (r := rIxL K) ix_list (pv 7) pe_int (fun _ _ => rfl)))))
  pss_nil)
  (pss_cons (ps_asg (pe_callTy call_tuple_of (by rfl) T.tuple (by decide +kernel) (pa_cons (pv 4) pa_nil)) (pg_sub (pe_dget (one_ hr.units) (pv 1) pe_str (fun _ _ => rfl)) (pv 2) (set_dict (one_ hr.units))))
  (pss_one (ps_asg (pe_op op_cat (pe_lst (pa_cons (pv 2) pa_nil)) (pv 8)) (pg_sub (pe_dget (one_ hr.units) (pv 1) pe_str (fun _ _ => rfl)) (pv 2) (set_dict (one_ hr.units))))))))))), ?_⟩
    repeat walk_at "rd"
    refine ⟨Rd.sz (by simp), fun S hS => ?_⟩
    have s1 := Rd.sNew (o := .lst []) hS
    have S1 : upd H S (.lst []) S = some (.lst []) := upd_same
    have kp1 := kp.trans (Keep.same (p := p) s1)
    have ow1 := ow.mono s1
    have hp1 := s1 _ _ hp
    have hL1 := s1 _ _ hL
    generalize upd H S (.lst []) = H1 at s1 S1 kp1 ow1 hp1 hL1 ⊢
    repeat walk_at "rd"
    refine ⟨p, x, y, 3, rfl, hp1, ok, by decide, by decide, fun r x2 y2 ok2 r0 r1 => ?_⟩
    repeat walk_at "rd"
    refine Rd.rng r0 (by omega) ?_
    have kq : Keep p H1 (upd H1 p (.lst [.int x2, .int y2])) := Keep.put (fun _ _ _ e => e)
    have pS : S ≠ p := fun e => by rw [e, hp] at hS; cases hS
    refine Rd.forGo (fun i σ H2 => ∃ (z5 z6 : Option V) (sm : List Str) (x y : Int), σ = [some (.ref p), some (.ref a.o), some (.str n), some (.ref L), some (.ref S), z5, z6, none, none] ∧ H2 S = some (.lst (sm.map V.str)) ∧ sm.length ≤ i ∧ (∀ b ∈ sm, b ∈ ns) ∧ PoolOk x y ∧ H2 p = some (.lst [.int x, .int y]) ∧
      Keep p H0 H2 ∧ OwnA K H2 a m fl ws ns bs od es ∧ H2 L = some (.lst (ns.map V.str)) ∧ H0 S = none ∧ (∀ b ∈ ns, a.gO b ≠ S) ∧ a.nm ≠ S ∧ a.f ≠ S ∧ L ≠ S) ?_ ?_ ?_
    · have ne : ∀ {b : Addr} {o : HO}, H b = some o → b ≠ S := fun h e => by rw [e, hS] at h; cases h
      exact ⟨none, none, [], x2, y2, rfl, kq _ _ pS S1, Nat.zero_le _, fun b hb => (nomatch hb), ok2, upd_same, kp1.trans kq, ow1.pool hp1 kq, kq _ _ (ne_pool hp1 hL1) hL1, Keep.fr kp hp hS, fun b hb => ne (ow.ol b hb), ne ow.nm, ne ow.fd, ne hL⟩
    · rintro i σ H2 hi ⟨z5, z6, sm, x3, y3, rfl, S2, sl, sub, ok3, hp2, kp2, ow2, hL2, nS, d1, d2, d3, d4⟩
      repeat walk_at "rd"
      refine ⟨Rd.sz (by simp), fun N hN => ?_⟩
      have s3 := Rd.sNew (o := .lst [.str n]) hN
      refine ⟨L, N, _, _, rfl, rfl, s3 _ _ hL2, upd_same, Nat.le_of_lt (Rd.szl (by rw [List.length_map]; simp; omega)), fun M hM => ?_⟩
      have e1 : ns.map V.str ++ [V.str n] = (ns ++ [n]).map V.str := by rw [List.map_append]; rfl
      rw [e1]
      have s4 := s3.trans (Rd.sNew (o := .lst ((ns ++ [n]).map V.str)) hM)
      have M4 : upd (upd H2 N (.lst [.str n])) M (.lst ((ns ++ [n]).map V.str)) M = some (.lst ((ns ++ [n]).map V.str)) := upd_same
      have hM2 : H2 M = none := Same.free s3 hM
      generalize upd (upd H2 N (.lst [.str n])) M (.lst ((ns ++ [n]).map V.str)) = H4 at s4 M4 ⊢
      repeat walk_at "rd"
      have pM := ne_pool (s4 _ _ hp2) M4
      refine ⟨p, M, x3, y3, _, rfl, s4 _ _ hp2, SqL.of M4, fun o => SqL.of (by rw [upd_ne pM]; exact M4), ok3, by simp, by rw [List.length_map, List.length_append]; show ns.length + 1 < 1000; omega, fun v x4 y4 hv ok4 => ?_⟩
      obtain ⟨z, hz, rfl⟩ := List.mem_map.mp hv
      have k5 : Keep p H2 (upd H4 p (.lst [.int x4, .int y4])) := (Keep.same s4).put
      have hp5 : upd H4 p (.lst [.int x4, .int y4]) p = some (.lst [.int x4, .int y4]) := upd_same
      generalize upd H4 p (.lst [.int x4, .int y4]) = H5 at k5 hp5 ⊢
      have S5 := k5 _ _ pS S2
      have kp5 := kp2.trans k5
      have ow5 := ow2.pool hp2 k5
      have hL5 := k5 _ _ (ne_pool hp2 hL2) hL2
      repeat walk_at "rd"
      have fin : ∀ (H6 : Hp) (sm6 : List Str), H6 S = some (.lst (sm6.map V.str)) → sm6.length ≤ i + 1 → (∀ b ∈ sm6, b ∈ ns) → Keep S H5 H6 → ∃ (z5 z6 : Option V) (sm : List Str) (x y : Int), ([some (V.ref p), some (.ref a.o), some (.str n), some (.ref L), some (.ref S), some (.int (i : Int)), some (.str z), none, none] : L2.St) = [some (.ref p), some (.ref a.o), some (.str n), some (.ref L), some (.ref S), z5, z6, none, none] ∧ H6 S = some (.lst (sm.map V.str)) ∧ sm.length ≤ i + 1 ∧ (∀ b ∈ sm, b ∈ ns) ∧ PoolOk x y ∧ H6 p = some (.lst [.int x, .int y]) ∧
          Keep p H0 H6 ∧ OwnA K H6 a m fl ws ns bs od es ∧ H6 L = some (.lst (ns.map V.str)) ∧ H0 S = none ∧ (∀ b ∈ ns, a.gO b ≠ S) ∧ a.nm ≠ S ∧ a.f ≠ S ∧ L ≠ S := fun H6 sm6 h1 h2 h3 k6 =>
        ⟨_, _, sm6, x4, y4, rfl, h1, h2, h3, ok4, k6 _ _ (Ne.symm pS) hp5, fun b o nb e => k6 _ _ (fun c => by rw [c, nS] at e; cases e) (kp5 _ _ nb e), ow5.keepL S5 k6 d1 d2 d3, k6 _ _ d4 hL5, nS, d1, d2, d3, d4⟩
      refine Rd.bool (fun c => ?_) (fun c => ?_)
      · have zn : z ≠ n := fun e => by subst e; simp at c
        have zi : z ∈ ns := (List.mem_append.mp hz).resolve_right fun h => zn (List.mem_singleton.mp h)
        repeat walk_at "rd"
        refine Rd.inL (SqL.of S5) rfl (flat_strs _) ?_
        rw [if_pos rfl, inV_str]
        refine ⟨_, rfl, ?_⟩
        refine Rd.bool (fun c2 => ?_) (fun c2 => ?_)
        · repeat walk_at "rd"
          refine ⟨Rd.ty_list S5, ?_⟩
          repeat walk_at "rd"
          refine Rd.app S5 (Rd.szl (by rw [List.length_map]; omega)) ?_
          have e2 : sm.map V.str ++ [V.str z] = (sm ++ [z]).map V.str := by rw [List.map_append]; rfl
          rw [e2]
          exact fin _ (sm ++ [z]) upd_same (by rw [List.length_append]; exact Nat.succ_le_succ sl) (fun b hb => (List.mem_append.mp hb).elim (sub b) fun h => by rw [List.mem_singleton.mp h]; exact zi) (Keep.put fun _ _ _ e => e)
        · repeat walk_at "rd"
          exact fin _ sm S5 (Nat.le_succ_of_le sl) sub (Keep.same (Same.refl _))
      · repeat walk_at "rd"
        exact fin _ sm S5 (Nat.le_succ_of_le sl) sub (Keep.same (Same.refl _))
    · rintro σ H2 ⟨z5, z6, sm, x3, y3, rfl, S2, sl, sub, ok3, hp2, kp2, ow2, hL2, nS, d1, d2, d3, d4⟩
      repeat walk_at "rd"
      have gets : ∀ {H3 : Hp}, OwnA K H3 a m fl ws ns bs od es → DGet H3 a.o (.str "orders") (some (.ref a.od)) := fun o3 => o3.get rfl
      refine Rd.lcL (K := K) (a := S) (xs := sm.map V.str) (bs := sm) (fun s v _ => v = .str s) (fun s v _ => v = .ref (a.gO s)) (fun _ => true) id (fun R k => Rd.var rfl k) (SqL.of S2) (fun _ _ _ _ _ h => h) (fun _ _ _ _ _ h => h) (strs_pair _ H2) (by rw [List.length_map]; omega) (fun _ => rfl) ?_ ?_ ?_
      · rintro s v H3 R hm rfl _ s3 k
        repeat walk_at "rd"
        exact k _ (Same.refl _)
      · rintro s v H3 R hm _ rfl _ s3 k
        have ow3 := ow2.mono s3
        repeat walk_at "rd"
        refine ⟨a.o, _, rfl, gets ow3, ?_⟩
        repeat walk_at "rd"
        exact ⟨a.od, _, rfl, get_tab ow3.dO (sub s hm), k _ _ (Same.refl _) (Rd.off_any rfl)⟩
      intro O ys H3 hO s3 O3 pr
      have ey : ys = sm.map fun s => V.ref (a.gO s) := by
        rw [List.filter_eq_self.mpr (fun _ _ => rfl), List.map_id] at pr
        exact Rd.pair_map pr
      subst ey
      have ow3 := ow2.mono s3
      have S3 := s3 _ _ S2
      have kp3 := kp2.trans (Keep.same (p := p) s3)
      have hp3 := s3 _ _ hp2
      repeat walk_at "rd"
      refine ⟨Rd.sz (by simp), fun N hN => ?_⟩
      have s4 := Rd.sNew (o := .lst [.ref S]) hN
      refine ⟨O, N, _, _, rfl, rfl, s4 _ _ O3, upd_same, Nat.le_of_lt (Rd.szl (by rw [List.length_map]; simp; omega)), fun R hR => ?_⟩
      have s5 := s4.trans (Rd.sNew (o := .lst (sm.map (fun s => V.ref (a.gO s)) ++ [.ref S])) hR)
      have R5 : upd (upd H3 N (.lst [.ref S])) R (.lst (sm.map (fun s => V.ref (a.gO s)) ++ [.ref S])) R = some (.lst (sm.map (fun s => V.ref (a.gO s)) ++ [.ref S])) := upd_same
      generalize upd (upd H3 N (.lst [.ref S])) R (.lst (sm.map (fun s => V.ref (a.gO s)) ++ [.ref S])) = H5 at s5 R5 ⊢
      have ow5 := ow3.mono s5
      have S5 := s5 _ _ S3
      have O5 := s5 _ _ O3
      have kp5 := kp3.trans (Keep.same (p := p) s5)
      have hp5 := s5 _ _ hp3
      have rows : Lm.RowsAt K (sm.map od ++ [sm]) R H5 := by
        refine ⟨_, SqL.of R5, pair_sn ?_ ⟨S, rfl, SqL.of S5⟩⟩
        have go : ∀ l : List Str, (∀ b ∈ l, b ∈ ns) → Paired (fun r x => Lm.Strs K r x H5) (l.map od) (l.map fun s => V.ref (a.gO s)) := fun l => by
          induction l with
          | nil => exact fun _ => .nil
          | cons b l ih => exact fun h => .cons ⟨a.gO b, rfl, SqL.of (ow5.ol b (h b List.mem_cons_self))⟩ (ih fun c hc => h c (List.mem_cons_of_mem _ hc))
        exact go sm sub
      have rs : Dt.Rs (sm.map od ++ [sm]) := by
        refine ⟨by rw [List.length_append, List.length_map]; show sm.length + 1 ≤ 100; omega, fun r hr => ?_⟩
        rcases List.mem_append.mp hr with hr | hr
        · obtain ⟨b, hb, rfl⟩ := List.mem_map.mp hr
          obtain ⟨_, _, _, h3, h4⟩ := tk.head (sub b hb)
          exact ⟨by omega, fun z hz => hW z (h3 z hz)⟩
        · obtain rfl := List.mem_singleton.mp hr
          exact ⟨by omega, fun z hz => hW z (sub z hz)⟩
      repeat walk_at "rd"
      refine ⟨R, _, rfl, rows, rs, fun en H6 s6 => ?_, fun rr er Rr H6 hRr s6 R6 => ?_⟩
      · have ow6 := ow5.mono s6
        have S6 := s6 _ _ S5
        have O6 := s6 _ _ O5
        obtain ⟨b0, sm', rfl⟩ : ∃ b0 sm', sm = b0 :: sm' := by
          cases sm with
          | nil => exact absurd en (by rw [show mrg ((([] : List Str).map od) ++ [[]]) = some [] from rfl]; simp)
          | cons b0 t => exact ⟨b0, t, rfl⟩
        have hb0 := sub b0 List.mem_cons_self
        obtain ⟨t, et, ndt, _⟩ := tk.head hb0
        repeat walk_at "rd"
        refine Rd.cut (fun σ' H7 => ∃ (z5 z6 z7 : Option V) (l r : List Str) (Sx Rx : Addr), σ' = [some (.ref p), some (.ref a.o), some (.str n), some (.ref L), some (.ref Sx), z5, z6, z7, some (.ref Rx)] ∧ Same H6 H7 ∧ H7 Sx = some (.lst (l.map V.str)) ∧ H7 Rx = some (.lst (r.map V.str)) ∧ (∀ b ∈ l, b ∈ ns) ∧ l.length ≤ 2 ∧ mrg (l.map od ++ [l]) = some r) ?_ (fun σ' H7 h => ?_)
        · repeat walk_at "rd"
          refine Rd.dec (fun _ => ?_) (fun c => absurd rfl c)
          repeat walk_at "rd"
          refine Rd.slL (SqL.of S6) fun q6 hq6 => ?_
          rw [cutS1]
          repeat walk_at "rd"
          refine Rd.ixL (SqL.of (Rd.sNew hq6 _ _ O6)) (by exact Rd.at0) ?_
          repeat walk_at "rd"
          exact ⟨_, _, _, [b0], od b0, q6, a.gO b0, rfl, Rd.sNew hq6, upd_same, Rd.sNew hq6 _ _ (ow6.ol b0 hb0), fun b hb => by rw [List.mem_singleton.mp hb]; exact hb0, by show 1 ≤ 2; omega, by show mrg [od b0, [b0]] = some (od b0); rw [et]; exact mrg_base ndt⟩
        · obtain ⟨z5, z6, z7, l, r, Sx, Rx, rfl, s7, Sx7, Rx7, hl, l2, hm⟩ := h
          have ow7 := ow6.mono s7
          have kp7 := (kp5.trans (Keep.same (p := p) s6)).trans (Keep.same s7)
          have hp7 := s7 _ _ (s6 _ _ hp5)
          have rl := (M7.merges hm).nd
          repeat walk_at "rd"
          refine ⟨Sx, _, rfl, .inl ⟨SqL.of Sx7, fun T hT => ?_⟩⟩
          have s8 := Rd.sNew (o := .tup (l.map V.str)) hT
          have T8 : SqT K (upd H7 T (.tup (l.map V.str))) T (l.map V.str) := .inl (.inl upd_same)
          generalize upd H7 T (.tup (l.map V.str)) = H8 at s8 T8 ⊢
          have ow8 := ow7.mono s8
          have kp8 := kp7.trans (Keep.same (p := p) s8)
          have hp8 := s8 _ _ hp7
          have Rx8 := s8 _ _ Rx7
          repeat walk_at "rd"
          refine ⟨a.o, _, rfl, ow8.get (k := "bases") rfl, ?_⟩
          repeat walk_at "rd"
          refine ⟨a.ba, _, rfl, .inl ⟨_, .inr n, ow8.ba.dt, rfl, by rw [tab_len]; exact Rd.szl (by omega), rfl⟩, ?_⟩
          rw [tab_put_new nn, fset_ref]
          have kp9 := Keep.mut (o := .dK (tab (ns ++ [n]) fun z => .ref (fset a.gB n T z))) kp8 n1
          have hp9 : upd H8 a.ba (.dK (tab (ns ++ [n]) fun z => .ref (fset a.gB n T z))) p = some (.lst [.int x3, .int y3]) := by rw [upd_ne (Ne.symm (ne_poolK hp8 ow8.ba.dt))]; exact hp8
          have Rx9 : upd H8 a.ba (.dK (tab (ns ++ [n]) fun z => .ref (fset a.gB n T z))) Rx = some (.lst (r.map V.str)) := by rw [upd_ne (fun c => by rw [c, ow8.ba.dt] at Rx8; cases Rx8)]; exact Rx8
          have kv9 : upd H8 a.ba (.dK (tab (ns ++ [n]) fun z => .ref (fset a.gB n T z))) a.o = some (.dK (own6 a)) := by
            have nd := ow8.nd
            simp only [List.nodup_cons, List.mem_cons, List.not_mem_nil, or_false, not_or] at nd
            rw [upd_ne nd.1.2.1]; exact ow8.kv
          have od9 : upd H8 a.ba (.dK (tab (ns ++ [n]) fun z => .ref (fset a.gB n T z))) a.od = some (.dK (tab ns fun n => .ref (a.gO n))) := by
            have nd := ow8.nd
            simp only [List.nodup_cons, List.mem_cons, List.not_mem_nil, or_false, not_or] at nd
            rw [upd_ne (Ne.symm nd.2.2.1)]; exact ow8.dO
          have gr := fun H11 M s hM => OwnA.grow (H11 := H11) (M := M) (r := r) ow8 nn T8 s hM
          generalize upd H8 a.ba (.dK (tab (ns ++ [n]) fun z => .ref (fset a.gB n T z))) = H9 at kp9 hp9 Rx9 kv9 od9 gr ⊢
          repeat walk_at "rd"
          refine ⟨Rd.sz (by simp), fun N2 hN2 => ?_⟩
          have s10 := Rd.sNew (o := .lst [.str n]) hN2
          have rz : r.length ≤ 20 := by
            have h1 := nodup_le rl fun z hz => by
              obtain ⟨row, hr, hz⟩ := ((M7.merges hm).mem z).mp hz
              show z ∈ ns
              rcases List.mem_append.mp hr with hr | hr
              · obtain ⟨b, hb, rfl⟩ := List.mem_map.mp hr
                obtain ⟨_, _, _, h3, _⟩ := tk.head (hl b hb)
                exact h3 z hz
              · obtain rfl := List.mem_singleton.mp hr
                exact hl z hz
            omega
          repeat walk_at "rd"
          refine ⟨N2, Rx, _, _, rfl, rfl, upd_same, s10 _ _ Rx9, Nat.le_of_lt (Rd.szl (by rw [List.length_map]; simp; omega)), fun M hM => ?_⟩
          have s11 := s10.trans (Rd.sNew (o := .lst ([.str n] ++ r.map V.str)) hM)
          have M11 : upd (upd H9 N2 (.lst [.str n])) M (.lst ([.str n] ++ r.map V.str)) M = some (.lst ((n :: r).map V.str)) := upd_same
          generalize upd (upd H9 N2 (.lst [.str n])) M (.lst ([.str n] ++ r.map V.str)) = H11 at s11 M11 ⊢
          repeat walk_at "rd"
          refine ⟨a.o, _, rfl, .inl ⟨_, .inr "orders", .inl (s11 _ _ kv9), rfl, rfl⟩, ?_⟩
          repeat walk_at "rd"
          refine ⟨a.od, _, rfl, .inl ⟨_, .inr n, s11 _ _ od9, rfl, by rw [tab_len]; exact Rd.szl (by omega), rfl⟩, ?_⟩
          rw [tab_put_new nn, fset_ref]
          exact q _ _ _ _ l r _ x3 y3 (Keep.mut (kp9.trans (Keep.same s11)) n2) (by rw [upd_ne (fun c => by have := s11 _ _ od9; rw [← c, s11 _ _ hp9] at this; cases this)]; exact s11 _ _ hp9) ok3 (gr H11 M s11 M11) hl l2 hm rfl rfl
      · have ow6 := ow5.mono s6
        have S6 := s6 _ _ S5
        repeat walk_at "rd"
        refine Rd.cut (fun σ' H7 => ∃ (z5 z6 z7 : Option V) (l r : List Str) (Sx Rx : Addr), σ' = [some (.ref p), some (.ref a.o), some (.str n), some (.ref L), some (.ref Sx), z5, z6, z7, some (.ref Rx)] ∧ Same H6 H7 ∧ H7 Sx = some (.lst (l.map V.str)) ∧ H7 Rx = some (.lst (r.map V.str)) ∧ (∀ b ∈ l, b ∈ ns) ∧ l.length ≤ 2 ∧ mrg (l.map od ++ [l]) = some r) ?_ (fun σ' H7 h => ?_)
        · repeat walk_at "rd"
          refine Rd.dec (fun c => nomatch c) (fun _ => ?_)
          repeat walk_at "rd"
          exact ⟨_, _, _, sm, rr, S, Rr, rfl, Same.refl _, S6, R6, sub, by omega, er⟩
        · obtain ⟨z5, z6, z7, l, r, Sx, Rx, rfl, s7, Sx7, Rx7, hl, l2, hm⟩ := h
          have ow7 := ow6.mono s7
          have kp7 := (kp5.trans (Keep.same (p := p) s6)).trans (Keep.same s7)
          have hp7 := s7 _ _ (s6 _ _ hp5)
          have rl := (M7.merges hm).nd
          repeat walk_at "rd"
          refine ⟨Sx, _, rfl, .inl ⟨SqL.of Sx7, fun T hT => ?_⟩⟩
          have s8 := Rd.sNew (o := .tup (l.map V.str)) hT
          have T8 : SqT K (upd H7 T (.tup (l.map V.str))) T (l.map V.str) := .inl (.inl upd_same)
          generalize upd H7 T (.tup (l.map V.str)) = H8 at s8 T8 ⊢
          have ow8 := ow7.mono s8
          have kp8 := kp7.trans (Keep.same (p := p) s8)
          have hp8 := s8 _ _ hp7
          have Rx8 := s8 _ _ Rx7
          repeat walk_at "rd"
          refine ⟨a.o, _, rfl, ow8.get (k := "bases") rfl, ?_⟩
          repeat walk_at "rd"
          refine ⟨a.ba, _, rfl, .inl ⟨_, .inr n, ow8.ba.dt, rfl, by rw [tab_len]; exact Rd.szl (by omega), rfl⟩, ?_⟩
          rw [tab_put_new nn, fset_ref]
          have kp9 := Keep.mut (o := .dK (tab (ns ++ [n]) fun z => .ref (fset a.gB n T z))) kp8 n1
          have hp9 : upd H8 a.ba (.dK (tab (ns ++ [n]) fun z => .ref (fset a.gB n T z))) p = some (.lst [.int x3, .int y3]) := by rw [upd_ne (Ne.symm (ne_poolK hp8 ow8.ba.dt))]; exact hp8
          have Rx9 : upd H8 a.ba (.dK (tab (ns ++ [n]) fun z => .ref (fset a.gB n T z))) Rx = some (.lst (r.map V.str)) := by rw [upd_ne (fun c => by rw [c, ow8.ba.dt] at Rx8; cases Rx8)]; exact Rx8
          have kv9 : upd H8 a.ba (.dK (tab (ns ++ [n]) fun z => .ref (fset a.gB n T z))) a.o = some (.dK (own6 a)) := by
            have nd := ow8.nd
            simp only [List.nodup_cons, List.mem_cons, List.not_mem_nil, or_false, not_or] at nd
            rw [upd_ne nd.1.2.1]; exact ow8.kv
          have od9 : upd H8 a.ba (.dK (tab (ns ++ [n]) fun z => .ref (fset a.gB n T z))) a.od = some (.dK (tab ns fun n => .ref (a.gO n))) := by
            have nd := ow8.nd
            simp only [List.nodup_cons, List.mem_cons, List.not_mem_nil, or_false, not_or] at nd
            rw [upd_ne (Ne.symm nd.2.2.1)]; exact ow8.dO
          have gr := fun H11 M s hM => OwnA.grow (H11 := H11) (M := M) (r := r) ow8 nn T8 s hM
          generalize upd H8 a.ba (.dK (tab (ns ++ [n]) fun z => .ref (fset a.gB n T z))) = H9 at kp9 hp9 Rx9 kv9 od9 gr ⊢
          repeat walk_at "rd"
          refine ⟨Rd.sz (by simp), fun N2 hN2 => ?_⟩
          have s10 := Rd.sNew (o := .lst [.str n]) hN2
          have rz : r.length ≤ 20 := by
            have h1 := nodup_le rl fun z hz => by
              obtain ⟨row, hr, hz⟩ := ((M7.merges hm).mem z).mp hz
              show z ∈ ns
              rcases List.mem_append.mp hr with hr | hr
              · obtain ⟨b, hb, rfl⟩ := List.mem_map.mp hr
                obtain ⟨_, _, _, h3, _⟩ := tk.head (hl b hb)
                exact h3 z hz
              · obtain rfl := List.mem_singleton.mp hr
                exact hl z hz
            omega
          repeat walk_at "rd"
          refine ⟨N2, Rx, _, _, rfl, rfl, upd_same, s10 _ _ Rx9, Nat.le_of_lt (Rd.szl (by rw [List.length_map]; simp; omega)), fun M hM => ?_⟩
          have s11 := s10.trans (Rd.sNew (o := .lst ([.str n] ++ r.map V.str)) hM)
          have M11 : upd (upd H9 N2 (.lst [.str n])) M (.lst ([.str n] ++ r.map V.str)) M = some (.lst ((n :: r).map V.str)) := upd_same
          generalize upd (upd H9 N2 (.lst [.str n])) M (.lst ([.str n] ++ r.map V.str)) = H11 at s11 M11 ⊢
          repeat walk_at "rd"
          refine ⟨a.o, _, rfl, .inl ⟨_, .inr "orders", .inl (s11 _ _ kv9), rfl, rfl⟩, ?_⟩
          repeat walk_at "rd"
          refine ⟨a.od, _, rfl, .inl ⟨_, .inr n, s11 _ _ od9, rfl, by rw [tab_len]; exact Rd.szl (by omega), rfl⟩, ?_⟩
          rw [tab_put_new nn, fset_ref]
          exact q _ _ _ _ l r _ x3 y3 (Keep.mut (kp9.trans (Keep.same s11)) n2) (by rw [upd_ne (fun c => by have := s11 _ _ od9; rw [← c, s11 _ _ hp9] at this; cases this)]; exact s11 _ _ hp9) ok3 (gr H11 M s11 M11) hl l2 hm rfl rfl
end
end Ab
namespace Ab
open M6 PySem.Spec PyProof.Rows
local macro_rules | `(tactic| walk_at "rd") => `(tactic| (with_reducible first | refine Rd.tt_ ?_ | refine Rd.ff_ ?_ | refine Rd.dget ?_))
theorem cut_to (xs : List V) (i : Nat) : cutV xs none (some (i : Int)) = xs.take i := by
  unfold cutV
  rw [HT.sIx_nat, HT.sIx_none, List.drop_zero, Nat.sub_zero]
  rw [List.take_eq_take_iff]
  omega
/-- how each class came -/
def Steps (ws : List Str) (bs od : Str → List Str) (i : Nat) : Prop := ∀ k x, k < i → ws[k]? = some x → ∃ r, (∀ b ∈ bs x, b ∈ ws.take k) ∧ (bs x).length ≤ 2 ∧ mrg ((bs x).map od ++ [bs x]) = some r ∧ od x = x :: r
theorem nodup_at {l : List Str} (nd : l.Nodup) {i j : Nat} {x : Str} (h1 : l[i]? = some x) (h2 : l[j]? = some x) : i = j := by
  obtain ⟨a1, e1⟩ := List.getElem?_eq_some_iff.mp h1
  obtain ⟨a2, e2⟩ := List.getElem?_eq_some_iff.mp h2
  exact (List.getElem_inj nd).mp (e1.trans e2.symm)
theorem take_mem {l : List Str} {i : Nat} {x : Str} (h : x ∈ l.take i) : ∃ k, k < i ∧ l[k]? = some x := by
  obtain ⟨k, hk, e⟩ := List.mem_iff_getElem.mp h
  rw [List.length_take] at hk
  rw [List.getElem_take] at e
  exact ⟨k, by omega, by rw [← e]; exact List.getElem?_eq_getElem (by omega)⟩
theorem take_out {l : List Str} (nd : l.Nodup) {i : Nat} {x : Str} (h : l[i]? = some x) : x ∉ l.take i := fun m => by
  obtain ⟨k, hk, e⟩ := take_mem m
  have := nodup_at nd h e
  omega
theorem take_next {l : List Str} {i : Nat} {x : Str} (h : l[i]? = some x) : l.take (i + 1) = l.take i ++ [x] := by
  rw [List.take_add_one, h]
  rfl
theorem Steps.next {ws : List Str} {bs od : Str → List Str} {i : Nat} {x : Str} {l r : List Str} (s : Steps ws bs od i) (nd : ws.Nodup) (hx : ws[i]? = some x) (hl : ∀ b ∈ l, b ∈ ws.take i) (l2 : l.length ≤ 2) (hm : mrg (l.map od ++ [l]) = some r) :
    Steps ws (fset bs x l) (fset od x (x :: r)) (i + 1) := by
  have out := take_out nd hx
  have same : ∀ (l' : List Str), (∀ b ∈ l', b ∈ ws.take i) → l'.map (fset od x (x :: r)) = l'.map od := fun l' h => List.map_congr_left fun b hb => fset_ne fun e => out (by rw [← e]; exact h b hb)
  intro k z hk hz
  by_cases c : k = i
  · subst c
    obtain rfl : x = z := Option.some.inj (hx.symm.trans hz)
    rw [fset_at, fset_at]
    exact ⟨r, hl, l2, by rw [same l hl]; exact hm, rfl⟩
  · have zx : z ≠ x := fun e => c (nodup_at nd (by rw [← e]; exact hz) hx)
    obtain ⟨r', h1, h2, h3, h4⟩ := s k z (by omega) hz
    rw [fset_ne zx, fset_ne zx]
    refine ⟨r', h1, h2, ?_, h4⟩
    rw [same _ fun b hb => ?_]
    · exact h3
    · obtain ⟨j, hj, e⟩ := take_mem (h1 b hb)
      exact List.mem_iff_getElem?.mpr ⟨j, by rw [List.getElem?_take_of_lt (by omega)]; exact e⟩
theorem methods_nd : methods.Nodup := by decide +kernel
theorem es_val {K : PySem.W.Frag} {H : Hp} {n m : Str} : ∀ {es : EsL} {kvs : List (List Key × V)}, Paired (EsAt K H) es kvs → (n, m) ∉ es.map (·.1) → valV kvs [.inr n, .inr m] = none
  | _, _, .nil, _ => rfl
  | e :: es, kv :: kvs, .cons h t, no => by
    rw [List.map_cons, List.mem_cons, not_or] at no
    rw [valV_neg, es_val t no.2]
    intro c
    rw [h.1] at c
    refine no.1 ?_
    cases c
    rfl
section
variable {K : PySem.W.Frag} {H : Hp} {a : OA} {mm : Str → List Str} {fl : Str → Bool} {ws ns : List Str} {bs od : Str → List Str} {es : EsL}
theorem OwnA.putE {n m : Str} {e : Ent} {v : V} {kvs : List (List Key × V)} (h : OwnA K H a mm fl ws ns bs od es) (hk : H a.en = some (.dT kvs)) (pr : Paired (EsAt K H) es kvs) (no : (n, m) ∉ es.map (·.1)) (hv : EvAt K H m e v) :
    OwnA K (upd H a.en (.dT (putK kvs [.inr n, .inr m] v))) a mm fl ws ns bs od (es ++ [((n, m), e)]) := by
  have nt : NoTup H a.en := fun u x => by rw [hk] at x; cases x; exact ⟨fun _ => by simp, fun _ _ => by simp⟩
  have k : Keep a.en H (upd H a.en (.dT (putK kvs [.inr n, .inr m] v))) := Keep.put fun _ _ _ e => e
  have dk : ∀ {b : Addr} {kv : List (Key × V)}, H b = some (.dK kv) → upd H a.en (.dT (putK kvs [.inr n, .inr m] v)) b = some (.dK kv) := fun e => k _ _ (fun c => by rw [c, hk] at e; cases e) e
  have dl : ∀ {b : Addr} {kv : List V}, H b = some (.lst kv) → upd H a.en (.dT (putK kvs [.inr n, .inr m] v)) b = some (.lst kv) := fun e => k _ _ (fun c => by rw [c, hk] at e; cases e) e
  exact {
    kv := dk h.kv
    wd := dk h.wd
    fd := dl h.fd
    tp := fun y hy => sqT_keep k nt (h.tp y hy)
    nm := dl h.nm
    ba := ⟨dk h.ba.dt, fun n hn => sqT_keep k nt (h.ba.tp n hn)⟩
    dO := dk h.dO
    ol := fun n hn => dl (h.ol n hn)
    en := ⟨kvs ++ [([.inr n, .inr m], v)], by rw [upd_same, L2.putK_new v (es_val pr no)], pair_sn (Rd.pair_imp (fun _ _ ⟨c, d⟩ => ⟨c, d.keep k nt⟩) pr) ⟨rfl, hv.keep k nt⟩⟩
    nd := h.nd }
end
structure EsOk (es : EsL) (ws : List Str) (i j : Nat) : Prop where
  nd : (es.map (·.1)).Nodup
  inn : ∀ e ∈ es, e.1.2 ∈ methods ∧ (e.1.1 ∈ ws.take i ∨ (ws[i]? = some e.1.1 ∧ e.1.2 ∈ methods.take j))
  len : es.length ≤ 14 * i + j
theorem EsOk.out {es : EsL} {ws : List Str} {i j : Nat} {n m : Str} (h : EsOk es ws i j) (nd : ws.Nodup) (hn : ws[i]? = some n) (hm : methods[j]? = some m) : (n, m) ∉ es.map (·.1) := fun z => by
  obtain ⟨e, he, e1⟩ := List.mem_map.mp z
  obtain ⟨_, h1⟩ := h.inn e he
  rw [e1] at h1
  rcases h1 with h1 | ⟨_, h1⟩
  · exact take_out nd hn h1
  · exact take_out methods_nd hm h1
theorem EsOk.add {es : EsL} {ws : List Str} {i j : Nat} {n m : Str} {e : Ent} (h : EsOk es ws i j) (nd : ws.Nodup) (hn : ws[i]? = some n) (hm : methods[j]? = some m) : EsOk (es ++ [((n, m), e)]) ws i (j + 1) := by
  refine ⟨?_, fun z hz => ?_, ?_⟩
  · rw [List.map_append]
    exact List.nodup_append.mpr ⟨h.nd, by simp, fun a ha b hb e => h.out nd hn hm (by rw [← show b = (n, m) by simpa using hb, ← e]; exact ha)⟩
  · rcases List.mem_append.mp hz with hz | hz
    · obtain ⟨h1, h2⟩ := h.inn z hz
      refine ⟨h1, h2.imp id fun ⟨a, b⟩ => ⟨a, ?_⟩⟩
      rw [take_next hm]
      exact List.mem_append_left _ b
    · rw [List.mem_singleton.mp hz]
      exact ⟨List.mem_of_getElem? hm, .inr ⟨hn, by rw [take_next hm]; exact List.mem_append_right _ (List.mem_singleton.mpr rfl)⟩⟩
  · have := h.len
    rw [List.length_append]
    show _ + 1 ≤ _
    omega
theorem EsOk.skip {es : EsL} {ws : List Str} {i j : Nat} {m : Str} (h : EsOk es ws i j) (hm : methods[j]? = some m) : EsOk es ws i (j + 1) := by
  refine ⟨h.nd, fun z hz => ?_, Nat.le_succ_of_le h.len⟩
  obtain ⟨h1, h2⟩ := h.inn z hz
  refine ⟨h1, h2.imp id fun ⟨a, b⟩ => ⟨a, ?_⟩⟩
  rw [take_next hm]
  exact List.mem_append_left _ b
theorem EsOk.next {es : EsL} {ws : List Str} {i : Nat} {n : Str} (h : EsOk es ws i 14) (hn : ws[i]? = some n) : EsOk es ws (i + 1) 0 := by
  refine ⟨h.nd, fun z hz => ?_, by have := h.len; omega⟩
  obtain ⟨h1, h2⟩ := h.inn z hz
  refine ⟨h1, .inl ?_⟩
  rw [take_next hn]
  rcases h2 with h2 | ⟨h2, _⟩
  · exact List.mem_append_left _ h2
  · rw [hn] at h2
    exact List.mem_append_right _ (List.mem_singleton.mpr (Option.some.inj h2).symm)
section
variable {P : Program} {w : World} {K : PySem.W.Frag} {mg : Str → Option Value} {base : Heap}
theorem enumRd {ta : L2.TA} {g : TG} {tb : TS} {D : Ends} {σ : L2.St} {H : Hp} (k : ta σ H fun vs H1 => ∃ a xs, vs = [V.ref a] ∧ SqL K H1 a xs ∧ Rd.ForGo (Ite K a) g tb D σ H1) : tFor (iEnum K ta) g tb D σ H := k
theorem forLi {tl : TE} {g : TG} {tb : TS} {D : Ends} {σ : L2.St} {H : Hp} (k : tl σ H fun x H1 => tFor (iList K (tC x)) g tb D σ H1) : tFor (iList K tl) g tb D σ H := k
abbrev sL_own : Stmt := top 80
abbrev nL_own : List Str := ["_law_pool_here", "_law_many", "_law_own_here", "_law_names", "_law_k", "_law_name", "_law_method", "_law_entry_here"]
theorem scL_own : FnScope nL_own ["_law_pool_here", "_law_many"] (defScope sL_own) := ⟨rfl, rfl, rfl, by decide +kernel, rfl, by decide +kernel, by decide +kernel⟩
structure OwnD (K : PySem.W.Frag) (H : Hp) (a : OA) (m : Str → List Str) (fl : Str → Bool) (ws : List Str) (bs od : Str → List Str) (es : EsL) : Prop where
  ow : OwnA K H a m fl ws ws bs od es
  pm : PM m
  gw : GoodWs ws
  tk : TOk ws bs od
  st : Steps ws bs od ws.length
  eo : EsOk es ws ws.length 0
def spOwn (K : PySem.W.Frag) : Sp := fun vs H Q _ => ∃ (p : Addr) (x y : Int) (n : Nat), vs = [.ref p, .int (n : Int)] ∧ n ≤ 8 ∧ H p = some (.lst [.int x, .int y]) ∧ PoolOk x y ∧
  ∀ (a : OA) (m : Str → List Str) (fl : Str → Bool) (ws : List Str) (bs od : Str → List Str) (es : EsL) H' x' y', Keep p H H' → H' p = some (.lst [.int x', .int y']) → PoolOk x' y' → ws.length = n → OwnD K H' a m fl ws bs od es → Q (.ref a.o) H'
theorem ok_own (T : Txt K mg) (D : DefAt K mg "_law_own" sL_own ["_law_pool_here", "_law_many"]) (CL_book_of : CalG P w K mg base 2 "_law_book_of" (spBookOf K)) (CL_words : CalG P w K mg base 2 "_law_words" spWords) (CL_bases : CalG P w K mg base 3 "_law_bases" (spLBases K)) (CL_methods : CalG P w K mg base 1 "_law_methods" spMethods) (CL_entry : CalG P w K mg base 7 "_law_entry" (spEntry K)) : CalG P w K mg base 8 "_law_own" (spOwn K) := by
  refine D.by scL_own (fun vs H Q E h => ?_) (fun f cd A hg outer s H vs Q E hr h => ?_)
  · obtain ⟨_, _, _, _, rfl, _⟩ := h
    rfl
  · obtain ⟨p, x, y, n, rfl, n8, hp, ok, q⟩ := h
    refine ⟨_, (pss_cons (ps_set (i := 2) scL_own.nd rfl (Or.inl rfl) (pe_cG CL_book_of hg hr (by decide) (pa_cons (pv 0) pa_nil)))
  (pss_cons (ps_set (i := 3) scL_own.nd rfl (Or.inl rfl) (pe_cG CL_words hg hr (by decide) (pa_cons (pv 0) (pa_cons (pv 1) pa_nil))))
  (pss_cons (ps_asg (pv 3) (pg_sub (pv 2) pe_str (set_dict (one_ hr.units))))
  (pss_cons (ps_asg (pe_tup (pa_cons pe_dnewK (pa_cons pe_dnewK (pa_cons pe_dnewT pa_nil)))) (pg_tup (by rfl) (pgs_cons (pg_sub (pv 2) pe_str (set_dict (one_ hr.units))) (pgs_cons (pg_sub (pv 2) pe_str (set_dict (one_ hr.units))) (pgs_cons (pg_sub (pv 2) pe_str (set_dict (one_ hr.units))) pgs_nil)))))
  (pss_cons (ps_for (wi := iEnum K _) PassesOwn.never rfl (pi_enum (by rfl) T.enumerate (pa_cons (pv 3) pa_nil)) (pg_tup (by rfl) (pgs_cons (pg_name (i := 4) scL_own.nd rfl (Or.inl rfl)) (pgs_cons (pg_name (i := 5) scL_own.nd rfl (Or.inl rfl)) pgs_nil)))
  (pss_cons (ps_expr (pe_cG CL_bases hg hr (by decide) (pa_cons (pv 0) (pa_cons (pv 2) (pa_cons (pv 5) (pa_cons (pe_slice (r := rSlL K) sl_list (pv 3) po_none (po_some (pv 4))) pa_nil))))))
  (pss_one (ps_for (wi := iList K _) PassesOwn.never rfl (pi_list (pe_cG0 CL_methods hg hr (by decide))) (pg_name (i := 6) scL_own.nd rfl (Or.inl rfl))
  (pss_cons (ps_set (i := 7) scL_own.nd rfl (Or.inl rfl) (pe_cG CL_entry hg hr (by decide) (pa_cons (pv 0) (pa_cons (pv 6) pa_nil))))
  (pss_one (ps_if (pt_cmpR op_notN (pv 7) pe_non (nomark _))
  (pss_one (ps_asg (pv 7) (pg_sub (pe_dget (one_ hr.units) (pv 2) pe_str (fun _ _ => rfl)) (pe_tup (pa_cons (pv 5) (pa_cons (pv 6) pa_nil))) (set_dict (one_ hr.units)))))
  pss_nil)))))))
  (pss_one (ps_ret (pv 2)))))))), ?_⟩
    repeat walk_at "rd"
    refine ⟨p, x, y, rfl, hp, ok, fun o wa fa g m fl H1 x1 y1 k1 hp1 ok1 no nw nf ow pm => ?_⟩
    repeat walk_at "rd"
    refine ⟨p, x1, y1, n, rfl, n8, hp1, ok1, fun l ws x2 y2 H2 hl l2 wl gw ok2 hp2 k2 => ?_⟩
    repeat walk_at "rd"
    have po : o ≠ p := ne_poolK hp1 ow.od
    have o2 := k2 _ _ po ow.od
    have w2 := k2 _ _ (ne_poolK hp1 ow.wd) ow.wd
    have f2 := k2 _ _ (ne_poolF hp1 ow.fd) ow.fd
    have t2 : ∀ y ∈ ops, SqT K H2 (g y) ((m y).map V.str) := fun y hy => sqT_keep k2 (nt_lst hp1) (ow.tp y hy)
    have k02 := k1.trans k2
    refine ⟨o, _, rfl, .inl ⟨_, .inr "names", o2, rfl, Rd.szl (by show 2 < 100000; omega), rfl⟩, ?_⟩
    have K3 : Keep o H2 (upd H2 o (.dK (putK [(.inr "ways", .ref wa), (.inr "flags", .ref fa)] (.inr "names") (.ref l)))) := Keep.put fun _ _ _ e => e
    have o3 : upd H2 o (.dK (putK [(.inr "ways", .ref wa), (.inr "flags", .ref fa)] (.inr "names") (.ref l))) o = some (.dK [(.inr "ways", .ref wa), (.inr "flags", .ref fa), (.inr "names", .ref l)]) := upd_same
    generalize upd H2 o (.dK (putK [(.inr "ways", .ref wa), (.inr "flags", .ref fa)] (.inr "names") (.ref l))) = H3 at K3 o3 ⊢
    repeat walk_at "rd"
    refine fun ba hba => ?_
    repeat walk_at "rd"
    refine fun od hod => ?_
    repeat walk_at "rd"
    refine fun en hen => ?_
    repeat walk_at "rd"
    refine ⟨Rd.sz (by simp), fun t ht => ?_⟩
    have s4 := Rd.sNew (o := .dK []) hba
    have s5 := Rd.sNew (o := .dK []) hod
    have s6 := Rd.sNew (o := .dT []) hen
    have s7 := Rd.sNew (o := .tup [.ref ba, .ref od, .ref en]) ht
    have ba7 := s7 _ _ (s6 _ _ (s5 _ _ (upd_same (H := H3) (a := ba) (o := .dK []))))
    have od7 := s7 _ _ (s6 _ _ (upd_same (H := upd H3 ba (.dK [])) (a := od) (o := .dK [])))
    have en7 := s7 _ _ (upd_same (H := upd (upd H3 ba (.dK [])) od (.dK [])) (a := en) (o := .dT []))
    have t7 := upd_same (H := upd (upd (upd H3 ba (.dK [])) od (.dK [])) en (.dT [])) (a := t) (o := .tup [.ref ba, .ref od, .ref en])
    have s37 := ((s4.trans s5).trans s6).trans s7
    have bo : ba ≠ od := fun e => by rw [← e, upd_same] at hod; cases hod
    have no3 : H3 od = none := Same.free s4 hod
    have ne3 : H3 en = none := Same.free (s4.trans s5) hen
    generalize upd (upd (upd (upd H3 ba (.dK [])) od (.dK [])) en (.dT [])) t (.tup [.ref ba, .ref od, .ref en]) = H7 at s37 ba7 od7 en7 t7 ⊢
    clear s4 s5 s6 s7 ht hen hod
    have back : ∀ {b : Addr}, H3 b = none → H b = none := fun {b} e => by
      have h2 : H2 b = none := by
        cases z : H2 b with
        | none => rfl
        | some u => rw [K3 _ _ (fun c => by rw [c, o3] at e; cases e) z] at e; cases e
      exact Keep.fr k02 hp2 h2
    have nba := back hba
    have nod := back no3
    have nen := back ne3
    have o7 := s37 _ _ o3
    refine gtup (.inl (.inl t7)) rfl ?_
    refine gc ?_
    repeat walk_at "rd"
    refine ⟨o, _, rfl, .inl ⟨_, .inr "bases", o7, rfl, Rd.szl (by show 3 < 100000; omega), rfl⟩, ?_⟩
    refine gc ?_
    repeat walk_at "rd"
    refine ⟨o, _, rfl, .inl ⟨[(.inr "ways", .ref wa), (.inr "flags", .ref fa), (.inr "names", .ref l), (.inr "bases", .ref ba)], .inr "orders", upd_same, rfl, Rd.szl (by show 4 < 100000; omega), rfl⟩, ?_⟩
    refine gc ?_
    repeat walk_at "rd"
    refine ⟨o, _, rfl, .inl ⟨[(.inr "ways", .ref wa), (.inr "flags", .ref fa), (.inr "names", .ref l), (.inr "bases", .ref ba), (.inr "orders", .ref od)], .inr "entries", upd_same, rfl, Rd.szl (by show 5 < 100000; omega), rfl⟩, ?_⟩
    refine gn ?_
    rw [upd_upd, upd_upd]
    have K8 : Keep o H2 (upd H7 o (.dK (own6 ⟨o, wa, fa, l, ba, od, en, g, fun _ => 0, fun _ => 0⟩))) := (K3.trans (Keep.same s37)).put
    have K78 : Keep o H7 (upd H7 o (.dK (own6 ⟨o, wa, fa, l, ba, od, en, g, fun _ => 0, fun _ => 0⟩))) := Keep.put fun _ _ _ e => e
    have o8 : upd H7 o (.dK (own6 ⟨o, wa, fa, l, ba, od, en, g, fun _ => 0, fun _ => 0⟩)) o = some (.dK (own6 ⟨o, wa, fa, l, ba, od, en, g, fun _ => 0, fun _ => 0⟩)) := upd_same
    have own_eq : putK [(.inr "ways", V.ref wa), (.inr "flags", .ref fa), (.inr "names", .ref l), (.inr "bases", .ref ba), (.inr "orders", .ref od)] (.inr "entries") (V.ref en) = own6 ⟨o, wa, fa, l, ba, od, en, g, fun _ => 0, fun _ => 0⟩ := rfl
    rw [own_eq]
    have ow8 : OwnA K (upd H7 o (.dK (own6 ⟨o, wa, fa, l, ba, od, en, g, fun _ => 0, fun _ => 0⟩))) ⟨o, wa, fa, l, ba, od, en, g, fun _ => 0, fun _ => 0⟩ m fl ws [] (fun _ => []) (fun _ => []) [] := by
      have nb : o ≠ ba := fun e => by rw [← e, o3] at hba; cases hba
      have nd : o ≠ od := fun e => by rw [← e, o3] at no3; cases no3
      have nw : wa ≠ ba := fun e => by have := K3 _ _ (Ne.symm ow.ne) w2; rw [e, hba] at this; cases this
      have nv : wa ≠ od := fun e => by have := K3 _ _ (Ne.symm ow.ne) w2; rw [e, no3] at this; cases this
      exact { kv := o8, wd := K8 _ _ (Ne.symm ow.ne) w2, fd := K8 _ _ (fun c : fa = o => by rw [c, o2] at f2; cases f2) f2, tp := fun y hy => sqT_keep K8 (nt_dK o2) (t2 y hy), nm := K8 _ _ (fun c : l = o => by rw [c, o2] at l2; cases l2) l2, ba := ⟨K78 _ _ (Ne.symm nb) ba7, fun z hz => (nomatch hz)⟩, dO := K78 _ _ (Ne.symm nd) od7, ol := fun z hz => (nomatch hz), en := ⟨[], K78 _ _ (fun c : en = o => by rw [c, o7] at en7; cases en7) en7, .nil⟩, nd := by simp [ow.ne, nb, nd, nw, nv, bo] }
    have k08 : Keep p H (upd H7 o (.dK (own6 ⟨o, wa, fa, l, ba, od, en, g, fun _ => 0, fun _ => 0⟩))) := fun b u nb e => K8 _ _ (fun c => by rw [c, no] at e; cases e) (k02 _ _ nb e)
    have hp8 := K8 _ _ (Ne.symm po) hp2
    have l8 := ow8.nm
    clear o8 K8 K78 own_eq K3 o3 s37 ba7 od7 en7 t7 o7 hba no3 ne3 back bo k02 t2 f2 w2 o2 l2
    generalize upd H7 o (.dK (own6 ⟨o, wa, fa, l, ba, od, en, g, fun _ => 0, fun _ => 0⟩)) = H8 at ow8 k08 hp8 l8 ⊢
    have ndw : ws.Nodup := gw.nodup (by omega)
    have ws_W : ∀ z ∈ ws, W6.W 100 z := fun z hz => by
      obtain ⟨i, hi⟩ := List.mem_iff_getElem?.mp hz
      have g1 := gw i z hi
      exact ⟨Nat.le_trans g1.len (by decide), fun c hc => by have := g1.lo c hc; omega⟩
    repeat walk_at "rd"
    refine enumRd ?_
    repeat walk_at "rd"
    refine ⟨l, _, rfl, SqL.of l8, ?_⟩
    refine for_it (walk_enum (K := K) (a := l) (xs := ws.map V.str)) (fun i σ H' => ∃ (z4 z5 z6 z7 : Option V) (gB gO : Str → Addr) (bs ods : Str → List Str) (es : EsL) (x y : Int), σ = [some (.ref p), some (.int (n : Int)), some (.ref o), some (.ref l), z4, z5, z6, z7] ∧ PoolOk x y ∧ H' p = some (.lst [.int x, .int y]) ∧ Keep p H H' ∧
      OwnA K H' ⟨o, wa, fa, l, ba, od, en, g, gB, gO⟩ m fl ws (ws.take i) bs ods es ∧ TOk (ws.take i) bs ods ∧ Steps ws bs ods i ∧ EsOk es ws i 0) ⟨none, none, none, none, _, _, _, _, [], x2, y2, rfl, ok2, hp8, k08, ow8, TOk.nil, fun k x hk _ => absurd hk (Nat.not_lt_zero _), ⟨.nil, fun e he => (nomatch he), Nat.zero_le _⟩⟩ (fun i σ H' _ ⟨_, _, _, _, _, _, _, _, _, _, _, _, _, _, _, w, _⟩ => SqL.of w.nm) ?_ ?_
    · rintro i x0 σ H9 H10 hi ⟨z4, z5, z6, z7, gB, gO, bs, ods, es, x9, y9, rfl, ok9, hp9, k09, ow9, tk9, st9, eo9⟩ ⟨T', x1, y1, rfl, hT, rfl, ex, ey⟩
      cases ex
      rw [List.length_map] at hi
      obtain ⟨nm, hn, rfl⟩ : ∃ nm, ws[i]? = some nm ∧ y1 = .str nm := by
        have ey : (ws.map V.str)[i]? = some y1 := ey
        rw [List.getElem?_map, List.getElem?_eq_getElem hi] at ey
        exact ⟨ws[i], List.getElem?_eq_getElem hi, (Option.some.inj ey).symm⟩
      have sT := Rd.sNew (o := .tup [.int (i : Int), .str nm]) hT
      refine gtup (.inl (.inl upd_same)) rfl ?_
      have ow10 := ow9.mono sT
      have hp10 := sT _ _ hp9
      have k010 := k09.trans (Keep.same (p := p) sT)
      generalize upd H9 T' (.tup [.int (i : Int), .str nm]) = H10 at sT ow10 hp10 k010 ⊢
      repeat walk_at "rd"
      have ndn := take_out ndw hn
      have tl8 : (ws.take i).length < 8 := by rw [List.length_take]; omega
      have nmz := ow10.nm
      refine Rd.slL (SqL.of nmz) fun c hc => ?_
      rw [cut_to, ← List.map_take]
      have s11 := Rd.sNew (o := .lst ((ws.take i).map V.str)) hc
      have c11 : upd H10 c (.lst ((ws.take i).map V.str)) c = some (.lst ((ws.take i).map V.str)) := upd_same
      have ow11 := ow10.mono s11
      have hp11 := s11 _ _ hp10
      have k011 := k010.trans (Keep.same (p := p) s11)
      generalize upd H10 c (.lst ((ws.take i).map V.str)) = H11 at s11 c11 ow11 hp11 k011 ⊢
      repeat walk_at "rd"
      refine ⟨H, p, x9, y9, _, m, fl, ws, ws.take i, bs, ods, es, nm, c, rfl, hp11, ok9, ow11, c11, k011, nba, nod, ndn, tl8, tk9, fun z hz => ws_W z (List.mem_of_mem_take hz), fun gB2 gO2 bs2 ods2 lb r H12 x12 y12 k012 hp12 ok12 ow12 hlb lb2 hm ebs eods => ?_⟩
      obtain ⟨tk12, _⟩ := tk9.step ndn tl8 hlb (by omega) hm
      have st12 := st9.next ndw hn hlb lb2 hm
      rw [← ebs, ← eods, ← take_next hn] at tk12
      rw [← ebs, ← eods] at st12
      rw [← take_next hn] at ow12
      clear ebs eods hm hlb ow11 c11 k011 hp11 s11 ow10 hp10 k010 sT ow9 hp9 k09 tk9 st9
      dsimp only
      refine forLi ?_
      repeat walk_at "rd"
      refine ⟨rfl, fun ml H13 s13 _ m13 => ?_⟩
      refine ⟨ml, rfl, ⟨_, SqL.of m13⟩, ?_⟩
      refine for_list (K := K) (a := ml) (xs := methods.map V.str) (fun j σ H' => ∃ (z6 z7 : Option V) (es : EsL) (x y : Int), σ = [some (.ref p), some (.int (n : Int)), some (.ref o), some (.ref l), some (.int (i : Int)), some (.str nm), z6, z7] ∧ PoolOk x y ∧ H' p = some (.lst [.int x, .int y]) ∧ Keep p H H' ∧
        OwnA K H' ⟨o, wa, fa, l, ba, od, en, g, gB2, gO2⟩ m fl ws (ws.take (i + 1)) bs2 ods2 es ∧ EsOk es ws i j ∧ H' ml = some (.lst (methods.map V.str)) ∧ H ml = none) ?_ (fun j σ H' _ ⟨_, _, _, _, _, _, _, _, _, _, _, h, _⟩ => SqL.of h) ?_ ?_
      · exact ⟨_, _, es, x12, y12, rfl, ok12, s13 _ _ hp12, k012.trans (Keep.same s13), ow12.mono s13, eo9, m13, Keep.fr k012 hp12 (by assumption)⟩
      · rintro j v σ H14 hv ⟨z6, z7, es, x14, y14, rfl, ok14, hp14, k014, ow14, eo14, m14, nml⟩
        obtain ⟨me, hme, rfl⟩ : ∃ me, methods[j]? = some me ∧ v = .str me := by
          rw [List.getElem?_map] at hv
          cases e : methods[j]? with
          | none => rw [e] at hv; cases hv
          | some me => rw [e] at hv; exact ⟨me, rfl, (Option.some.inj hv).symm⟩
        repeat walk_at "rd"
        refine ⟨p, x14, y14, me, rfl, hp14, ok14, List.mem_of_getElem? hme, fun oe v H15 x15 y15 k15 hp15 ok15 hv15 => ?_⟩
        have ow15 := ow14.pool hp14 k15
        have k015 := k014.trans k15
        have m15 := k15 _ _ (ne_pool hp14 m14) m14
        repeat walk_at "rd"
        cases oe with
        | none =>
          have hv15 : v = .non := hv15
          subst hv15
          refine Rd.ndec (fun c => absurd rfl c) (fun _ => ?_)
          repeat walk_at "rd"
          exact ⟨_, _, es, x15, y15, rfl, ok15, hp15, k015, ow15, eo14.skip hme, m15, nml⟩
        | some e =>
          have hv15 : EvAt K H15 me e v := hv15
          refine Rd.ndec (fun _ => ?_) (fun c => absurd c hv15.nn)
          repeat walk_at "rd"
          refine ⟨o, _, rfl, ow15.get (k := "entries") rfl, ?_⟩
          repeat walk_at "rd"
          refine ⟨Rd.sz (by simp), fun kt hkt => ?_⟩
          have s16 := Rd.sNew (o := .tup [.str nm, .str me]) hkt
          have kt16 : upd H15 kt (.tup [.str nm, .str me]) kt = some (.tup (([.inr nm, .inr me] : List Key).map kV)) := upd_same
          have ow16 := ow15.mono s16
          have hp16 := s16 _ _ hp15
          have m16 := s16 _ _ m15
          have k016 := k015.trans (Keep.same (p := p) s16)
          have hv16 := hv15.mono s16
          generalize upd H15 kt (.tup [.str nm, .str me]) = H16 at s16 kt16 ow16 hp16 m16 k016 hv16 ⊢
          obtain ⟨kvs, hk, pr⟩ := ow16.en
          have lz : kvs.length < 10000 := by
            have := Rd.pair_len pr
            have := eo14.len
            have jm := (List.getElem?_eq_some_iff.mp hme).1
            have : methods.length = 14 := rfl
            omega
          refine ⟨en, _, rfl, .inr ⟨kvs, [.inr nm, .inr me], kt, hk, rfl, kt16, Rd.szl (by omega), rfl⟩, ?_⟩
          exact ⟨_, _, _, x15, y15, rfl, ok15, by rw [upd_ne (fun c : p = en => by rw [c, hk] at hp16; cases hp16)]; exact hp16, Keep.mut k016 nen, ow16.putE hk pr (eo14.out ndw hn hme) hv16, eo14.add ndw hn hme, by rw [upd_ne (fun c : ml = en => by rw [c, hk] at m16; cases m16)]; exact m16, nml⟩
      · rintro σ H14 ⟨z6, z7, es, x14, y14, rfl, ok14, hp14, k014, ow14, eo14, m14, nml⟩
        exact ⟨_, _, _, _, _, _, bs2, ods2, es, x14, y14, rfl, ok14, hp14, k014, ow14, tk12, st12, eo14.next hn⟩
    · rintro σ H9 ⟨z4, z5, z6, z7, gB, gO, bs, ods, es, x9, y9, rfl, ok9, hp9, k09, ow9, tk9, st9, eo9⟩
      repeat walk_at "rd"
      rw [List.length_map, List.take_length] at ow9 tk9
      rw [List.length_map] at st9 eo9
      exact q _ m fl ws bs ods es H9 x9 y9 k09 hp9 ok9 wl ⟨ow9, pm, gw, tk9, st9, eo9⟩
end
end Ab
namespace Ab
open M6 PySem.Spec PyProof.Rows
local macro_rules | `(tactic| walk_at "rd") => `(tactic| (with_reducible first | refine Rd.tt_ ?_ | refine Rd.ff_ ?_ | refine Rd.dget ?_ | refine Rd.methR ?_))
section
variable {P : Program} {w : World} {K : PySem.W.Frag} {mg : Str → Option Value} {base : Heap}
abbrev sL_put : Stmt := top 82
abbrev nL_put : List Str := ["_law_table_here", "_law_key", "_law_entry_here"]
theorem scL_put : FnScope nL_put ["_law_table_here", "_law_key", "_law_entry_here"] (defScope sL_put) := ⟨rfl, rfl, rfl, by decide +kernel, rfl, by decide +kernel, by decide +kernel⟩
def spPut (K : PySem.W.Frag) (CT CB CK : Addr) : Sp := fun vs H Q _ => ∃ (H0 : Hp) (t : Addr) (a : TA) (s : Tt) (c : Nat) (kq : Addr) (x m : Str) (e : Ent) (v : V), vs = [.ref t, .ref kq, v] ∧ TbAt K CT CB CK H0 H t a s c ∧ Same H0 H ∧ c < 1000 ∧ SqT K H kq [.str x, .str m] ∧ x ∈ s.ns ∧ m ∈ methods ∧ EvAt K H m e v ∧
  ∀ H', Same H0 H' → TbAt K CT CB CK H0 H' t a (s.put x m (some e)) (c + 1) → Q .non H'
theorem ok_put (T : Txt K mg) {CT C_Body CK CN CBd : Addr} (U_Table : Ob.GetCal P w K mg base CX0 CT 4 "__setitem__" (spTSet K CT C_Body CK)) (I_Body : Ob.MkCal P w K mg base (L2.CX P w) C_Body 9 "Body" (spBInit K C_Body CN CBd)) (D : DefAt K mg "_law_put" sL_put ["_law_table_here", "_law_key", "_law_entry_here"]) : CalG P w K mg base 11 "_law_put" (spPut K CT C_Body CK) := by
  refine D.by scL_put (fun vs H Q E h => ?_) (fun f cd A hg outer s H vs Q E hr h => ?_)
  · obtain ⟨_, _, _, _, _, _, _, _, _, _, rfl, _⟩ := h
    rfl
  · obtain ⟨H0, t, a, st, c, kq, x, m, e, v, rfl, tb, s0, cz, hk, hx, hm, hv, q⟩ := h
    refine ⟨_, (pss_one (ps_asg (pe_ifExp (pt_val (pe_callB (r := rIsi K) call_isi (by rfl) T.isinstance (by decide +kernel) (pa_cons (pv 2) (pa_cons (pe_bltn (v := .ty "str") (by rfl) T.str (by decide +kernel) rfl) pa_nil)))) (pv 2) (Ob.make I_Body hg hr (by decide) Ob.px0 (pa_cons (pe_ix (r := rIxT K) ix_tup (pv 1) pe_int (fun _ _ => rfl)) (pa_cons (pv 2) pa_nil)))) (pg_sub (pv 0) (pe_tup (pa_cons (pe_ix (r := rIxT K) ix_tup (pv 1) pe_int (fun _ _ => rfl)) (pa_cons (pe_ix (r := rIxT K) ix_tup (pv 1) pe_int (fun _ _ => rfl)) pa_nil))) (Ob.setO U_Table hg hr (by decide) pass0)))), ?_⟩
    repeat walk_at "rd"
    have set : ∀ (v' : V) (H1 : Hp), Same H H1 → EntAt K C_Body H1 m e v' → gSub (tVar 0) (tTup (tCons (tOp (rIxT K) (tVar 1) (tC (V.int 0))) (tCons (tOp (rIxT K) (tVar 1) (tC (V.int 1))) tNil))) (Ow.rSetO CT (spTSet K CT C_Body CK) E0) v' (L2.start nL_put [V.ref t, V.ref kq, v]) H1 (fun _ H' => Q .non H') := fun v' H1 s1 hv' => by
      obtain ⟨dx, ht⟩ := tb.ins
      have hk1 := sqT_same s1 hk
      repeat walk_at "rd"
      refine Rd.ixT hk1 (by exact Rd.at0) ?_
      repeat walk_at "rd"
      refine Rd.ixT hk1 (Rd.atN (by decide) rfl) ?_
      repeat walk_at "rd"
      refine ⟨Rd.sz (by simp), fun p hp => ?_⟩
      have s2 := s1.trans (Rd.sNew (o := .tup [.str x, .str m]) hp)
      exact ⟨t, dx, _, rfl, s2 _ _ ht, H0, t, a, st, c, p, x, m, v', some e, rfl, tb.mono s2, s0.trans s2, cz, .inl (.inl upd_same), hx, hm, .inr ⟨e, rfl, ent_mono (Rd.sNew hp) hv'⟩, q⟩
    cases e with
    | w z =>
      obtain ⟨rfl, hz⟩ := hv
      refine isi (.base (.str z)) (by show kitB "str" "str" = some true; decide +kernel) ?_
      refine ⟨_, rfl, ?_⟩
      rw [if_pos rfl]
      exact Rd.var rfl (set _ _ (Same.refl _) ⟨rfl, hz⟩)
    | b nd =>
      obtain ⟨dp, ok⟩ := hv
      obtain ⟨p, xs, ds, rfl, hp, _⟩ := nd_at dp
      refine isi (tup_ty hp) (by show kitB "tuple" "str" = some false; decide +kernel) ?_
      repeat walk_at "rd"
      refine Rd.makeR ?_
      repeat walk_at "rd"
      refine Rd.ixT hk (Rd.atN (by decide) rfl) ?_
      repeat walk_at "rd"
      exact mkB ok dp fun b L H1 s1 _ bd => set _ _ s1 ⟨b, L, _, rfl, bd, ok⟩
end
end Ab
namespace Ab
open M6 PySem.Spec PyProof.Rows
local macro_rules | `(tactic| walk_at "rd") => `(tactic| (with_reducible first | refine Rd.tt_ ?_ | refine Rd.ff_ ?_ | refine Rd.dget ?_ | refine Rd.methR ?_))
/-- a for over the keys of a dict of tuples, which is locked meanwhile -/
theorem forKT {g : TG} {td : TE} {tb : TS} {D : Ends} {σ : L2.St} {H : Hp} {d : Addr} {kvs : List (List Key × V)} (Pv : Obj → Nat → L2.St → Hp → Prop) (htd : ∀ (od : Obj) (R : V → Hp → Prop), R (.ref d) (upd H d (.frz od (.dT kvs))) → td σ (upd H d (.frz od (.dT kvs))) R) (hd : H d = some (.dT kvs))
    (h0 : ∀ od, Pv od 0 σ (upd H d (.frz od (.dT kvs)))) (hG : ∀ od i σ1 H1, Pv od i σ1 H1 → H1 d = some (.frz od (.dT kvs)))
    (hs : ∀ od i k v q σ1 H1 rt bk, kvs[i]? = some (k, v) → H1 q = some (.tup (k.map kV)) → Pv od i σ1 H1 → g (.ref q) σ1 H1 fun σ2 H2 => tb { nx := Pv od (i + 1), rt := rt, bk := bk, ct := Pv od (i + 1) } σ2 H2)
    (he : ∀ od σ1 H1, Pv od kvs.length σ1 H1 → D.nx σ1 (upd H1 d (.dT kvs))) : tLock (tFor (iKeys td) g tb) D σ H := by
  refine ⟨d, _, hd, True.intro, fun od => htd od _ ⟨d, od, rfl, .inr ⟨_, upd_same, ?_⟩⟩⟩
  refine for_it (walk_keysT (d := d) (o := od) (kvs := kvs)) (Pv od) (h0 od) (fun i σ1 H1 _ p => hG od i σ1 H1 p) ?_ ?_
  · rintro i x σ1 H1 H1' hi p ⟨rfl, k, v, q, hk, rfl, hq⟩
    exact hs od i k v q σ1 _ _ _ hk hq p
  · intro σ1 H1 p
    exact ⟨hG od _ σ1 H1 p, he od σ1 H1 p⟩
theorem TbAt.keepX {K : PySem.W.Frag} {CT CB CK : Addr} {H0 H H' : Hp} {t : Addr} {a : TA} {s : Tt} {c : Nat} {p : Addr} {u : HO} (h : TbAt K CT CB CK H0 H t a s c) (k : Keep p H H') (hp : H p = some u) (nt : NoTup H p) (c1 : ∀ xs, u ≠ .lst xs) (c2 : ∀ kv, u ≠ .dK kv) (c3 : ∀ C d fs, u ≠ .ins C d fs) : TbAt K CT CB CK H0 H' t a s c := by
  have nb : NoBd H p := fun C dx fs e => absurd (Option.some.inj (hp.symm.trans e)) (c3 _ _ _)
  have kl : ∀ {b : Addr} {xs : List V}, H b = some (.lst xs) → H' b = some (.lst xs) := fun e => k _ _ (fun z => c1 _ (Option.some.inj (hp.symm.trans (by rw [← z]; exact e)))) e
  have kd : ∀ {b : Addr} {xs : List (Key × V)}, H b = some (.dK xs) → H' b = some (.dK xs) := fun e => k _ _ (fun z => c2 _ (Option.some.inj (hp.symm.trans (by rw [← z]; exact e)))) e
  have ki : ∀ {b C d : Addr} {fs : List (Str × V)}, H b = some (.ins C d fs) → H' b = some (.ins C d fs) := fun e => k _ _ (fun z => c3 _ _ _ (Option.some.inj (hp.symm.trans (by rw [← z]; exact e)))) e
  exact {
    ins := let ⟨dx, e⟩ := h.ins; ⟨dx, ki e⟩
    bk := ⟨let ⟨dx, e⟩ := h.bk.ins; ⟨dx, ki e⟩, kd h.bk.wd, kd h.bk.fd, fun o ho => sqT_keep k nt (h.bk.tp o ho), h.bk.ne⟩
    nm := kl h.nm
    ba := ⟨kd h.ba.dt, fun m hm => sqT_keep k nt (h.ba.tp m hm)⟩
    od := kd h.od
    ol := fun n hn => kl (h.ol n hn)
    en := kd h.en
    ee := fun n hn => let ⟨kvs, e1, e2, e3⟩ := h.ee n hn; ⟨kvs, kd e1, e2, ents_keep k nt nb e3⟩
    d1 := h.d1
    d2 := h.d2
    new := h.new }
/-- the entry that the law's own dict tells -/
def enL (es : EsL) (n m : Str) : Option Ent := (es.find? fun e => decide (e.1 = (n, m))).map (·.2)
theorem enL_next {es : EsL} {i : Nat} {n m n' m' : Str} {e : Ent} (nd : (es.map (·.1)).Nodup) (h : es[i]? = some ((n, m), e)) : enL (es.take (i + 1)) n' m' = if n' = n ∧ m' = m then some e else enL (es.take i) n' m' := by
  have et : es.take (i + 1) = es.take i ++ [((n, m), e)] := by rw [List.take_add_one, h]; rfl
  unfold enL
  rw [et, List.find?_append]
  by_cases c : n' = n ∧ m' = m
  · obtain ⟨rfl, rfl⟩ := c
    rw [if_pos ⟨rfl, rfl⟩]
    have no : (es.take i).find? (fun e => decide (e.1 = (n', m'))) = none := by
      rw [List.find?_eq_none]
      intro z hz hk
      have hk : z.1 = (n', m') := of_decide_eq_true hk
      obtain ⟨j, hj, ez⟩ := List.mem_iff_getElem.mp hz
      rw [List.length_take] at hj
      rw [List.getElem_take] at ez
      have h1 : (es.map (·.1))[j]? = some (n', m') := by rw [List.getElem?_map, List.getElem?_eq_getElem (by omega), ez]; exact congrArg some hk
      have h2 : (es.map (·.1))[i]? = some (n', m') := by rw [List.getElem?_map, h]; rfl
      obtain ⟨a1, e1⟩ := List.getElem?_eq_some_iff.mp h1
      obtain ⟨a2, e2⟩ := List.getElem?_eq_some_iff.mp h2
      have := (List.getElem_inj nd).mp (e1.trans e2.symm)
      omega
    rw [no]
    simp
  · rw [if_neg c]
    have no : ([((n, m), e)] : EsL).find? (fun e => decide (e.1 = (n', m'))) = none := by
      simp
      intro e1 e2
      exact c ⟨e1.symm, e2.symm⟩
    rw [no]
    simp
theorem es_get {K : PySem.W.Frag} {H : Hp} {n m : Str} {v : V} : ∀ {es : EsL} {kvs : List (List Key × V)} {i : Nat}, Paired (EsAt K H) es kvs → (es.map (·.1)).Nodup → kvs[i]? = some ([.inr n, .inr m], v) → valV kvs [.inr n, .inr m] = some v
  | _, _, i, .nil, _, h => by simp at h
  | e :: es, kv :: kvs, 0, .cons h t, nd, hk => by
    have hk : kv = ([.inr n, .inr m], v) := Option.some.inj hk
    subst hk
    exact valV_pos rfl
  | e :: es, kv :: kvs, i + 1, .cons h t, nd, hk => by
    have hk : kvs[i]? = some ([.inr n, .inr m], v) := hk
    rw [List.map_cons, List.nodup_cons] at nd
    have ne : ¬ kv.1 = [.inr n, .inr m] := fun c => by
      obtain ⟨e2, he2, ek, _⟩ := Rd.pair_get t hk
      have ek : ([.inr n, .inr m] : List Key) = [.inr e2.1.1, .inr e2.1.2] := ek
      rw [h.1] at c
      refine nd.1 (List.mem_map.mpr ⟨e2, List.mem_of_getElem? he2, ?_⟩)
      have := c.trans ek
      have h1 : e.1.1 = e2.1.1 := by injection this with a b; exact Sum.inr.inj a
      have h2 : e.1.2 = e2.1.2 := by injection this with a b; injection b with c d; exact Sum.inr.inj c
      exact Prod.ext h1.symm h2.symm
    rw [valV_neg ne]
    exact es_get t nd.2 hk
section
variable {P : Program} {w : World} {K : PySem.W.Frag} {mg : Str → Option Value} {base : Heap}
/-- the table that tells what the law's own dict tells -/
structure Tells7 (st : Tt) (m : Str → List Str) (fl : Str → Bool) (ws : List Str) (bs od : Str → List Str) (es : EsL) : Prop where
  ns : st.ns = ws
  bs : ∀ n ∈ ws, st.bs n = bs n
  od : ∀ n ∈ ws, st.od n = od n
  en : ∀ n m, st.en n m = enL es n m
  m : st.m = m
  fl : st.fl = fl
abbrev sL_table : Stmt := top 83
abbrev nL_table : List Str := ["_law_own_here", "_law_table_here", "_law_name", "_law_bases_here", "_law_key"]
theorem scL_table : FnScope nL_table ["_law_own_here"] (defScope sL_table) := ⟨rfl, rfl, rfl, by decide +kernel, rfl, by decide +kernel, by decide +kernel⟩
def spTable (K : PySem.W.Frag) (CT CB CK : Addr) : Sp := fun vs H Q _ => ∃ (a : OA) (m : Str → List Str) (fl : Str → Bool) (ws : List Str) (bs od : Str → List Str) (es : EsL), vs = [.ref a.o] ∧ ws.length ≤ 8 ∧ OwnD K H a m fl ws bs od es ∧
  ∀ t ta st c H', Same H H' → TbAt K CT CB CK H H' t ta st c → Tells7 st m fl ws bs od es → Q (.ref t) H'
theorem ok_table (T : Txt K mg) {CT CB C_Book : Addr} (K_Table : TF K mg CT) (CL_book : CalG P w K mg base 5 "_law_book" (spLBook K C_Book)) (I_Table : Ob.MkCal P w K mg base CX0 CT 4 "Table" (spTInit K CT CB C_Book)) (M_Table_add : Sm.MCalS P w K mg base CX0 CT 13 "add" (Sm.spStar 2 (spAdd K CT CB C_Book)))
    (CL_put : CalG P w K mg base 11 "_law_put" (spPut K CT CB C_Book)) (D : DefAt K mg "_law_table" sL_table ["_law_own_here"]) : CalG P w K mg base 14 "_law_table" (spTable K CT CB C_Book) := by
  refine D.by scL_table (fun vs H Q E h => ?_) (fun f cd A hg outer s H vs Q E hr h => ?_)
  · obtain ⟨_, _, _, _, _, _, _, rfl, _⟩ := h
    rfl
  · obtain ⟨a, m, fl, ws, bs, od, es, rfl, l8, od7, q⟩ := h
    have ow := od7.ow
    refine ⟨_, (pss_cons (ps_set (i := 1) scL_table.nd rfl (Or.inl rfl) (Ob.make I_Table hg hr (by decide) pass0 (pa_cons (pe_cG CL_book hg hr (by decide) (pa_cons (pv 0) pa_nil)) pa_nil)))
  (pss_cons (ps_for (wi := iList K _) PassesOwn.never rfl (pi_list (pe_dget (one_ hr.units) (pv 0) pe_str (fun _ _ => rfl))) (pg_name (i := 2) scL_table.nd rfl (Or.inl rfl))
  (pss_cons (ps_set (i := 3) scL_table.nd rfl (Or.inl rfl) (pe_dget (one_ hr.units) (pe_dget (one_ hr.units) (pv 0) pe_str (fun _ _ => rfl)) (pv 2) (fun _ _ => rfl)))
  (pss_one (ps_if (pt_cmpR op_eq (pe_callB (r := Rd.rLenK K) Rd.callLen (by rfl) T.len PySem.boot_len (pa_cons (pv 3) pa_nil)) pe_int (nomark _))
  (pss_one (ps_expr (Sm.methS (pv 1) K_Table.cl M_Table_add hg hr (by decide) pass0 (pa_cons (pv 2) (pa_cons (pe_ix (r := rIxT K) ix_tup (pv 3) pe_int (fun _ _ => rfl)) (pa_cons (pe_ix (r := rIxT K) ix_tup (pv 3) pe_int (fun _ _ => rfl)) pa_nil))))))
  (pss_one (ps_if (pt_cmpR op_eq (pe_callB (r := Rd.rLenK K) Rd.callLen (by rfl) T.len PySem.boot_len (pa_cons (pv 3) pa_nil)) pe_int (nomark _))
  (pss_one (ps_expr (Sm.methS (pv 1) K_Table.cl M_Table_add hg hr (by decide) pass0 (pa_cons (pv 2) (pa_cons (pe_ix (r := rIxT K) ix_tup (pv 3) pe_int (fun _ _ => rfl)) pa_nil)))))
  (pss_one (ps_expr (Sm.methS (pv 1) K_Table.cl M_Table_add hg hr (by decide) pass0 (pa_cons (pv 2) pa_nil))))))))))
  (pss_cons (ps_lock (ps_for (wi := iKeys _) PassesOwn.never rfl (pi_keys (pe_dget (one_ hr.units) (pv 0) pe_str (fun _ _ => rfl))) (pg_name (i := 4) scL_table.nd rfl (Or.inl rfl))
  (pss_one (ps_expr (pe_cG CL_put hg hr (by decide) (pa_cons (pv 1) (pa_cons (pv 4) (pa_cons (pe_dget (one_ hr.units) (pe_dget (one_ hr.units) (pv 0) pe_str (fun _ _ => rfl)) (pv 4) (fun _ _ => rfl)) pa_nil))))))))
  (pss_one (ps_ret (pv 1)))))), ?_⟩
    repeat walk_at "rd"
    refine Rd.makeR ?_
    repeat walk_at "rd"
    refine ⟨a.o, a.w, a.f, a.g, m, fl, rfl, ow.book, od7.pm, fun b w' f' g' H1 s1 nb nw nf bk => ?_⟩
    repeat walk_at "rd"
    refine fun t dx ht hdx nd => ⟨t, dx, b, w', f', g', m, fl, rfl, upd_same, ?_, fun ta H2 s2 tb => ⟨rfl, ?_⟩⟩
    · refine bk.mono fun z u e => ?_
      rw [upd_ne (ne_of_none e ht), upd_ne (ne_of_none e hdx)]
      exact e
    have sH : Same H (hide t (upd (upd H1 dx (.own t)) t (.ins CT dx []))) := fun z u e => by
      have e1 := s1 _ _ e
      rw [hide_ne _ (ne_of_none e1 ht), upd_ne (ne_of_none e1 ht), upd_ne (ne_of_none e1 hdx)]
      exact e1
    have tb2 := tb.lower sH
    have s02 := sH.trans s2
    clear tb sH s2
    repeat walk_at "rd"
    have ndw : ws.Nodup := od7.gw.nodup (by omega)
    refine forLi ?_
    repeat walk_at "rd"
    refine ⟨a.o, _, rfl, (ow.mono s02).get (k := "names") rfl, ?_⟩
    refine ⟨a.nm, rfl, ⟨_, SqL.of (s02 _ _ ow.nm)⟩, ?_⟩
    refine for_list (K := K) (a := a.nm) (xs := ws.map V.str) (fun i σ H' => ∃ (z2 z3 : Option V) (ta : TA) (st : Tt), σ = [some (.ref a.o), some (.ref t), z2, z3, none] ∧ Same H H' ∧ TbAt K CT CB C_Book H H' t ta st 0 ∧ st.ns = ws.take i ∧ (∀ n ∈ ws.take i, st.bs n = bs n ∧ st.od n = od n) ∧ (st.en = fun _ _ => none) ∧ st.m = m ∧ st.fl = fl ∧ TOk (ws.take i) st.bs st.od)
      ⟨none, none, ta, tt0 m fl, rfl, s02, tb2, rfl, fun n hn => (by simp at hn), rfl, rfl, rfl, TOk.nil⟩ (fun i σ H' _ ⟨_, _, _, _, _, h, _⟩ => SqL.of (h _ _ ow.nm)) ?_ ?_
    · rintro i v σ H3 hv ⟨z2, z3, ta, st, rfl, s3, tb3, ens, agr, een, em, efl, tk⟩
      obtain ⟨x, hx, rfl⟩ : ∃ x, ws[i]? = some x ∧ v = .str x := by
        rw [List.getElem?_map] at hv
        cases e : ws[i]? with
        | none => rw [e] at hv; cases hv
        | some x => rw [e] at hv; exact ⟨x, rfl, (Option.some.inj hv).symm⟩
      have hi : i < ws.length := (List.getElem?_eq_some_iff.mp hx).1
      have nx := take_out ndw hx
      have tl : (ws.take i).length < 8 := by rw [List.length_take]; omega
      obtain ⟨r, h1, h2, h3, h4⟩ := od7.st i x hi hx
      have mp : (bs x).map st.od = (bs x).map od := List.map_congr_left fun b hb => (agr b (h1 b hb)).2
      obtain ⟨tk4, rk, dag, rx, eo⟩ := tk.step nx tl h1 (by omega) (by rw [mp]; exact h3)
      rw [← take_next hx] at tk4
      have ow3 := ow.mono s3
      have tp3 := ow3.ba.tp x (List.mem_of_getElem? hx)
      have go : ∀ (l : List Str) (Q' : VK), bs x = l → (∀ H4, (∃ (z2 z3 : Option V) (ta : TA) (st : Tt), ([some (.ref a.o), some (.ref t), some (.str x), some (.ref (a.gB x)), none] : L2.St) = [some (.ref a.o), some (.ref t), z2, z3, none] ∧ Same H H4 ∧ TbAt K CT CB C_Book H H4 t ta st 0 ∧ st.ns = ws.take (i + 1) ∧ (∀ n ∈ ws.take (i + 1), st.bs n = bs n ∧ st.od n = od n) ∧ (st.en = fun _ _ => none) ∧ st.m = m ∧ st.fl = fl ∧ TOk (ws.take (i + 1)) st.bs st.od) → Q' .non H4) →
          Sm.spStar 2 (spAdd K CT CB C_Book) ([.ref t, .str x] ++ l.map V.str) H3 Q' E0 := fun l Q' el qq => by
        subst el
        refine ⟨_, _, rfl, rfl, Nat.le_of_lt (Rd.szl (by rw [List.length_map]; omega)), fun p hp => ?_⟩
        have sp := Rd.sNew (o := .tup ((bs x).map V.str)) hp
        refine ⟨H, t, ta, st, 0, x, p, bs x, x :: r, rk, rfl, tb3.mono sp, s3.trans sp, .inl (.inl upd_same), (od7.gw i x hx).ok, by rw [ens]; exact nx, by rw [ens]; exact tl, by rw [ens]; exact h1, by rw [ens]; exact dag, rx, eo, fun n _ => by rw [een], fun ta' H4 s4 tb4 => qq H4 ⟨_, _, ta', _, rfl, s4, tb4, ?_, fun n hn => ?_, ?_, em, efl, tk4⟩⟩
        · show st.ns ++ [x] = _
          rw [ens, take_next hx]
        · show fset st.bs x (bs x) n = bs n ∧ fset st.od x (x :: r) n = od n
          rw [take_next hx] at hn
          rcases List.mem_append.mp hn with hn | hn
          · have ne : n ≠ x := fun e => nx (by rw [← e]; exact hn)
            rw [fset_ne ne, fset_ne ne]
            exact agr n hn
          · obtain rfl := List.mem_singleton.mp hn
            rw [fset_at, fset_at]
            exact ⟨rfl, h4.symm⟩
        · show fset st.en x (fun _ => none) = _
          rw [een]
          funext y z
          unfold fset
          split <;> rfl
      obtain ⟨dx3, ht3⟩ := tb3.ins
      repeat walk_at "rd"
      refine ⟨a.o, _, rfl, ow3.get (k := "bases") rfl, ?_⟩
      repeat walk_at "rd"
      refine ⟨a.ba, _, rfl, get_tab ow3.ba.dt (List.mem_of_getElem? hx), ?_⟩
      repeat walk_at "rd"
      refine Rd.lenT tp3 ?_
      rw [List.length_map]
      repeat walk_at "rd"
      rcases e : bs x with _ | ⟨b0, _ | ⟨b1, _ | ⟨b2, l⟩⟩⟩
      · rw [e] at tp3
        refine Rd.dec (fun c => (by cases c)) (fun _ => ?_)
        repeat walk_at "rd"
        refine Rd.lenT tp3 ?_
        repeat walk_at "rd"
        refine Rd.dec (fun c => (by cases c)) (fun _ => ?_)
        repeat walk_at "rd"
        refine ⟨t, dx3, _, rfl, ht3, rfl, ?_⟩
        repeat walk_at "rd"
        exact go [] _ e fun H4 h => h
      · rw [e] at tp3
        refine Rd.dec (fun c => (by cases c)) (fun _ => ?_)
        repeat walk_at "rd"
        refine Rd.lenT tp3 ?_
        repeat walk_at "rd"
        refine Rd.dec (fun _ => ?_) (fun c => absurd rfl c)
        repeat walk_at "rd"
        refine ⟨t, dx3, _, rfl, ht3, rfl, ?_⟩
        repeat walk_at "rd"
        refine Rd.ixT tp3 (by exact Rd.at0) ?_
        repeat walk_at "rd"
        exact go [b0] _ e fun H4 h => h
      · rw [e] at tp3
        refine Rd.dec (fun _ => ?_) (fun c => absurd rfl c)
        repeat walk_at "rd"
        refine ⟨t, dx3, _, rfl, ht3, rfl, ?_⟩
        repeat walk_at "rd"
        refine Rd.ixT tp3 (by exact Rd.at0) ?_
        repeat walk_at "rd"
        refine Rd.ixT tp3 (Rd.atN (by decide) rfl) ?_
        repeat walk_at "rd"
        exact go [b0, b1] _ e fun H4 h => h
      · rw [e] at h2
        simp at h2
    · rintro σ H3 ⟨z2, z3, ta, st, rfl, s3, tb3, ens, agr, een, em, efl, tk⟩
      rw [List.length_map, List.take_length] at ens agr tk
      repeat walk_at "rd"
      obtain ⟨kvs, hen, pes⟩ := ow.en
      have nw := tb3.new
      have ens3 := ens
      have off_en : ∀ {b : Addr} {u : HO}, H b = none → upd H a.en u b = none := fun h => by rw [upd_ne (fun c => by rw [c, hen] at h; cases h)]; exact h
      have hen3 := s3 _ _ hen
      have ntE : ∀ {G : Hp}, G a.en = some (.dT kvs) → NoTup G a.en := fun h u x => by rw [h] at x; cases x; exact ⟨fun _ => by simp, fun _ _ => by simp⟩
      have ntF : ∀ {G : Hp} {od : Obj}, G a.en = some (.frz od (.dT kvs)) → NoTup G a.en := fun h u x => by rw [h] at x; cases x; exact ⟨fun _ => by simp, fun _ _ => by simp⟩
      have klen := Rd.pair_len pes
      have elen := od7.eo.len
      refine forKT (d := a.en) (kvs := kvs) (fun odj i σ H' => ∃ (z4 : Option V) (st : Tt), σ = [some (.ref a.o), some (.ref t), z2, z3, z4] ∧ Same (upd H a.en (.frz odj (.dT kvs))) H' ∧ H' a.en = some (.frz odj (.dT kvs)) ∧ TbAt K CT CB C_Book (upd H a.en (.frz odj (.dT kvs))) H' t ta st i ∧ st.ns = ws ∧ (∀ n ∈ ws, st.bs n = bs n ∧ st.od n = od n) ∧ (∀ n m, st.en n m = enL (es.take i) n m) ∧ st.m = m ∧ st.fl = fl)
        (fun odj R k => ?_) hen3 (fun odj => ?_) (fun odj i σ H' ⟨_, _, _, _, h, _⟩ => h) ?_ ?_
      · have : upd H3 a.en (.frz odj (.dT kvs)) a.o = some (.dK (own6 a)) := by rw [upd_ne (fun c : a.o = a.en => by have := ow.kv; rw [c, hen] at this; cases this)]; exact s3 _ _ ow.kv
        repeat walk_at "rd"
        exact ⟨a.o, _, rfl, .inl ⟨_, .inr "entries", .inl this, rfl, rfl⟩, k⟩
      · have tbF := tb3.keepX (u := .dT kvs) (H' := upd H3 a.en (.frz odj (.dT kvs))) (Keep.put fun _ _ _ e => e) hen3 (ntE hen3) (fun _ => by simp) (fun _ => by simp) (fun _ _ _ => by simp)
        refine ⟨none, st, rfl, fun b u e => ?_, upd_same, { tbF with new := ⟨off_en nw.1, off_en nw.2.1, off_en nw.2.2.1, off_en nw.2.2.2.1, fun n hn => off_en (nw.2.2.2.2 n hn)⟩ }, ens, agr, fun n m => by rw [een]; rfl, em, efl⟩
        by_cases hb : b = a.en
        · subst hb
          rw [upd_same] at e ⊢
          exact e
        · rw [upd_ne hb] at e ⊢
          exact s3 _ _ e
      · rintro odj i k v qk σ H4 rt bk hk hq ⟨z4, st, rfl, s4, hf4, tb4, ens, agr, een, em, efl⟩
        obtain ⟨e, he, ek, ev⟩ := Rd.pair_get pes hk
        have eek : k = [.inr e.1.1, .inr e.1.2] := ek
        subst eek
        obtain ⟨i1, i2⟩ := od7.eo.inn e (List.mem_of_getElem? he)
        have iws : e.1.1 ∈ ws := by
          rcases i2 with i2 | ⟨i2, _⟩
          · exact List.mem_of_mem_take i2
          · exact List.mem_of_getElem? i2
        have kE : Keep a.en H H4 := fun b u nb eb => s4 _ _ (by rw [upd_ne nb]; exact eb)
        have ev4 : EvAt K H4 e.1.2 e.2 v := ev.keep kE (ntE hen)
        have o4 : H4 a.o = some (.dK (own6 a)) := kE _ _ (fun c : a.o = a.en => by have := ow.kv; rw [c, hen] at this; cases this) ow.kv
        have hval : valV kvs [.inr e.1.1, .inr e.1.2] = some v := es_get pes od7.eo.nd hk
        repeat walk_at "rd"
        refine ⟨a.o, _, rfl, .inl ⟨_, .inr "entries", .inl o4, rfl, rfl⟩, ?_⟩
        repeat walk_at "rd"
        refine ⟨a.en, v, rfl, .inr ⟨kvs, _, qk, .inr ⟨odj, hf4⟩, rfl, hq, hval.symm⟩, ?_⟩
        repeat walk_at "rd"
        refine ⟨upd H a.en (.frz odj (.dT kvs)), t, ta, st, i, qk, e.1.1, e.1.2, e.2, v, rfl, tb4, s4, ?_, .inl (.inl hq), by rw [ens]; exact iws, i1, ev4, fun H5 s5 tb5 => ?_⟩
        · have := (List.getElem?_eq_some_iff.mp hk).1
          omega
        · refine ⟨_, _, rfl, s5, ?_, tb5, ens, agr, fun n m' => ?_, em, efl⟩
          · exact s5 _ _ upd_same
          · rw [enL_next od7.eo.nd (n := e.1.1) (m := e.1.2) (e := e.2) he]
            show fset st.en e.1.1 (fset (st.en e.1.1) e.1.2 (some e.2)) n m' = _
            by_cases c : n = e.1.1
            · by_cases c2 : m' = e.1.2
              · rw [if_pos ⟨c, c2⟩, c, c2, fset_at, fset_at]
              · rw [if_neg (fun z => c2 z.2), c, fset_at, fset_ne c2]
                exact een _ _
            · rw [if_neg (fun z => c z.1), fset_ne c]
              exact een _ _
      · rintro odj σ H4 ⟨z4, st, rfl, s4, hf4, tb4, ens, agr, een, em, efl⟩
        have s5 : Same H (upd H4 a.en (.dT kvs)) := fun b u e => by
          by_cases c : b = a.en
          · rw [c, upd_same, ← hen, ← c, e]
          · rw [upd_ne c]; exact s4 _ _ (by rw [upd_ne c]; exact e)
        have tb5 := tb4.keepX (H' := upd H4 a.en (.dT kvs)) (Keep.put fun _ _ _ e => e) hf4 (ntF hf4) (fun _ => by simp) (fun _ => by simp) (fun _ _ _ => by simp)
        repeat walk_at "rd"
        have tb6 : TbAt K CT CB C_Book H (upd H4 a.en (.dT kvs)) t ta st kvs.length := { tb5 with new := by rw [ens]; rw [ens3] at nw; exact nw }
        refine q t ta st kvs.length _ s5 tb6 ⟨ens, fun n hn => (agr n hn).1, fun n hn => (agr n hn).2, fun n m' => ?_, em, efl⟩
        rw [een, ← klen, List.take_length]
end
end Ab
/-! x != y of two lists that are equal, items compared by an own == where they have one -/
namespace On
open PySem PySem.SeqAt GQ
open MeetsSeq MeetsSeq2 MeetsSeq3 SeqRoads2
section
variable {prog : Program} {w : World} {A : Around} {R : Result → Shared → Prop}
/-- the loop of != from the i-th pair on: all equal, so False at the end -/
theorem loop (l b : Addr) (N : Nat) (I : Nat → Shared → Prop) (hl : ListI prog w A (fun e s' => R (.error e) s') l b N I) (fin : ∀ s, I N s → R (.ok (.ret (.bool false))) s) : ∀ (k i : Nat), N - i = k → i ≤ N → ∀ s, I i s →
    wpAny (model prog w) A.in1 (Builtin.«list.__eq__.loop» ⟨[.ref l, .ref b, rawInt i, rawInt 3], []⟩) (FinOf prog w A R) (fun e s' => R (.error e) s') s
  | 0, i, hk, hi, s, h => by
    obtain ⟨us, vs, n, m, gl, gb, zu, zv, _⟩ := hl _ _ h
    obtain rfl : i = N := by omega
    have done := fin s h
    obtain ⟨hp, g, d, tk, os⟩ := s
    wp_walk using AutoSeq1.wpAny_loadPart' gl, AutoSeq1.wpAny_loadPart' gb
    rw [show us[((i : Nat) : Int).toNat]? = none by simp; omega, show vs[((i : Nat) : Int).toNat]? = none by simp; omega]
    wp_walk using AutoSeq1.wpAny_loadPart' gl, AutoSeq1.wpAny_loadPart' gb
    show R (.ok (.ret (.bool (us.size != vs.size)))) _
    rw [zu, zv]
    simpa using done
  | k + 1, i, hk, hi, s, h => by
    obtain ⟨us, vs, n, m, gl, gb, zu, zv, turn⟩ := hl _ _ h
    have lu : i < us.size := by omega
    have lv : i < vs.size := by omega
    have now := turn lu lv
    obtain ⟨hp, g, d, tk, os⟩ := s
    wp_walk using AutoSeq1.wpAny_loadPart' gl, AutoSeq1.wpAny_loadPart' gb
    rw [show us[((i : Nat) : Int).toNat]? = some us[i] by simp [lu], show vs[((i : Nat) : Int).toNat]? = some vs[i] by simp [lv]]
    refine wpAny_bind (wpAny_mono now (fun r s2 z => ?_) fun _ _ x => x)
    obtain ⟨rfl, z⟩ := z
    have rest := loop l b N I hl fin k (i + 1) (by omega) (by omega) s2 z
    obtain ⟨hp2, g2, d2, tk2, os2⟩ := s2
    wp_walk
    rw [show ((i : Int) + 1) = ((i + 1 : Nat) : Int) by omega]
    exact ⟨plainId_quiet plain_eq_loop _, codeAny_builtin entry_eq_loop (by
      rw [Around.under_plainId plain_eq_loop _]
      exact rest)⟩
theorem list_ne (l b : Addr) (N : Nat) (I : Nat → Shared → Prop) (hl : ListI prog w A (fun e s' => R (.error e) s') l b N I) (fin : ∀ s, I N s → R (.ok (.ret (.bool false))) s) {s : Shared} (h : I 0 s) :
    wpAny (model prog w) A.in1 (Builtin.«list.__ne__» ⟨[.ref l, .ref b], []⟩) (FinOf prog w A R) (fun e s' => R (.error e) s') s := by
  obtain ⟨us, vs, n, m, gl, gb, zu, zv, _⟩ := hl _ _ h
  have all := loop (A := A) (R := R) l b N I hl fin _ 0 rfl (Nat.zero_le _) s h
  obtain ⟨hp, g, d, tk, os⟩ := s
  have sub := AutoSeq1.sub_list_list
  have same : ¬ (us.size != vs.size) = true := by simp [zu, zv]
  wp_walk using AutoSeq1.wpAny_loadPart' gl, AutoSeq1.wpAny_loadPart' gb
  exact ⟨plainId_quiet plain_eq_loop _, codeAny_builtin entry_eq_loop (by
    rw [Around.under_plainId plain_eq_loop _]
    exact all)⟩
theorem rc_list {E : Value → Shared → Prop} {s : Shared} {l b : Addr} {N : Nat} {Q : Value → Shared → Prop} (hu : A.units < cLine) (I : Nat → Shared → Prop) (hl : ListI prog w A E l b N I) (fin : ∀ s, I N s → Q (.bool false) s) (h : I 0 s) :
    wpAny (model prog w) A (richCompare .NotEq (.ref l) (.ref b)) Q E s := by
  obtain ⟨us, vs, n, m, gl, gb, _, _, _⟩ := hl _ _ h
  exact wpAny_richCompare_same_room (op := .NotEq) ⟨_, gl, rfl⟩ ⟨_, gb, rfl⟩ F.slot_list_ne (call_here F.slot_list_ne ⟨_, gl, rfl⟩ F.entry_list_ne (F.args_list_ne_2 _ _)
    (list_ne (R := wants (fun v s' => v ≠ .notImplemented ∧ Q v s') E) l b N I hl (fun s' q => ⟨(fun x => nomatch x), fin s' q⟩) h)) hu
end
end On
namespace On
open PySem L2 PySem.Spec PyProof.Rows
section
variable {X : Cx} {n : Nat} {D : Eqv}
def rNeL (D : Eqv) : R2 := fun x y H Q => DList D x y H ∧ ∀ H', Ext H H' → Q (.bl false) H'
theorem op_neL (hD : Mon D) (h : EqG X n D) (hr : Room (n + 1) X.A) : OpR X (compareOp .NotEq) (rNeL D) := by
  intro pins s σ H x y v u Q I rx ry hq
  obtain ⟨⟨a, b, xs, ys, rfl, rfl, ha, hb, p⟩, q⟩ := hq
  cases rx
  cases ry
  refine rc_list (N := xs.length) hr.units0 (fun _ s' => LoopI X pins σ H s') (fun i s' z => ?_) (fun s' z => ?_) ⟨H, I, Ext.rfl'⟩
  · obtain ⟨H1, I1, e1⟩ := id z
    obtain ⟨_, us, k1, r1, g1⟩ := I1.hok a _ (e1 _ _ ha)
    obtain ⟨_, vs, k2, r2, g2⟩ := I1.hok b _ (e1 _ _ hb)
    exact ⟨us.toArray, vs.toArray, k1, k2, g1, g2, by rw [List.size_toArray, ← r1.length], by rw [List.size_toArray, ← r2.length, ← p.1], fun h1 h2 => turnG hD h ⟨hr, rfl⟩ p r1 r2 i h1 h2 s' z⟩
  · obtain ⟨H1, I1, e1⟩ := z
    exact ⟨.bl false, H1, I1, rfl, q H1 e1⟩
end
end On
namespace Ab
open M6 PySem.Spec PyProof.Rows
local macro_rules | `(tactic| walk_at "rd") => `(tactic| (with_reducible first | refine Rd.tt_ ?_ | refine Rd.ff_ ?_ | refine Rd.dget ?_ | refine Rd.methR ?_))
def OEnt (K : PySem.W.Frag) (CB : Addr) (H : Hp) (m : Str) : Option Ent → V → Prop
  | none, v => v = .non
  | some e, v => EntAt K CB H m e v
theorem OEnt.mono {K : PySem.W.Frag} {CB : Addr} {H H' : Hp} {m : Str} {o : Option Ent} {v : V} (s : Same H H') (h : OEnt K CB H m o v) : OEnt K CB H' m o v := by
  cases o with
  | none => exact h
  | some e => exact ent_mono s h
theorem es_find {K : PySem.W.Frag} {H : Hp} {n m : Str} : ∀ {es : EsL} {kvs : List (List Key × V)}, Paired (EsAt K H) es kvs → (enL es n m = none ∧ valV kvs [.inr n, .inr m] = none) ∨ ∃ e v, enL es n m = some e ∧ valV kvs [.inr n, .inr m] = some v ∧ EvAt K H m e v
  | _, _, .nil => .inl ⟨rfl, rfl⟩
  | e :: es, kv :: kvs, .cons h t => by
    by_cases c : e.1 = (n, m)
    · right
      obtain ⟨⟨n0, m0⟩, e0⟩ := e
      cases c
      refine ⟨e0, kv.2, ?_, valV_pos h.1, h.2⟩
      unfold enL
      rw [List.find?_cons_of_pos (by simp)]
      rfl
    · have ne : ¬ kv.1 = [.inr n, .inr m] := fun z => by
        rw [h.1] at z
        have h1 : e.1.1 = n := by injection z with a b; exact Sum.inr.inj a
        have h2 : e.1.2 = m := by injection z with a b; injection b with c d; exact Sum.inr.inj c
        exact c (Prod.ext h1 h2)
      have e1 : enL (e :: es) n m = enL es n m := by
        unfold enL
        rw [List.find?_cons_of_neg (by simpa using c)]
      rw [e1, valV_neg ne]
      exact es_find t
theorem dget2R {td ty tx : TE} {σ : L2.St} {H : Hp} {Q : VK} (k : td σ H fun x H1 => ∃ a, x = .ref a ∧ IsD H1 a ∧ ty σ H1 fun y H2 => tx σ H2 fun z H3 => ∃ o, DGet H3 a y o ∧ Q (o.getD z) H3) : tDGet2 td ty tx σ H Q := k
section
variable {P : Program} {w : World} {K : PySem.W.Frag} {mg : Str → Option Value} {base : Heap}
abbrev sL_entry_due : Stmt := top 84
abbrev nL_entry_due : List Str := ["_law_own_here", "_law_key", "_law_entry_here"]
theorem scL_entry_due : FnScope nL_entry_due ["_law_own_here", "_law_key"] (defScope sL_entry_due) := ⟨rfl, rfl, rfl, by decide +kernel, rfl, by decide +kernel, by decide +kernel⟩
def spDue (K : PySem.W.Frag) (CB : Addr) : Sp := fun vs H Q _ => ∃ (a : OA) (mm : Str → List Str) (fl : Str → Bool) (ws : List Str) (bs od : Str → List Str) (es : EsL) (kq : Addr) (x m : Str), vs = [.ref a.o, .ref kq] ∧ OwnA K H a mm fl ws ws bs od es ∧ H kq = some (.tup [.str x, .str m]) ∧
  ∀ v H', Same H H' → OEnt K CB H' m (enL es x m) v → Q v H'
theorem ok_due (T : Txt K mg) {C_Body CN CBd : Addr} (I_Body : Ob.MkCal P w K mg base (L2.CX P w) C_Body 9 "Body" (spBInit K C_Body CN CBd)) (D : DefAt K mg "_law_entry_due" sL_entry_due ["_law_own_here", "_law_key"]) : CalG P w K mg base 11 "_law_entry_due" (spDue K C_Body) := by
  refine D.by scL_entry_due (fun vs H Q E h => ?_) (fun f cd A hg outer s H vs Q E hr h => ?_)
  · obtain ⟨_, _, _, _, _, _, _, _, _, _, rfl, _⟩ := h
    rfl
  · obtain ⟨a, mm, fl, ws, bs, od, es, kq, x, m, rfl, ow, hk, q⟩ := h
    obtain ⟨kvs, hen, pes⟩ := ow.en
    refine ⟨_, (pss_cons (ps_set (i := 2) scL_entry_due.nd rfl (Or.inl rfl) (pe_dget2 (one_ hr.units) (pe_dget (one_ hr.units) (pv 0) pe_str (fun _ _ => rfl)) (pv 1) pe_non ⟨rfl, rfl, rfl, rfl⟩))
  (pss_one (ps_ret (pe_ifExp (PW.pt (pw_or (pt_cmpR op_isN (pv 2) pe_non (nomark _)) (pw_or1 (pt_val (pe_callB (r := rIsi K) call_isi (by rfl) T.isinstance (by decide +kernel) (pa_cons (pv 2) (pa_cons (pe_bltn (v := .ty "str") (by rfl) T.str (by decide +kernel) rfl) pa_nil))))))) (pv 2) (Ob.make I_Body hg hr (by decide) Ob.px0 (pa_cons (pe_ix (r := rIxT K) ix_tup (pv 1) pe_int (fun _ _ => rfl)) (pa_cons (pv 2) pa_nil))))))), ?_⟩
    repeat walk_at "rd"
    refine dget2R ?_
    repeat walk_at "rd"
    refine ⟨a.o, _, rfl, ow.get (k := "entries") rfl, a.en, rfl, .inr ⟨kvs, .inl hen⟩, ?_⟩
    repeat walk_at "rd"
    refine ⟨_, DGet.t (k := [.inr x, .inr m]) hen hk, ?_⟩
    have hkT : SqT K H kq [.str x, .str m] := .inl (.inl hk)
    rcases es_find (n := x) (m := m) pes with ⟨e1, e2⟩ | ⟨e, v, e1, e2, hv⟩
    · rw [e2]
      repeat walk_at "rd"
      refine Rd.dec (fun _ => ?_) (fun c => absurd rfl c)
      repeat walk_at "rd"
      exact q .non H (Same.refl _) (by rw [e1]; rfl)
    · rw [e2]
      have nn : v ≠ .non := hv.nn
      repeat walk_at "rd"
      refine Rd.dec (fun c => absurd c nn) (fun _ => ?_)
      repeat walk_at "rd"
      cases e with
      | w z =>
        obtain ⟨rfl, hz⟩ := hv
        refine isi (.base (.str z)) (by show kitB "str" "str" = some true; decide +kernel) ?_
        repeat walk_at "rd"
        exact q _ H (Same.refl _) (by rw [e1]; exact ⟨rfl, hz⟩)
      | b nd =>
        obtain ⟨dp, ok⟩ := hv
        obtain ⟨p, xs, ds, rfl, hp, _⟩ := nd_at dp
        refine isi (tup_ty hp) (by show kitB "tuple" "str" = some false; decide +kernel) ?_
        repeat walk_at "rd"
        refine Rd.makeR ?_
        repeat walk_at "rd"
        refine Rd.ixT hkT (Rd.atN (by decide) rfl) ?_
        repeat walk_at "rd"
        exact mkB ok dp fun b L H1 s1 _ bd => q _ H1 s1 (by rw [e1]; exact ⟨b, L, _, rfl, bd, ok⟩)
/-- two bodies that are equal -/
def BodyR (K : PySem.W.Frag) (C : Addr) (a b : Addr) (H : Hp) : Prop := ∃ (L : Addr) (m : Str) (v : V) (nd : Nd) (L2 : Addr) (v2 : V), BdA K C H a L m v nd ∧ BdOk m nd ∧ BdA K C H b L2 m v2 nd
theorem ok_beqK (T : Txt K mg) {C_Body : Addr} (K_Body : BdF K mg C_Body) (ic : BIC K C_Body) {f : Addr} {fd : FuncData} (D : Ob.MethAt K "__eq__" "Body.__eq__" sBody___eq__ ["self", "other"] f fd) : FnOk P w K mg base CX0 1 f fd ["self", "other"] (spEq (BodyR K C_Body)) := by
  refine Fun.ok D.1 scBody___eq__ (fun vs H Q E h => ?_) (fun cd A outer s H vs Q E hr h => ?_)
  · obtain ⟨_, _, rfl, _⟩ := h
    rfl
  · obtain ⟨b, b2, rfl, ⟨L, m, v, nd, L2, v2, bk, bd, bk'⟩, q⟩ := h
    obtain ⟨dx, hb⟩ := bk.ins
    refine ⟨_, (pss_one (ps_ret (pe_and (pe_callB (r := rIsi K) call_isi (by rfl) T.isinstance (by decide +kernel) (pa_cons (pv 1) (pa_cons (pe_glob (v := .ref C_Body) (by rfl) K_Body.g rfl) pa_nil))) (pe_and (pe_cmpR (r := rEqD K) (op_eqD hr.units) (pe_fld (pv 0) (by rfl)) (pe_fld (pv 1) (by rfl)) (nomark _)) (pe_one (pe_cmpR (r := rEqD K) (op_eqD hr.units) (pe_fld (pv 0) (by rfl)) (pe_fld (pv 1) (by rfl)) (nomark _))))))), ?_⟩
    repeat walk_at "rd"
    obtain ⟨dy, hc⟩ := bk'.ins
    refine ⟨.ref b2, .ref C_Body, .ref C_Body, .ref C_Body, true, rfl, .own _, bd_ty K_Body ic bk', kit_self, ?_⟩
    repeat walk_at "rd"
    refine Rd.fldV rfl hb K_Body.cl K_Body.n1 rfl ?_
    refine Rd.fldV rfl hc K_Body.cl K_Body.n1 rfl ?_
    refine Rd.eqD (d := .str m) (e := .str m) (.str _) (.str _) (meth_shaped bd.mm) (meth_shaped bd.mm) ?_
    rw [eqv_str, decide_eq_true rfl]
    refine ⟨_, rfl, ?_⟩
    rw [if_pos rfl]
    repeat walk_at "rd"
    refine Rd.fldV rfl hb K_Body.cl K_Body.n2 rfl ?_
    refine Rd.fldV rfl hc K_Body.cl K_Body.n2 rfl ?_
    refine Rd.eqD bk.dp bk'.dp (nd_shp bd) (nd_shp bd) ?_
    rw [nd_eqv bd]
    exact q H (Same.refl _)
def EntD (K : PySem.W.Frag) (C : Addr) : Eqv := DTup K fun x y H => DFlat x y H ∨ DIns C (BodyR K C) x y H
theorem BodyR.mono {C a b : Addr} {H H' : Hp} (e : Ext H H') (h : BodyR K C a b H) : BodyR K C a b H' :=
  let ⟨L, m, v, nd, L2, v2, h1, h2, h3⟩ := h; ⟨L, m, v, nd, L2, v2, h1.mono e, h2, h3.mono e⟩
theorem ent_mon {C : Addr} : Mon (EntD K C) := mon_tup (mon_flat.or (mon_ins fun _ _ _ _ e h => h.mono e))
end
/-- Body's own == as == inside lists and tuples sees it -/
def EqOk (P : Program) (w : World) (K : PySem.W.Frag) (mg : Str → Option Value) (base : Heap) (C : Addr) : Prop := ∃ (f : Addr) (fd : FuncData) (ps : List Str), FnOk P w K mg base CX0 1 f fd ps (spEq (BodyR K C)) ∧ PySem.W.findIn K (.ref C) "__eq__" = some (some (.ref f)) ∧ PySem.W.isFn K (.ref f) = true ∧ Binds K fd ps []
theorem ent_eqG {X : Cx} {C : Addr} (h : EqOk X.prog X.w X.K X.mg X.base C) : EqG X 2 (EntD X.K C) := by
  obtain ⟨f, fd, ps, F, h1, h2, h3⟩ := h
  exact eqG_tup (mon_flat.or (mon_ins fun _ _ _ _ e h => h.mono e)) ((eqG_flat.mono (Nat.zero_le 1)).or (eqG_ins (E := E0) F h1 h2 h3 pass0))
end Ab
namespace Ab
open M6 PySem.Spec PyProof.Rows
local macro_rules | `(tactic| walk_at "rd") => `(tactic| (with_reducible first | refine Rd.tt_ ?_ | refine Rd.ff_ ?_ | refine Rd.dget ?_ | refine Rd.methR ?_ | refine Rd.getR ?_))
section
variable {K : PySem.W.Frag} {H : Hp} {p q : Addr} {r : List Str} {Q : VK}
theorem neLs (h : SqL K H p (r.map V.str)) (h' : SqL K H q (r.map V.str)) (w : ∀ z ∈ r, W6.W 100 z) (k : Q (.bl false) H) : rNeD K (.ref p) (.ref q) H Q := by
  refine Rd.neD (d := Dt.dS r) (e := Dt.dS r) (Dt.dp_S h) (Dt.dp_S h') (Dt.shaped_dS w) (Dt.shaped_dS w) ?_
  rw [Dt.eqv_dS, decide_eq_true rfl]
  exact k
theorem neTs (h : SqT K H p (r.map V.str)) (h' : SqT K H q (r.map V.str)) (w : ∀ z ∈ r, W6.W 100 z) (k : Q (.bl false) H) : rNeD K (.ref p) (.ref q) H Q := by
  have sh : SeqAt.shaped (dT r) = true := by
    have := Dt.dep_strs r
    simp [SeqAt.shaped, dT, PyData.canLay0, Dt.lay_strs w, PyData.depth]
    omega
  refine Rd.neD (d := dT r) (e := dT r) (.tup h (Dt.dp_strs _)) (.tup h' (Dt.dp_strs _)) sh sh ?_
  rw [eqv_dT, decide_eq_true rfl]
  exact k
theorem bookEq_self (m : Str → List Str) (fl : Str → Bool) : bookEq m m fl fl = true := by
  unfold bookEq eqWays eqFlags
  rw [Bool.and_eq_true, List.all_eq_true, List.all_eq_true]
  exact ⟨fun _ _ => decide_eq_true rfl, fun _ _ => decide_eq_true rfl⟩
theorem neBk {mg : Str → Option Value} {C b w f b' w' f' : Addr} {g g' : Str → Addr} {m : Str → List Str} {fl : Str → Bool} (B : BF K mg C) (ic : BkIC K C) (k : Bk K C H b w f g m fl) (k' : Bk K C H b' w' f' g' m fl) (o : OkM m) (q : Q (.bl false) H) : Ob.rEqO K C (spBkEq K C) true (.ref b) (.ref b') H Q := by
  obtain ⟨dx, hb⟩ := k.ins
  refine ⟨b, dx, _, .ref C, rfl, hb, bk_ty B ic k', by show (Value.ref C == Value.ref C || _) = true; simp, b, w, f, g, m, fl, .ref b', rfl, k, o, .inr ⟨b', w', f', g', m, fl, rfl, k', o, _, rfl, ?_⟩⟩
  rw [if_pos rfl, bookEq_self]
  exact q
end
theorem pm_ok {m : Str → List Str} (h : PM m) : OkM m := fun o ho x hx => menu_in o ho x ((h o ho).2 x hx)
/-- entries of one class that are told twice are equal -/
theorem prs_ents {K : PySem.W.Frag} {CB : Addr} {H : Hp} : ∀ {bs : List (Str × Ent)} {xs ys : List V}, Paired (fun b y => EnAt K CB b y H) bs xs → Paired (fun b y => EnAt K CB b y H) bs ys → Prs (EntD K CB) xs ys H
  | _, _, _, .nil, .nil => Prs.nil
  | b :: bs, x :: xs, y :: ys, .cons h t, .cons h' t' => by
    refine Prs.cons ?_ (prs_ents t t')
    obtain ⟨p, v, rfl, hp, hv⟩ := h
    obtain ⟨p', v', rfl, hp', hv'⟩ := h'
    refine ⟨p, p', _, _, rfl, rfl, hp, hp', Prs.cons (.inl ⟨rfl, rfl, by show eqV (.str b.1) (.str b.1) = true; simp [eqV]⟩) (Prs.cons ?_ Prs.nil)⟩
    generalize b.2 = e at hv hv'
    cases e with
    | w z =>
      obtain ⟨rfl, _⟩ := hv
      obtain ⟨rfl, _⟩ := hv'
      exact .inl ⟨rfl, rfl, by show eqV (.str z) (.str z) = true; simp [eqV]⟩
    | b nd =>
      obtain ⟨c, L, w, rfl, k, ok⟩ := hv
      obtain ⟨c', L', w', rfl, k', _⟩ := hv'
      obtain ⟨dx, hc⟩ := k.ins
      obtain ⟨dy, hc'⟩ := k'.ins
      exact .inr ⟨c, c', dx, dy, _, _, rfl, rfl, hc, hc', L, _, w, nd, L', w', k, ok, k'⟩
section
variable {P : Program} {w : World} {K : PySem.W.Frag} {mg : Str → Option Value} {base : Heap}
abbrev sL_right : Stmt := top 85
abbrev nL_right : List Str := ["_law_table_here", "_law_own_here", "_law_names", "_law_name", "_law_one_here", "_law_told", "_law_method", "_law_due", "_law_odd", "_law_thing"]
theorem scL_right : FnScope nL_right ["_law_table_here", "_law_own_here"] (defScope sL_right) := ⟨rfl, rfl, rfl, by decide +kernel, rfl, by decide +kernel, by decide +kernel⟩
def spRight (K : PySem.W.Frag) (CT CB CK : Addr) : Sp := fun vs H Q _ => ∃ (H0 : Hp) (t : Addr) (ta : TA) (st : Tt) (c : Nat) (a : OA) (m : Str → List Str) (fl : Str → Bool) (ws : List Str) (bs od : Str → List Str) (es : EsL), vs = [.ref t, .ref a.o] ∧ TbAt K CT CB CK H0 H t ta st c ∧ OwnD K H a m fl ws bs od es ∧ Tells7 st m fl ws bs od es ∧ 1 ≤ ws.length ∧ ws.length ≤ 8 ∧
  ∀ H', Same H H' → Q (.bl true) H'
set_option pp.maxSteps 600 in
theorem ok_right (T : Txt K mg) {C_Table C_Body C_Book : Addr} (K_Table : TF K mg C_Table) (K_Book : BF K mg C_Book) (K_Body : BdF K mg C_Body) (icK : BkIC K C_Book) (icB : BIC K C_Body) (E_Body : EqOk P w K mg base C_Body) (Q_Body : Ob.EqCal P w K mg base CX0 C_Body 1 (spBEq K C_Body)) (Q_Book : Ob.EqCal P w K mg base CX0 C_Book 1 (spBkEq K C_Book))
    (L_Table : Ob.LenCal P w K mg base CX0 C_Table 1 (spTLen K C_Table C_Body C_Book)) (N_Table : Sm.InCal P w K mg base CX0 C_Table 2 (spTHas K C_Table C_Body C_Book)) (G_Table : Ob.GetCal P w K mg base CX0 C_Table 4 "__getitem__" (spTGet K C_Table C_Body C_Book))
    (M_Table_listed : Ob.MCal P w K mg base CX0 C_Table 1 "listed" (spTListed K C_Table C_Body C_Book)) (M_Table_book : Ob.MCal P w K mg base CX0 C_Table 4 "book" (spTBook K C_Table C_Body C_Book)) (M_Table_bases : Ob.MCal P w K mg base CX0 C_Table 3 "bases" (spTBases K C_Table C_Body C_Book))
    (M_Table_order : Ob.MCal P w K mg base CX0 C_Table 3 "order" (spTOrder K C_Table C_Body C_Book)) (M_Table_heirs : Ob.MCal P w K mg base CX0 C_Table 3 "heirs" (spTHeirs K C_Table C_Body C_Book)) (M_Table_entries : Ob.MCal P w K mg base CX0 C_Table 3 "entries" (spTEnts K C_Table C_Body C_Book))
    (CL_book : CalG P w K mg base 5 "_law_book" (spLBook K C_Book)) (CL_methods : CalG P w K mg base 1 "_law_methods" spMethods) (CL_entry_due : CalG P w K mg base 11 "_law_entry_due" (spDue K C_Body)) (D : DefAt K mg "_law_right" sL_right ["_law_table_here", "_law_own_here"]) : CalG P w K mg base 14 "_law_right" (spRight K C_Table C_Body C_Book) := by
  refine D.by scL_right (fun vs H Q E h => ?_) (fun f cd A hg outer s H vs Q E hr h => ?_)
  · obtain ⟨_, _, _, _, _, _, _, _, _, _, _, _, rfl, _⟩ := h
    rfl
  · obtain ⟨H0, t, ta, st, c, a, m, fl, ws, bs, od, es, rfl, tb, ow7, tl, n1, n8, q⟩ := h
    have ow := ow7.ow
    have ws_W : ∀ z ∈ ws, W6.W 100 z := fun z hz => by
      obtain ⟨i, hi⟩ := List.mem_iff_getElem?.mp hz
      have g1 := ow7.gw i z hi
      exact ⟨Nat.le_trans g1.len (by decide), fun c hc => by have := g1.lo c hc; omega⟩
    have ws_S : ∀ z ∈ ws, SeqAt.shaped (.str z) = true := fun z hz => by
      obtain ⟨i, hi⟩ := List.mem_iff_getElem?.mp hz
      have g1 := ow7.gw i z hi
      exact shaped_low (Nat.le_trans g1.len (by decide)) g1.lo
    obtain ⟨dt, ht⟩ := tb.ins
    have ens := tl.ns
    refine ⟨_, (pss_cons (ps_set (i := 2) scL_right.nd rfl (Or.inl rfl) (pe_dget (one_ hr.units) (pv 1) pe_str (fun _ _ => rfl)))
  (pss_cons (ps_if (PW.pt (pw_or (pt_cmpR (r := rNeD K) (op_neD hr.units) (Ob.meth0 (pv 0) K_Table.cl M_Table_listed hg hr (by decide) pass0) (pv 2) (nomark _)) (pw_or (pt_cmpR op_ne (pe_callB (r := Ob.rLenO C_Table (spTLen K C_Table C_Body C_Book)) (Ob.call_lenO L_Table hg hr (by decide) pass0) (by rfl) T.len PySem.boot_len (pa_cons (pv 0) pa_nil)) (pe_callB (r := Rd.rLenK K) Rd.callLen (by rfl) T.len PySem.boot_len (pa_cons (pv 2) pa_nil)) (nomark _)) (pw_or1 (pt_cmpR (r := Ob.rEqO K C_Book (spBkEq K C_Book) true) (Ob.op_neO Q_Book K_Book.ne K_Book.ob hg hr (by decide) pass0) (Ob.meth0 (pv 0) K_Table.cl M_Table_book hg hr (by decide) pass0) (pe_cG CL_book hg hr (by decide) (pa_cons (pv 1) pa_nil)) (nomark _))))))
  (pss_one (ps_ret pe_bl))
  pss_nil)
  (pss_cons (ps_expr (pe_bm PySem.F.plainAttrs_list PySem.F.slot_list_append PySem.F.type_list_append mt_append (Ob.meth0 (pv 0) K_Table.cl M_Table_listed hg hr (by decide) pass0) (pa_cons pe_str pa_nil)))
  (pss_cons (ps_for (wi := iList K _) PassesOwn.never rfl (pi_list (pv 2)) (pg_name (i := 3) scL_right.nd rfl (Or.inr rfl))
  (pss_cons (ps_if (PW.pt (pw_or (pt_cmpR (r := rNeD K) (op_neD hr.units) (Ob.meth (pv 0) K_Table.cl M_Table_bases hg hr (by decide) pass0 (pa_cons (pv 3) pa_nil)) (pe_dget (one_ hr.units) (pe_dget (one_ hr.units) (pv 1) pe_str (fun _ _ => rfl)) (pv 3) (fun _ _ => rfl)) (nomark _)) (pw_or1 (pt_cmpR (r := Sm.rInO C_Table (spTHas K C_Table C_Body C_Book) true) (Sm.op_ninO N_Table hg hr (by decide) pass0) (pv 3) (pv 0) (by rfl)))))
  (pss_one (ps_ret pe_bl))
  pss_nil)
  (pss_cons (ps_if (pt_cmpR (r := rNeD K) (op_neD hr.units) (Ob.meth (pv 0) K_Table.cl M_Table_order hg hr (by decide) pass0 (pa_cons (pv 3) pa_nil)) (pe_dget (one_ hr.units) (pe_dget (one_ hr.units) (pv 1) pe_str (fun _ _ => rfl)) (pv 3) (fun _ _ => rfl)) (nomark _))
  (pss_one (ps_ret pe_bl))
  pss_nil)
  (pss_cons (ps_if (pt_cmpR (r := rNeD K) (op_neD hr.units) (Ob.meth (pv 0) K_Table.cl M_Table_heirs hg hr (by decide) pass0 (pa_cons (pv 3) pa_nil)) (pe_lc (wi := iList K _) (own := [("_law_one_here", 4)]) (g := gName 4) (by rfl) scL_right.nd (pi_list (pv 2)) (blkOk_by (N := nL_right) (sc := defScope sL_right) (by decide +kernel)) (fun _ _ _ _ _ => pg_name (i := 4) scL_right.nd rfl (Or.inl rfl)) (fun _ _ _ _ _ => (pts_one (PW.pt (pw_and (pt_cmpR op_ne (pv 4) (pv 3) (nomark _)) (pw_and1 (pt_cmpR (r := rIn K false) op_in_seq (pv 3) (pe_dget (one_ hr.units) (pe_dget (one_ hr.units) (pv 1) pe_str (fun _ _ => rfl)) (pv 4) (fun _ _ => rfl)) (by rfl))))))) (fun _ _ _ _ _ => (pv 4))) (nomark _))
  (pss_one (ps_ret pe_bl))
  pss_nil)
  (pss_cons (ps_set (i := 5) scL_right.nd rfl (Or.inl rfl) (pe_lst pa_nil))
  (pss_cons (ps_for (wi := iList K _) PassesOwn.never rfl (pi_list (pe_cG0 CL_methods hg hr (by decide))) (pg_name (i := 6) scL_right.nd rfl (Or.inl rfl))
  (pss_cons (ps_set (i := 7) scL_right.nd rfl (Or.inl rfl) (pe_cG CL_entry_due hg hr (by decide) (pa_cons (pv 1) (pa_cons (pe_tup (pa_cons (pv 3) (pa_cons (pv 6) pa_nil))) pa_nil))))
  (pss_cons (ps_if (pt_cmpR (r := orR (rNeD K) (Ob.rEqO K C_Body (spBEq K C_Body) true)) (orOp (op_neD hr.units) (Ob.op_neO Q_Body K_Body.ne K_Body.ob hg hr (by decide) pass0)) (Ob.getO G_Table hg hr (by decide) pass0 (pv 0) (pe_tup (pa_cons (pv 3) (pa_cons (pv 6) pa_nil))) (fun _ _ => rfl)) (pv 7) (nomark _))
  (pss_one (ps_ret pe_bl))
  pss_nil)
  (pss_one (ps_if (pt_cmpR op_notN (pv 7) pe_non (nomark _))
  (pss_one (ps_expr (pe_bm PySem.F.plainAttrs_list PySem.F.slot_list_append PySem.F.type_list_append mt_append (pv 5) (pa_cons (pe_tup (pa_cons (pv 6) (pa_cons (pv 7) pa_nil))) pa_nil))))
  pss_nil)))))
  (pss_cons (ps_if (PW.pt (pw_or (pt_cmpR (r := On.rNeL (EntD K C_Body)) (On.op_neL ent_mon (ent_eqG E_Body) (hr.mono (by decide))) (Ob.meth (pv 0) K_Table.cl M_Table_entries hg hr (by decide) pass0 (pa_cons (pv 3) pa_nil)) (pv 5) (nomark _)) (pw_or1 (pt_not (pt_val (pe_callB (r := rIsi K) call_isi (by rfl) T.isinstance (by decide +kernel) (pa_cons (Ob.meth (pv 0) K_Table.cl M_Table_entries hg hr (by decide) pass0 (pa_cons (pv 3) pa_nil)) (pa_cons (pe_bltn (v := .ty "list") (by rfl) T.list (by decide +kernel) rfl) pa_nil))))))))
  (pss_one (ps_ret pe_bl))
  pss_nil)
  (pss_cons (ps_expr (pe_bm PySem.F.plainAttrs_list PySem.F.slot_list_append PySem.F.type_list_append mt_append (Ob.meth (pv 0) K_Table.cl M_Table_order hg hr (by decide) pass0 (pa_cons (pv 3) pa_nil)) (pa_cons pe_str pa_nil)))
  (pss_cons (ps_expr (pe_bm PySem.F.plainAttrs_list PySem.F.slot_list_append PySem.F.type_list_append mt_append (Ob.meth (pv 0) K_Table.cl M_Table_heirs hg hr (by decide) pass0 (pa_cons (pv 3) pa_nil)) (pa_cons pe_str pa_nil)))
  (pss_one (ps_expr (pe_bm PySem.F.plainAttrs_list PySem.F.slot_list_append PySem.F.type_list_append mt_append (Ob.meth (pv 0) K_Table.cl M_Table_entries hg hr (by decide) pass0 (pa_cons (pv 3) pa_nil)) (pa_cons pe_non pa_nil)))))))))))))
  (pss_cons (ps_set (i := 8) scL_right.nd rfl (Or.inl rfl) (pe_lst (pa_cons pe_non (pa_cons pe_str (pa_cons (pv 2) (pa_cons pe_int (pa_cons pe_str (pa_cons (pe_tup (pa_cons (pe_ix (r := rIxL K) ix_list (pv 2) pe_int (fun _ _ => rfl)) pa_nil)) (pa_cons (pe_op op_add_str (pe_ix (r := rIxL K) ix_list (pv 2) pe_int (fun _ _ => rfl)) pe_str) pa_nil)))))))))
  (pss_one (ps_ret (pe_cmpR (r := rEqD K) (op_eqD hr.units) (pe_lc (wi := iList K _) (own := [("_law_thing", 9)]) (g := gName 9) (by rfl) scL_right.nd (pi_list (pv 8)) (blkOk_by (N := nL_right) (sc := defScope sL_right) (by decide +kernel)) (fun _ _ _ _ _ => pg_name (i := 9) scL_right.nd rfl (Or.inl rfl)) (fun _ _ _ _ _ => (pts_one (pt_cmpR (r := Sm.rInO C_Table (spTHas K C_Table C_Body C_Book) false) (Sm.op_inO N_Table hg hr (by decide) pass0) (pv 9) (pv 0) (by rfl)))) (fun _ _ _ _ _ => (pv 9))) (pe_lst pa_nil) (nomark _))))))))), ?_⟩
    repeat walk_at "rd"
    refine ⟨a.o, _, rfl, ow.get (k := "names") rfl, ?_⟩
    repeat walk_at "rd"
    refine ⟨t, dt, _, rfl, ht, rfl, ?_⟩
    repeat walk_at "rd"
    refine ⟨H0, t, ta, st, c, rfl, tb, fun l1 hl1 => ?_⟩
    have s1 := Rd.sNew (o := .lst (st.ns.map V.str)) hl1
    have l1' : upd H l1 (.lst (st.ns.map V.str)) l1 = some (.lst (ws.map V.str)) := by rw [upd_same, ens]
    generalize upd H l1 (.lst (st.ns.map V.str)) = H1 at s1 l1' ⊢
    have ow1 := ow.mono s1
    have tb1 := tb.mono s1
    repeat walk_at "rd"
    refine neLs (SqL.of l1') (SqL.of ow1.nm) ws_W ?_
    repeat walk_at "rd"
    refine ⟨t, dt, _, rfl, s1 _ _ ht, H0, t, ta, st, c, rfl, tb1, ((ws.length : Nat) : Int), by rw [ens], by omega, by omega, ?_⟩
    repeat walk_at "rd"
    refine Rd.lenK (SqL.of ow1.nm) ?_
    rw [List.length_map]
    repeat walk_at "rd"
    refine Rd.ndec (fun c => absurd rfl c) (fun _ => ?_)
    repeat walk_at "rd"
    refine ⟨t, dt, _, rfl, s1 _ _ ht, rfl, ?_⟩
    repeat walk_at "rd"
    refine ⟨H0, t, ta, st, c, rfl, tb1, fun g b1 w1 f1 H2 s2 _ _ _ bk1 => ?_⟩
    have ow2 := ow1.mono s2
    repeat walk_at "rd"
    refine ⟨a.o, a.w, a.f, a.g, m, fl, rfl, ow2.book, ow7.pm, fun b2 w2 f2 g2 H3 s3 _ _ _ bk2 => ?_⟩
    have om : OkM m := pm_ok ow7.pm
    rw [tl.m, tl.fl] at bk1
    refine neBk K_Book icK (bk1.mono s3) bk2 om ?_
    have s03 := (s1.trans s2).trans s3
    clear bk1 bk2 s2 s3 ow2 ow1 tb1 l1' s1
    repeat walk_at "rd"
    refine ⟨t, dt, _, rfl, s03 _ _ ht, rfl, ?_⟩
    repeat walk_at "rd"
    refine ⟨H0, t, ta, st, c, rfl, tb.mono s03, fun l2 hl2 => ⟨Rd.ty_list upd_same, ?_⟩⟩
    have z8 : st.ns.length ≤ 8 := by rw [ens]; exact n8
    repeat walk_at "rd"
    refine Rd.app upd_same (Rd.szl (by rw [List.length_map]; omega)) ?_
    have s04 := Rd.sMut (o := .lst (st.ns.map V.str ++ [.str "more"])) (s03.trans (Rd.sNew (o := .lst (st.ns.map V.str)) hl2)) (Same.free s03 hl2)
    generalize upd (upd H3 l2 (.lst (st.ns.map V.str))) l2 (.lst (st.ns.map V.str ++ [.str "more"])) = H4 at s04 ⊢
    clear s03 hl2
    have bs_in : ∀ x ∈ ws, ∀ z ∈ bs x, z ∈ ws := fun x hx z hz => by
      obtain ⟨k, hk⟩ := List.mem_iff_getElem?.mp hx
      obtain ⟨_, h1, _⟩ := ow7.st k x (List.getElem?_eq_some_iff.mp hk).1 hk
      exact List.mem_of_mem_take (h1 z hz)
    repeat walk_at "rd"
    refine forLi ?_
    repeat walk_at "rd"
    refine ⟨a.nm, rfl, ⟨_, SqL.of (s04 _ _ ow.nm)⟩, ?_⟩
    refine for_list (K := K) (a := a.nm) (xs := ws.map V.str) (fun i σ H' => ∃ (z3 z4 z5 z6 z7 : Option V), σ = [some (.ref t), some (.ref a.o), some (.ref a.nm), z3, z4, z5, z6, z7, none, none] ∧ Same H H') ⟨none, none, none, none, none, rfl, s04⟩ (fun i σ H' _ ⟨_, _, _, _, _, _, h⟩ => SqL.of (h _ _ ow.nm)) ?_ ?_
    · rintro i v σ H5 hv ⟨z3, z4, z5, z6, z7, rfl, s5⟩
      obtain ⟨x, hx, rfl⟩ : ∃ x, ws[i]? = some x ∧ v = .str x := by
        rw [List.getElem?_map] at hv
        cases e : ws[i]? with
        | none => rw [e] at hv; cases hv
        | some x => rw [e] at hv; exact ⟨x, rfl, (Option.some.inj hv).symm⟩
      have mx : x ∈ ws := List.mem_of_getElem? hx
      have mxs : x ∈ st.ns := by rw [ens]; exact mx
      have tb5 := tb.mono s5
      have ow5 := ow.mono s5
      have ht5 := s5 _ _ ht
      repeat walk_at "rd"
      refine ⟨t, dt, _, rfl, ht5, rfl, ?_⟩
      repeat walk_at "rd"
      refine ⟨H0, t, ta, st, c, x, rfl, tb5, mxs, fun pb hpb => ?_⟩
      repeat walk_at "rd"
      refine ⟨a.o, _, rfl, ow5.get (k := "bases") rfl, ?_⟩
      repeat walk_at "rd"
      refine ⟨a.ba, _, rfl, get_tab ow5.ba.dt mx, ?_⟩
      rw [tl.bs x mx] at hpb
      refine neTs hpb (ow5.ba.tp x mx) (fun z hz => ws_W z (bs_in x mx z hz)) ?_
      repeat walk_at "rd"
      refine ⟨t, dt, _, rfl, ht5, H0, t, ta, st, c, .str x, "str", rfl, tb5, kd_str x, _, rfl, ?_⟩
      rw [isIn_of mxs]
      refine ⟨false, rfl, ?_⟩
      rw [if_neg Bool.false_ne_true]
      repeat walk_at "rd"
      refine ⟨t, dt, _, rfl, ht5, rfl, ?_⟩
      repeat walk_at "rd"
      refine ⟨H0, t, ta, st, c, x, rfl, tb5, mxs, fun lo hlo => ?_⟩
      have s6 := Rd.sNew (o := .lst ((st.od x).map V.str)) hlo
      have lo6 : upd H5 lo (.lst ((st.od x).map V.str)) lo = some (.lst ((od x).map V.str)) := by rw [upd_same, tl.od x mx]
      generalize upd H5 lo (.lst ((st.od x).map V.str)) = H6 at s6 lo6 ⊢
      have ow6 := ow5.mono s6
      have tb6 := tb5.mono s6
      have ht6 := s6 _ _ ht5
      repeat walk_at "rd"
      refine ⟨a.o, _, rfl, ow6.get (k := "orders") rfl, ?_⟩
      repeat walk_at "rd"
      refine ⟨a.od, _, rfl, get_tab ow6.dO mx, ?_⟩
      refine neLs (SqL.of lo6) (SqL.of (ow6.ol x mx)) (fun z hz => ws_W z ((ow7.tk.head mx).choose_spec.2.2.1 z hz)) ?_
      repeat walk_at "rd"
      refine ⟨t, dt, _, rfl, ht6, rfl, ?_⟩
      repeat walk_at "rd"
      refine ⟨H0, t, ta, st, c, x, rfl, tb6, z8, mxs, by rw [ens]; exact ws_S, fun lh H7 _ s7 lh7 => ?_⟩
      have ow7' := ow6.mono s7
      repeat walk_at "rd"
      refine Rd.lcL (K := K) (a := a.nm) (xs := ws.map V.str) (bs := ws) (fun s v _ => v = .str s) (fun s v _ => v = .str s) (fun h => decide (h ≠ x) && decide (x ∈ od h)) id (fun R k => Rd.var rfl k) (SqL.of ow7'.nm) (fun _ _ _ _ _ h => h) (fun _ _ _ _ _ h => h) (strs_pair _ H7) (by rw [List.length_map]; omega) (fun _ => rfl) ?_ ?_ ?_
      · rintro h v H8 R hm rfl _ s8 k
        have hn : h ∈ ws := by simpa using hm
        have ow8 := ow7'.mono s8
        repeat walk_at "rd"
        rw [ne_str]
        refine Rd.bool (fun c => ?_) (fun c => ?_)
        · rw [c, Bool.true_and] at k
          repeat walk_at "rd"
          refine ⟨a.o, _, rfl, ow8.get (k := "orders") rfl, ?_⟩
          repeat walk_at "rd"
          refine ⟨a.od, _, rfl, get_tab ow8.dO hn, ?_⟩
          refine Rd.inL (SqL.of (ow8.ol h hn)) rfl (flat_strs _) ?_
          have e : (if (false : Bool) = true then !inV (.str x) ((od h).map V.str) else inV (.str x) ((od h).map V.str)) = decide (x ∈ od h) := by rw [inV_str]; rfl
          rw [e]
          exact ⟨_, rfl, k _ (Same.refl _)⟩
        · rw [c, Bool.false_and] at k
          exact k _ (Same.refl _)
      · rintro h v H8 R hm _ rfl _ s8 k
        exact Rd.var rfl (k _ _ (Same.refl _) (Rd.off_any rfl))
      intro Lh yh H8 _ s8 Lh8 ph
      rw [List.map_id] at ph
      have eh : yh = (heirsOf st x).map V.str := by
        rw [Rd.pair_map ph]
        unfold heirsOf
        rw [ens]
        congr 1
        exact List.filter_congr fun h hh => by rw [tl.od h hh]
      subst eh
      have hW : ∀ z ∈ heirsOf st x, W6.W 100 z := fun z hz => ws_W z (by rw [← ens]; exact (List.mem_filter.mp hz).1)
      refine neLs (SqL.of (s8 _ _ lh7)) (SqL.of Lh8) hW ?_
      have s58 := (s6.trans s7).trans s8
      have tb8 := tb5.mono s58
      have ow8 := ow5.mono s58
      have ht8 := s58 _ _ ht5
      clear lh7 Lh8 ph lo6 ow6 tb6 ht6 ow7' s6 s7 s8 hpb
      repeat walk_at "rd"
      refine ⟨Rd.sz (by simp), fun tA htA => ?_⟩
      repeat walk_at "rd"
      have sA := Rd.sNew (o := .lst []) htA
      have A9 : upd H8 tA (.lst []) tA = some (.lst []) := upd_same
      generalize upd H8 tA (.lst []) = H9 at sA A9 ⊢
      refine forLi ?_
      repeat walk_at "rd"
      refine ⟨rfl, fun ml H10 s10 mlf ml10 => ⟨ml, rfl, ⟨_, SqL.of ml10⟩, ?_⟩⟩
      have mA : ml ≠ tA := fun e => by rw [e, A9] at mlf; cases mlf
      have s810 := sA.trans s10
      refine for_list (K := K) (a := ml) (xs := methods.map V.str) (fun j σ H' => ∃ (z4 z6 z7 : Option V) (ys : List V), σ = [some (.ref t), some (.ref a.o), some (.ref a.nm), some (.str x), z4, some (.ref tA), z6, z7, none, none] ∧ Same H8 H' ∧ H' tA = some (.lst ys) ∧ ys.length ≤ j ∧ H' ml = some (.lst (methods.map V.str)) ∧
        Paired (fun b y => EnAt K C_Body b y (hide tA H')) (((methods.take j).filter fun m => (enL es x m).isSome).map fun m => (m, (enL es x m).getD (.w ""))) ys) ⟨_, _, _, [], rfl, s810, s10 _ _ A9, Nat.le_refl _, ml10, by rw [List.take_zero]; exact .nil⟩ (fun j σ H' _ ⟨_, _, _, _, _, _, _, _, h, _⟩ => SqL.of h) ?_ ?_
      · rintro j v σ H11 hv ⟨z4, z6, z7, ys, rfl, s11, A11, yl, ml11, pr⟩
        obtain ⟨me, hme, rfl⟩ : ∃ me, methods[j]? = some me ∧ v = .str me := by
          rw [List.getElem?_map] at hv
          cases e : methods[j]? with
          | none => rw [e] at hv; cases hv
          | some me => rw [e] at hv; exact ⟨me, rfl, (Option.some.inj hv).symm⟩
        have mm := List.mem_of_getElem? hme
        have jm : j < 14 := (List.getElem?_eq_some_iff.mp hme).1
        have nxt : ((methods.take (j + 1)).filter fun m => (enL es x m).isSome) = ((methods.take j).filter fun m => (enL es x m).isSome) ++ (if (enL es x me).isSome = true then [me] else []) := by
          rw [take_next hme, List.filter_append]
          congr 1
          by_cases c : (enL es x me).isSome = true
          · rw [if_pos c]; simp only [List.filter_cons, List.filter_nil]; rw [if_pos c]
          · rw [if_neg c]; simp only [List.filter_cons, List.filter_nil]; rw [if_neg c]
        have hidS : ∀ {G G' : Hp}, Same G G' → Same (hide tA G) (hide tA G') := fun s b u e => by
          by_cases z : b = tA
          · rw [z, hide_at] at e; cases e
          · rw [hide_ne _ z] at e ⊢; exact s _ _ e
        repeat walk_at "rd"
        refine ⟨Rd.sz (by simp), fun kq hkq => ?_⟩
        have s12 := Rd.sNew (o := .tup [.str x, .str me]) hkq
        have kq12 : upd H11 kq (.tup [.str x, .str me]) kq = some (.tup [.str x, .str me]) := upd_same
        generalize upd H11 kq (.tup [.str x, .str me]) = H12 at s12 kq12 ⊢
        repeat walk_at "rd"
        refine ⟨a, m, fl, ws, bs, od, es, kq, x, me, rfl, (ow8.mono s11).mono s12, kq12, fun v H13 s13 hv13 => ?_⟩
        have s813 := (s11.trans s12).trans s13
        repeat walk_at "rd"
        refine ⟨Rd.sz (by simp), fun k2 hk2 => ?_⟩
        have s14 := Rd.sNew (o := .tup [.str x, .str me]) hk2
        have k214 : SqT K (upd H13 k2 (.tup [.str x, .str me])) k2 [.str x, .str me] := .inl (.inl upd_same)
        generalize upd H13 k2 (.tup [.str x, .str me]) = H14 at s14 k214 ⊢
        have s814 := s813.trans s14
        have s1114 := (s12.trans s13).trans s14
        have A14 := s1114 _ _ A11
        have ml14 := s1114 _ _ ml11
        have hv14 := hv13.mono s14
        have pr14 := Rd.pair_imp (fun b y h => EnAt.stays K C_Body b y _ _ (hidS s1114) h) pr
        repeat walk_at "rd"
        have tb14 := tb8.mono s814
        refine ⟨t, dt, _, rfl, s814 _ _ ht8, H0, t, ta, st, c, k2, x, me, rfl, tb14, k214, mxs, mm, fun en => ?_, fun e v' en hv' => ?_⟩
        · rw [tl.en x me] at en
          rw [en] at hv14 nxt
          have hv14 : v = .non := hv14
          subst hv14
          rw [if_neg (by simp), List.append_nil] at nxt
          repeat walk_at "rd"
          refine .inl (Rd.neD (d := .none) (e := .none) .non .non (by decide +kernel) (by decide +kernel) ?_)
          refine ⟨false, by show V.bl _ = V.bl false; decide +kernel, ?_⟩
          rw [if_neg Bool.false_ne_true]
          repeat walk_at "rd"
          refine Rd.ndec (fun c => absurd rfl c) (fun _ => ?_)
          repeat walk_at "rd"
          exact ⟨_, _, _, ys, rfl, s814, A14, Nat.le_succ_of_le yl, ml14, by rw [nxt]; exact pr14⟩
        · rw [tl.en x me] at en
          rw [en] at hv14 nxt
          have hv14 : EntAt K C_Body H14 me e v := hv14
          rw [if_pos (show (some e).isSome = true from rfl)] at nxt
          have nn : v ≠ .non := by
            cases e with
            | w z => obtain ⟨rfl, _⟩ := hv14; simp
            | b nd => obtain ⟨_, _, _, rfl, _⟩ := hv14; simp
          repeat walk_at "rd"
          have ne : ∀ (R : VK), R (.bl false) H14 → orR (rNeD K) (Ob.rEqO K C_Body (spBEq K C_Body) true) v' v H14 R := fun R k => by
            cases e with
            | w z =>
              obtain ⟨rfl, hz⟩ := hv'
              obtain ⟨rfl, _⟩ := hv14
              have sh : ∀ z ∈ entW, SeqAt.shaped (.str z) = true := by decide +kernel
              refine .inl (Rd.neD (d := .str z) (e := .str z) (.str _) (.str _) (sh z hz) (sh z hz) ?_)
              rw [eqv_str, decide_eq_true rfl]
              exact k
            | b nd =>
              obtain ⟨b1, L1, x1, rfl, k1, ok1⟩ := hv'
              obtain ⟨b2, L2, x2, rfl, k2, _⟩ := hv14
              exact .inr (neB K_Body icB k1 ok1 k2 k)
          refine ne _ ⟨false, rfl, ?_⟩
          rw [if_neg Bool.false_ne_true]
          repeat walk_at "rd"
          refine Rd.ndec (fun _ => ?_) (fun c => absurd c nn)
          repeat walk_at "rd"
          refine ⟨Rd.ty_list A14, ?_⟩
          repeat walk_at "rd"
          refine ⟨Rd.sz (by simp), fun p15 hp15 => ?_⟩
          have s15 := Rd.sNew (o := .tup [.str me, v]) hp15
          have p15' : upd H14 p15 (.tup [.str me, v]) p15 = some (.tup [.str me, v]) := upd_same
          have A15 := s15 _ _ A14
          have ml15 := s15 _ _ ml14
          have hv15 := ent_mono s15 hv14
          have pA : p15 ≠ tA := fun e => by rw [e, A14] at hp15; cases hp15
          have pr15 := Rd.pair_imp (fun b y h => EnAt.stays K C_Body b y _ _ (hidS s15) h) pr14
          have s815 := s814.trans s15
          generalize upd H14 p15 (.tup [.str me, v]) = H15 at s15 p15' A15 ml15 hv15 pr15 s815 ⊢
          repeat walk_at "rd"
          refine Rd.app A15 (Rd.szl (by omega)) ?_
          have sF : Same H8 (upd H15 tA (.lst (ys ++ [.ref p15]))) := Rd.sMut s815 htA
          have sh : Same (hide tA H15) (hide tA (upd H15 tA (.lst (ys ++ [.ref p15])))) := fun b u e => by
            by_cases z : b = tA
            · rw [z, hide_at] at e; cases e
            · rw [hide_ne _ z] at e ⊢; rw [upd_ne z]; exact e
          have eA : EnAt K C_Body (me, e) (.ref p15) (hide tA (upd H15 tA (.lst (ys ++ [.ref p15])))) := by
            refine ⟨p15, v, rfl, .inl (.inl (by rw [hide_ne _ pA, upd_ne pA]; exact p15')), ?_⟩
            cases e with
            | w z => exact hv15
            | b nd =>
              obtain ⟨b2, L2, x2, rfl, k2, ok2⟩ := hv15
              refine ⟨b2, L2, x2, rfl, ?_, ok2⟩
              obtain ⟨dx, hb⟩ := k2.ins
              have kp : Keep tA H15 (hide tA (upd H15 tA (.lst (ys ++ [.ref p15])))) := fun b u nb e => by rw [hide_ne _ nb, upd_ne nb]; exact e
              exact ⟨⟨dx, kp _ _ (fun z => by rw [z, A15] at hb; cases hb) hb⟩, dp_keepT kp (nt_lst A15) k2.dp (nd_noList _)⟩
          refine ⟨_, _, _, ys ++ [.ref p15], rfl, sF, upd_same, by rw [List.length_append]; exact Nat.succ_le_succ yl, by rw [upd_ne mA]; exact ml15, ?_⟩
          rw [nxt, List.map_append]
          refine pair_sn (Rd.pair_imp (fun b y h => EnAt.stays K C_Body b y _ _ sh h) pr15) ?_
          show EnAt K C_Body (me, (enL es x me).getD _) _ _
          rw [en]
          exact eA
      · rintro σ H11 ⟨z4, z6, z7, ys, rfl, s11, A11, yl, ml11, pr⟩
        repeat walk_at "rd"
        have tb11 := tb8.mono s11
        have ht11 := s11 _ _ ht8
        rw [List.length_map, show (methods.take methods.length) = methods from List.take_length] at pr
        have ents_eq : entsOf (st.en x) = (methods.filter fun m => (enL es x m).isSome).map fun m => (m, (enL es x m).getD (.w "")) := by
          have : st.en x = enL es x := funext fun m => tl.en x m
          unfold entsOf
          rw [this]
        refine ⟨t, dt, _, rfl, ht11, rfl, ?_⟩
        repeat walk_at "rd"
        refine ⟨H0, t, ta, st, c, x, rfl, tb11, mxs, fun le xs H12 hle s12 le12 prx => ?_⟩
        rw [ents_eq] at prx
        have pry := Rd.pair_imp (fun b y h => EnAt.stays K C_Body b y _ _ ((hide_same tA H11).trans s12) h) pr
        repeat walk_at "rd"
        refine ⟨⟨le, tA, xs, ys, rfl, rfl, le12, s12 _ _ A11, prs_ents prx pry⟩, fun H13 s13 => ⟨false, rfl, ?_⟩⟩
        rw [if_neg Bool.false_ne_true]
        have s1113 := s12.trans s13
        have tb13 := tb11.mono s1113
        have ht13 := s1113 _ _ ht11
        repeat walk_at "rd"
        refine ⟨t, dt, _, rfl, ht13, rfl, ?_⟩
        repeat walk_at "rd"
        refine ⟨H0, t, ta, st, c, x, rfl, tb13, mxs, fun l14 xs14 H14 _ s14 h14 _ => ?_⟩
        repeat walk_at "rd"
        refine isi (.base (.lst h14)) (by show kitB "list" "list" = some true; decide +kernel) ?_
        repeat walk_at "rd"
        have tb14 := tb13.mono s14
        have ht14 := s14 _ _ ht13
        have s814 := (s11.trans s1113).trans s14
        rw [if_neg (by decide)]
        have hol : (st.od x).length ≤ 100 := by
          rw [tl.od x mx]
          obtain ⟨_, _, _, _, h4⟩ := ow7.tk.head mx
          omega
        have hhl : (heirsOf st x).length ≤ 100 := Nat.le_trans (List.length_filter_le _ _) (by omega)
        have hel : (entsOf (st.en x)).length ≤ 100 := by
          unfold entsOf
          rw [List.length_map]
          exact Nat.le_trans (List.length_filter_le _ _) (by decide)
        repeat walk_at "rd"
        refine ⟨t, dt, _, rfl, ht14, rfl, ?_⟩
        repeat walk_at "rd"
        refine ⟨H0, t, ta, st, c, x, rfl, tb14, mxs, fun l15 hl15 => ⟨Rd.ty_list upd_same, ?_⟩⟩
        repeat walk_at "rd"
        refine Rd.app upd_same (Rd.szl (by rw [List.length_map]; omega)) ?_
        have s15 := Rd.sMut (o := .lst ((st.od x).map V.str ++ [.str "more"])) (Rd.sNew (o := .lst ((st.od x).map V.str)) hl15) hl15
        generalize upd (upd H14 l15 (.lst ((st.od x).map V.str))) l15 (.lst ((st.od x).map V.str ++ [.str "more"])) = H15 at s15 ⊢
        have tb15 := tb14.mono s15
        have ht15 := s15 _ _ ht14
        repeat walk_at "rd"
        refine ⟨t, dt, _, rfl, ht15, rfl, ?_⟩
        repeat walk_at "rd"
        refine ⟨H0, t, ta, st, c, x, rfl, tb15, z8, mxs, by rw [ens]; exact ws_S, fun l16 H16 hl16 s16 h16 => ⟨Rd.ty_list h16, ?_⟩⟩
        repeat walk_at "rd"
        refine Rd.app h16 (Rd.szl (by rw [List.length_map]; omega)) ?_
        have s17 := Rd.sMut (o := .lst ((heirsOf st x).map V.str ++ [.str "more"])) s16 hl16
        generalize upd H16 l16 (.lst ((heirsOf st x).map V.str ++ [.str "more"])) = H17 at s17 ⊢
        have tb17 := tb15.mono s17
        have ht17 := s17 _ _ ht15
        repeat walk_at "rd"
        refine ⟨t, dt, _, rfl, ht17, rfl, ?_⟩
        repeat walk_at "rd"
        refine ⟨H0, t, ta, st, c, x, rfl, tb17, mxs, fun l18 xs18 H18 hl18 s18 h18 pr18 => ⟨Rd.ty_list h18, ?_⟩⟩
        have xl := Rd.pair_len pr18
        repeat walk_at "rd"
        refine Rd.app h18 (Rd.szl (by omega)) ?_
        exact ⟨_, _, _, _, _, rfl, s5.trans (((s58.trans s814).trans (s15.trans s17)).trans (Rd.sMut s18 hl18))⟩
    · rintro σ H5 ⟨z3, z4, z5, z6, z7, rfl, s5⟩
      repeat walk_at "rd"
      obtain ⟨x0, hx0⟩ : ∃ x0, ws[0]? = some x0 := ⟨ws[0], List.getElem?_eq_getElem (by omega)⟩
      have g0 := ow7.gw 0 x0 hx0
      have at0 : atI (ws.map V.str) 0 = some (.str x0) := Rd.atN (by decide) (by show (ws.map V.str)[0]? = _; rw [List.getElem?_map, hx0]; rfl)
      have nm5 := s5 _ _ ow.nm
      refine Rd.ixL (SqL.of nm5) at0 ?_
      repeat walk_at "rd"
      refine ⟨Rd.sz (by simp), fun pT hpT => ?_⟩
      have s6 := Rd.sNew (o := .tup [.str x0]) hpT
      have pT6 : upd H5 pT (.tup [.str x0]) pT = some (.tup [.str x0]) := upd_same
      generalize upd H5 pT (.tup [.str x0]) = H6 at s6 pT6 ⊢
      repeat walk_at "rd"
      refine Rd.ixL (SqL.of (s6 _ _ nm5)) at0 ?_
      repeat walk_at "rd"
      refine Rd.adds (by have := g0.len; show x0.length + 1 ≤ 100000; omega) ?_
      repeat walk_at "rd"
      refine ⟨Rd.sz (by simp), fun pO hpO => ?_⟩
      have s7 := Rd.sNew (o := .lst [.non, .str "", .ref a.nm, .int 5, .str "never", .ref pT, .str (x0 ++ "q")]) hpO
      have pO7 : upd H6 pO (.lst [.non, .str "", .ref a.nm, .int 5, .str "never", .ref pT, .str (x0 ++ "q")]) pO = some (.lst [.non, .str "", .ref a.nm, .int 5, .str "never", .ref pT, .str (x0 ++ "q")]) := upd_same
      have nm7 := s7 _ _ (s6 _ _ nm5)
      have pT7 := s7 _ _ pT6
      have s07 := (s5.trans s6).trans s7
      have e7 : ([.non, .str "", .ref a.nm, .int 5, .str "never", .ref pT, .str (x0 ++ "q")] : List V).length = 7 := rfl
      generalize upd H6 pO (.lst [.non, .str "", .ref a.nm, .int 5, .str "never", .ref pT, .str (x0 ++ "q")]) = H7 at s7 pO7 nm7 pT7 s07 ⊢
      have out : ∀ z : Str, ((TL.tl z).filter (fun c => decide (100 ≤ c))).length ≠ 1 → isIn (.str z) ws = false := fun z hz => decide_eq_false fun m => by
        obtain ⟨i, hi⟩ := List.mem_iff_getElem?.mp m
        rw [(ow7.gw i z hi).mark] at hz
        exact hz rfl
      have oq : ((TL.tl (x0 ++ "q")).filter (fun c => decide (100 ≤ c))).length ≠ 1 := by
        rw [W6.tl_app, List.filter_append, g0.mark]
        decide +kernel
      repeat walk_at "rd"
      refine Rd.lcL (K := K) (a := pO) (xs := [.non, .str "", .ref a.nm, .int 5, .str "never", .ref pT, .str (x0 ++ "q")]) (bs := [.non, .str "", .ref a.nm, .int 5, .str "never", .ref pT, .str (x0 ++ "q")]) (fun b y G => y = b ∧ (∃ tn, Kd K G b tn) ∧ isIn b ws = false) (fun (b : V) y _ => y = b) (fun _ => false) id (fun R k => Rd.var rfl k) (SqL.of pO7)
        (fun b y G G' s h => ⟨h.1, h.2.1.imp fun tn k => k.mono s, h.2.2⟩) (fun _ _ _ _ _ h => h) ?_ (by rw [e7]; omega) (fun _ => rfl) ?_ ?_ ?_
      · exact .cons ⟨rfl, ⟨_, kd_non⟩, rfl⟩ (.cons ⟨rfl, ⟨_, kd_str _⟩, out _ (by decide +kernel)⟩ (.cons ⟨rfl, ⟨_, kd_lst (SqL.of nm7)⟩, rfl⟩ (.cons ⟨rfl, ⟨_, kd_int _⟩, rfl⟩ (.cons ⟨rfl, ⟨_, kd_str _⟩, out _ (by decide +kernel)⟩ (.cons ⟨rfl, ⟨_, kd_tup (.inl (.inl pT7))⟩, rfl⟩ (.cons ⟨rfl, ⟨_, kd_str _⟩, out _ oq⟩ .nil))))))
      · rintro b y H8 R _ _ ⟨rfl, ⟨tn, kd⟩, no⟩ s8 k
        have s08 := s07.trans s8
        repeat walk_at "rd"
        refine ⟨t, dt, _, rfl, s08 _ _ ht, H0, t, ta, st, c, y, tn, rfl, tb.mono s08, kd, _, rfl, ?_⟩
        rw [ens, no]
        exact ⟨_, rfl, k _ (Same.refl _)⟩
      · rintro b y H8 R _ hf _ _ _ _
        cases hf
      · intro Dz ys H8 _ s8 hD pr
        have ez : ys = [] := by
          rw [List.filter_eq_nil_iff.mpr (fun _ _ => by simp)] at pr
          cases pr
          rfl
        subst ez
        repeat walk_at "rd"
        refine ⟨Rd.sz (by simp), fun z9 hz9 => ?_⟩
        have s9 := Rd.sNew (o := .lst []) hz9
        refine Rd.eqD (d := Dt.dS []) (e := Dt.dS []) (Dt.dp_S (r := []) (SqL.of (s9 _ _ hD))) (Dt.dp_S (r := []) (SqL.of upd_same)) (Dt.shaped_dS (by simp)) (Dt.shaped_dS (by simp)) ?_
        rw [Dt.eqv_dS, decide_eq_true rfl]
        exact q _ ((s07.trans s8).trans s9)
end
end Ab
namespace Ab
open M6 PySem.Spec PyProof.Rows
local macro_rules | `(tactic| walk_at "rd") => `(tactic| (with_reducible first | refine Rd.tt_ ?_ | refine Rd.ff_ ?_ | refine Rd.dget ?_ | refine Rd.methR ?_ | refine Rd.getR ?_))
/-- one more class, as the law adds it -/
theorem addR {K : PySem.W.Frag} {CT CB CK : Addr} {H0 G : Hp} {t : Addr} {ta : TA} {st : Tt} {c : Nat} {x : Str} {l r : List Str} {Q : VK} {E : XK} (tb : TbAt K CT CB CK H0 G t ta st c) (s : Same H0 G) (tk : TOk st.ns st.bs st.od) (en : st.en = fun _ _ => none) (wo : wordOk x = true) (nx : x ∉ st.ns) (l8 : st.ns.length < 8) (hl : ∀ b ∈ l, b ∈ st.ns) (fw : l.length ≤ 90)
    (hm : mrg (l.map st.od ++ [l]) = some r) (k : ∀ ta' G', Same H0 G' → TbAt K CT CB CK H0 G' t ta' (st.add x l (x :: r)) c → TOk (st.add x l (x :: r)).ns (st.add x l (x :: r)).bs (st.add x l (x :: r)).od → (st.add x l (x :: r)).en = (fun _ _ => none) → Q .non G') : Sm.spStar 2 (spAdd K CT CB CK) ([.ref t, .str x] ++ l.map V.str) G Q E := by
  obtain ⟨tk4, rk, dag, rx, eo⟩ := tk.step nx l8 hl fw hm
  refine ⟨_, _, rfl, rfl, Nat.le_of_lt (Rd.szl (by rw [List.length_map]; omega)), fun p hp => ?_⟩
  have sp := Rd.sNew (o := .tup (l.map V.str)) hp
  refine ⟨H0, t, ta, st, c, x, p, l, x :: r, rk, rfl, tb.mono sp, s.trans sp, .inl (.inl upd_same), wo, nx, l8, hl, dag, rx, eo, fun n _ => by rw [en], fun ta' H4 s4 tb4 => k ta' H4 s4 tb4 tk4 ?_⟩
  show fset st.en x (fun _ => none) = _
  rw [en]
  funext y z
  unfold fset
  split <;> rfl
def fourW : List Str := ["a", "b", "c", "d"]
theorem four_W : ∀ z ∈ fourW, W6.W 100 z := by
  have h : ∀ z ∈ fourW, z.length ≤ 100 ∧ (TL.tl z).all (fun c => decide (c < 1000)) = true := by decide +kernel
  exact fun z hz => ⟨(h z hz).1, fun c hc => of_decide_eq_true (List.all_eq_true.mp (h z hz).2 c hc)⟩
section
variable {P : Program} {w : World} {K : PySem.W.Frag} {mg : Str → Option Value} {base : Heap}
def spLaw (K : PySem.W.Frag) : Sp := fun vs H Q _ => ∃ (a : Addr) (ns : List Int), vs = [.ref a] ∧ SqL K H a (ns.map V.int) ∧ ns.length ≤ 63 ∧ ∀ H', Q (.bl true) H'
abbrev sLaw : Stmt := top 86
abbrev nLaw : List Str := ["_law_script", "_law_table_here", "_law_k", "_law_pool_here", "_law_own_here", "_law_made"]
theorem scLaw : FnScope nLaw ["_law_script"] (defScope sLaw) := ⟨rfl, rfl, rfl, by decide +kernel, rfl, by decide +kernel, by decide +kernel⟩
set_option pp.maxSteps 400 in
theorem ok_law (T : Txt K mg) {C_Table C_Body C_Book pO pM pF : Addr} {gM : Str → Addr} (K_Table : TF K mg C_Table) (K_Book : BF K mg C_Book) (tt : Tb K w mg pO pM pF gM) (I_Book : Ob.MkCal P w K mg base CX0 C_Book 1 "Book" (spBkInit C_Book gM)) (I_Table : Ob.MkCal P w K mg base CX0 C_Table 4 "Table" (spTInit K C_Table C_Body C_Book))
    (M_Table_add : Sm.MCalS P w K mg base CX0 C_Table 13 "add" (Sm.spStar 2 (spAdd K C_Table C_Body C_Book))) (M_Table_bases : Ob.MCal P w K mg base CX0 C_Table 3 "bases" (spTBases K C_Table C_Body C_Book))
    (M_Table_order : Ob.MCal P w K mg base CX0 C_Table 3 "order" (spTOrder K C_Table C_Body C_Book)) (M_Table_heirs : Ob.MCal P w K mg base CX0 C_Table 3 "heirs" (spTHeirs K C_Table C_Body C_Book))
    (CL_pool : CalG P w K mg base 1 "_law_pool" (spPool K)) (CL_take : CalG P w K mg base 1 "_law_take" spTake) (CL_own : CalG P w K mg base 8 "_law_own" (spOwn K)) (CL_table : CalG P w K mg base 14 "_law_table" (spTable K C_Table C_Body C_Book)) (CL_right : CalG P w K mg base 14 "_law_right" (spRight K C_Table C_Body C_Book))
    {f : Addr} {fd : FuncData} (F : Fun K "law" "law" sLaw f fd) : FnG P w K mg base CX0 15 f fd ["_law_script"] (spLaw K) := by
  refine defG0 F scLaw (fun vs H Q E h => ?_) (fun cd A hg outer s H vs Q E hr h => ?_)
  · obtain ⟨_, _, rfl, _⟩ := h
    rfl
  · obtain ⟨a, ns, rfl, hS, h63, q⟩ := h
    refine ⟨_, (pss_cons (ps_set (i := 1) scLaw.nd rfl (Or.inl rfl) (Ob.make I_Table hg hr (by decide) pass0 (pa_cons (Ob.make0 I_Book hg hr (by decide) pass0) pa_nil)))
  (pss_cons (ps_expr (Sm.methS (pv 1) K_Table.cl M_Table_add hg hr (by decide) pass0 (pa_cons pe_str pa_nil)))
  (pss_cons (ps_expr (Sm.methS (pv 1) K_Table.cl M_Table_add hg hr (by decide) pass0 (pa_cons pe_str (pa_cons pe_str pa_nil))))
  (pss_cons (ps_expr (Sm.methS (pv 1) K_Table.cl M_Table_add hg hr (by decide) pass0 (pa_cons pe_str (pa_cons pe_str pa_nil))))
  (pss_cons (ps_expr (Sm.methS (pv 1) K_Table.cl M_Table_add hg hr (by decide) pass0 (pa_cons pe_str (pa_cons pe_str (pa_cons pe_str pa_nil)))))
  (pss_cons (ps_if (PW.pt (pw_or (pt_cmpR (r := rNeD K) (op_neD hr.units) (Ob.meth (pv 1) K_Table.cl M_Table_order hg hr (by decide) pass0 (pa_cons pe_str pa_nil)) (pe_lst (pa_cons pe_str (pa_cons pe_str (pa_cons pe_str (pa_cons pe_str pa_nil))))) (nomark _)) (pw_or1 (pt_cmpR (r := rNeD K) (op_neD hr.units) (Ob.meth (pv 1) K_Table.cl M_Table_heirs hg hr (by decide) pass0 (pa_cons pe_str pa_nil)) (pe_lst (pa_cons pe_str (pa_cons pe_str (pa_cons pe_str pa_nil)))) (nomark _)))))
  (pss_one (ps_ret pe_bl))
  pss_nil)
  (pss_cons (ps_if (pt_cmpR (r := rNeD K) (op_neD hr.units) (Ob.meth (pv 1) K_Table.cl M_Table_bases hg hr (by decide) pass0 (pa_cons pe_str pa_nil)) (pe_tup (pa_cons pe_str (pa_cons pe_str pa_nil))) (nomark _))
  (pss_one (ps_ret pe_bl))
  pss_nil)
  (pss_cons (ps_for PassesOwn.never rfl (pi_range1 (by rfl) T.range (pa_cons (pe_callB (call_max2 rfl) (by rfl) T.max (by decide +kernel) (pa_cons pe_int (pa_cons (pe_callB (call_min2 rfl) (by rfl) T.min (by decide +kernel) (pa_cons pe_int (pa_cons (pe_callB (r := Rd.rLenK K) Rd.callLen (by rfl) T.len PySem.boot_len (pa_cons (pv 0) pa_nil)) pa_nil))) pa_nil))) pa_nil)) (pg_name (i := 2) scLaw.nd rfl (Or.inl rfl))
  (pss_cons (ps_set (i := 3) scLaw.nd rfl (Or.inl rfl) (pe_cG CL_pool hg hr (by decide) (pa_cons (pv 0) (pa_cons (pv 2) pa_nil))))
  (pss_cons (ps_set (i := 4) scLaw.nd rfl (Or.inl rfl) (pe_cG CL_own hg hr (by decide) (pa_cons (pv 3) (pa_cons (pe_op op_add pe_int (pe_cG CL_take hg hr (by decide) (pa_cons (pv 3) (pa_cons pe_int pa_nil)))) pa_nil))))
  (pss_cons (ps_set (i := 5) scLaw.nd rfl (Or.inl rfl) (pe_cG CL_table hg hr (by decide) (pa_cons (pv 4) pa_nil)))
  (pss_one (ps_if (PW.pt (pw_or (pt_not (pt_val (pe_cG CL_right hg hr (by decide) (pa_cons (pv 5) (pa_cons (pv 4) pa_nil))))) (pw_or1 (pt_not (pt_val (pe_cG CL_right hg hr (by decide) (pa_cons (pv 5) (pa_cons (pv 4) pa_nil))))))))
  (pss_one (ps_ret pe_bl))
  pss_nil))))))
  (pss_one (ps_ret pe_bl)))))))))), ?_⟩
    repeat walk_at "rd"
    refine Rd.makeR ?_
    repeat walk_at "rd"
    refine mkBk (fun o ho => (tt.tm o ho).2) fun b w' f' H1 s1 nb nw nf bk => ?_
    repeat walk_at "rd"
    refine fun t dx ht hdx nd => ⟨t, dx, b, w', f', gM, menu, fun _ => true, rfl, upd_same, ?_, fun ta H2 s2 tb => ⟨rfl, ?_⟩⟩
    · refine bk.mono fun z u e => ?_
      rw [upd_ne (ne_of_none e ht), upd_ne (ne_of_none e hdx)]
      exact e
    have sH : Same H (hide t (upd (upd H1 dx (.own t)) t (.ins C_Table dx []))) := fun z u e => by
      have e1 := s1 _ _ e
      rw [hide_ne _ (ne_of_none e1 ht), upd_ne (ne_of_none e1 ht), upd_ne (ne_of_none e1 hdx)]
      exact e1
    have tb2 := tb.lower sH
    have s02 := sH.trans s2
    clear tb sH s2 s1 bk ht hdx nb nw nf
    obtain ⟨dt, ht2⟩ := tb2.ins
    repeat walk_at "rd"
    refine ⟨t, dt, _, rfl, ht2, rfl, ?_⟩
    repeat walk_at "rd"
    refine addR (x := "a") (l := []) (r := []) tb2 s02 TOk.nil rfl (by decide +kernel) (by decide +kernel) (by decide) (by simp) (by decide) (by rfl) fun ta3 H3 s3 tb3 tk3 en3 => ?_
    clear tb2 s02 ht2
    obtain ⟨dt3, ht3⟩ := tb3.ins
    repeat walk_at "rd"
    refine ⟨t, dt3, _, rfl, ht3, rfl, ?_⟩
    repeat walk_at "rd"
    refine addR (x := "b") (l := ["a"]) (r := ["a"]) tb3 s3 tk3 en3 (by decide +kernel) (by decide +kernel) (by decide +kernel) (by decide +kernel) (by decide) (by decide +kernel) fun ta4 H4 s4 tb4 tk4 en4 => ?_
    clear tb3 s3 ht3 tk3 en3
    obtain ⟨dt4, ht4⟩ := tb4.ins
    repeat walk_at "rd"
    refine ⟨t, dt4, _, rfl, ht4, rfl, ?_⟩
    repeat walk_at "rd"
    refine addR (x := "c") (l := ["a"]) (r := ["a"]) tb4 s4 tk4 en4 (by decide +kernel) (by decide +kernel) (by decide +kernel) (by decide +kernel) (by decide) (by decide +kernel) fun ta5 H5 s5 tb5 tk5 en5 => ?_
    clear tb4 s4 ht4 tk4 en4
    obtain ⟨dt5, ht5⟩ := tb5.ins
    repeat walk_at "rd"
    refine ⟨t, dt5, _, rfl, ht5, rfl, ?_⟩
    repeat walk_at "rd"
    refine addR (x := "d") (l := ["b", "c"]) (r := ["b", "c", "a"]) tb5 s5 tk5 en5 (by decide +kernel) (by decide +kernel) (by decide +kernel) (by decide +kernel) (by decide) (by decide +kernel) fun ta6 H6 s6 tb6 tk6 en6 => ?_
    clear tb5 s5 ht5 tk5 en5
    obtain ⟨dt6, ht6⟩ := tb6.ins
    repeat walk_at "rd"
    generalize hst : Tt.add _ _ _ _ = st at tb6
    have eo : st.od "d" = (["d", "b", "c", "a"] : List Str) := by rw [← hst]; decide +kernel
    have eh : heirsOf st "a" = (["b", "c", "d"] : List Str) := by rw [← hst]; decide +kernel
    have eb : st.bs "d" = (["b", "c"] : List Str) := by rw [← hst]; decide +kernel
    have en : st.ns = fourW := by rw [← hst]; decide +kernel
    have md : ("d" : Str) ∈ st.ns := by rw [en]; decide +kernel
    have ma : ("a" : Str) ∈ st.ns := by rw [en]; decide +kernel
    have sh : ∀ n ∈ st.ns, SeqAt.shaped (.str n) = true := by rw [en]; decide +kernel
    clear hst tk6 en6
    refine ⟨t, dt6, _, rfl, ht6, rfl, ?_⟩
    repeat walk_at "rd"
    refine ⟨H, t, ta6, st, 0, "d", rfl, tb6, md, fun l1 hl1 => ?_⟩
    rw [eo]
    have s7 := Rd.sNew (o := .lst ((["d", "b", "c", "a"] : List Str).map V.str)) hl1
    have l7 : upd H6 l1 (.lst ((["d", "b", "c", "a"] : List Str).map V.str)) l1 = some (.lst ((["d", "b", "c", "a"] : List Str).map V.str)) := upd_same
    generalize upd H6 l1 (.lst ((["d", "b", "c", "a"] : List Str).map V.str)) = H7 at s7 l7 ⊢
    have sub : ∀ (r : List Str), (∀ z ∈ r, z ∈ fourW) → ∀ z ∈ r, W6.W 100 z := fun r h z hz => four_W z (h z hz)
    repeat walk_at "rd"
    refine ⟨Rd.sz (by simp), fun l2 hl2 => ?_⟩
    have s8 := s7.trans (Rd.sNew (o := .lst [.str "d", .str "b", .str "c", .str "a"]) hl2)
    refine neLs (r := ["d", "b", "c", "a"]) (SqL.of (Rd.sNew hl2 _ _ l7)) (SqL.of upd_same) (sub _ (by decide +kernel)) ?_
    have tb8 := tb6.mono s8
    have ht8 := s8 _ _ ht6
    have s08 := s6.trans s8
    generalize upd H7 l2 (.lst [.str "d", .str "b", .str "c", .str "a"]) = H8 at tb8 ht8 s08 ⊢
    clear s7 l7 s8 tb6 ht6 s6
    repeat walk_at "rd"
    refine ⟨t, dt6, _, rfl, ht8, rfl, ?_⟩
    repeat walk_at "rd"
    refine ⟨H, t, ta6, st, 0, "a", rfl, tb8, by rw [en]; decide, ma, sh, fun l3 H9 _ s9 l9 => ?_⟩
    rw [eh] at l9
    repeat walk_at "rd"
    refine ⟨Rd.sz (by simp), fun l4 hl4 => ?_⟩
    have s10 := s9.trans (Rd.sNew (o := .lst [.str "b", .str "c", .str "d"]) hl4)
    refine neLs (r := ["b", "c", "d"]) (SqL.of (Rd.sNew hl4 _ _ l9)) (SqL.of upd_same) (sub _ (by decide +kernel)) ?_
    have tb10 := tb8.mono s10
    have ht10 := s10 _ _ ht8
    have s010 := s08.trans s10
    generalize upd H9 l4 (.lst [.str "b", .str "c", .str "d"]) = H10 at tb10 ht10 s010 ⊢
    clear s9 l9 s10 tb8 ht8 s08
    repeat walk_at "rd"
    refine ⟨t, dt6, _, rfl, ht10, rfl, ?_⟩
    repeat walk_at "rd"
    refine ⟨H, t, ta6, st, 0, "d", rfl, tb10, md, fun pb hpb => ?_⟩
    rw [eb] at hpb
    repeat walk_at "rd"
    refine ⟨Rd.sz (by simp), fun l5 hl5 => ?_⟩
    have s11 := Rd.sNew (o := .tup [.str "b", .str "c"]) hl5
    refine neTs (r := ["b", "c"]) (sqT_same s11 hpb) (.inl (.inl upd_same)) (sub _ (by decide +kernel)) ?_
    have s011 := s010.trans s11
    generalize upd H10 l5 (.tup [.str "b", .str "c"]) = H11 at s011 ⊢
    clear s11 hpb tb10 ht10 s010
    have hS11 := s011.seq hS
    repeat walk_at "rd"
    refine Rd.rng (by (repeat' split) <;> omega) (by (repeat' split) <;> omega) ?_
    refine Rd.forGo (fun i σ Hc => (∃ (z1 z2 z3 z4 z5 : Option V), σ = [some (.ref a), z1, z2, z3, z4, z5]) ∧ Same H11 Hc) ⟨⟨_, _, _, _, _, rfl⟩, Same.refl _⟩ ?_ ?_
    · rintro i σ Hc hi ⟨⟨z1, z2, z3, z4, z5, rfl⟩, sc⟩
      have i9 : i < 100 := by
        rw [List.length_map] at hi
        revert hi
        (repeat' split) <;> intro hi <;> omega
      repeat walk_at "rd"
      refine ⟨a, ns, (i : Int), rfl, sc.seq hS11, by omega, by omega, fun p x y hp ok => ?_⟩
      have s12 := sc.trans (Rd.sNew (o := .lst [.int x, .int y]) hp)
      have hp12 : upd Hc p (.lst [.int x, .int y]) p = some (.lst [.int x, .int y]) := upd_same
      have np : H11 p = none := Same.free sc hp
      generalize upd Hc p (.lst [.int x, .int y]) = H12 at s12 hp12 ⊢
      repeat walk_at "rd"
      refine ⟨p, x, y, 6, rfl, hp12, ok, by decide, by decide, fun r x2 y2 ok2 r0 r1 => ?_⟩
      have k13 : Keep p H12 (upd H12 p (.lst [.int x2, .int y2])) := Keep.put fun _ _ _ e => e
      have hp13 : upd H12 p (.lst [.int x2, .int y2]) p = some (.lst [.int x2, .int y2]) := upd_same
      generalize upd H12 p (.lst [.int x2, .int y2]) = H13 at k13 hp13 ⊢
      repeat walk_at "rd"
      refine ⟨p, x2, y2, (1 + r).toNat, by rw [Int.toNat_of_nonneg (by omega)]; rfl, by omega, hp13, ok2, fun oa m fl ws bs od es H14 x4 y4 k14 hp14 ok4 wl ow => ?_⟩
      have s14 : Same H11 H14 := fun b u e => by
        have nb : b ≠ p := fun c => by rw [c, np] at e; cases e
        exact k14 _ _ nb (k13 _ _ nb (s12 _ _ e))
      have w1 : 1 ≤ ws.length := by omega
      have w8 : ws.length ≤ 8 := by omega
      repeat walk_at "rd"
      refine ⟨oa, m, fl, ws, bs, od, es, rfl, w8, ow, fun t5 ta5 st5 c5 H15 s15 tb15 tl => ?_⟩
      have owm : ∀ {G : Hp}, Same H14 G → OwnD K G oa m fl ws bs od es := fun s => ⟨ow.ow.mono s, ow.pm, ow.gw, ow.tk, ow.st, ow.eo⟩
      repeat walk_at "rd"
      refine ⟨H14, t5, ta5, st5, c5, oa, m, fl, ws, bs, od, es, rfl, tb15, owm s15, tl, w1, w8, fun H16 s16 => ?_⟩
      refine ⟨true, rfl, ?_⟩
      rw [if_neg (by decide)]
      repeat walk_at "rd"
      refine ⟨H14, t5, ta5, st5, c5, oa, m, fl, ws, bs, od, es, rfl, tb15.mono s16, owm (s15.trans s16), tl, w1, w8, fun H17 s17 => ?_⟩
      refine ⟨true, rfl, ?_⟩
      rw [if_neg (by decide)]
      repeat walk_at "rd"
      exact ⟨⟨_, _, _, _, _, rfl⟩, ((s14.trans s15).trans s16).trans s17⟩
    · rintro σ Hc ⟨_, _⟩
      repeat walk_at "rd"
      exact q _
end
end Ab
namespace Ab
open PySem.Spec PyProof.Rows
abbrev sL_merge : Stmt := Lm.sL_merge
abbrev sInit_NoName : Stmt := meth 3 0
theorem scInit_NoName : FnScope ["self", "value"] ["self", "value"] (defScope sInit_NoName) := ⟨rfl, rfl, rfl, by decide +kernel, rfl, by decide +kernel, by decide +kernel⟩
abbrev sInit_NoWays : Stmt := meth 4 0
theorem scInit_NoWays : FnScope ["self", "operation"] ["self", "operation"] (defScope sInit_NoWays) := ⟨rfl, rfl, rfl, by decide +kernel, rfl, by decide +kernel, by decide +kernel⟩
abbrev sInit_NoFlag : Stmt := meth 5 0
theorem scInit_NoFlag : FnScope ["self", "value"] ["self", "value"] (defScope sInit_NoFlag) := ⟨rfl, rfl, rfl, by decide +kernel, rfl, by decide +kernel, by decide +kernel⟩
abbrev sInit_NoBody : Stmt := meth 7 0
theorem scInit_NoBody : FnScope ["self", "place"] ["self", "place"] (defScope sInit_NoBody) := ⟨rfl, rfl, rfl, by decide +kernel, rfl, by decide +kernel, by decide +kernel⟩
/-- a tuple that the top has written -/
theorem sqT_of {K : PySem.W.Frag} {p : Addr} {d : Option Addr} {its : Array Value} {m : Nat} {sl : Array (Option Value)} {xs : List V} (l : K.lookup p = some ⟨.type "tuple", d, .seq its m, sl⟩) (z : its.size ≤ sizeLine) (v : Vals xs its.toList) : ∀ H, SqT K H p xs :=
  fun _ => .inr ⟨_, its, m, l, rfl, rfl, z, v⟩
theorem kl_nil {P : Params} : PySem.W.KeysLit P [] := by unfold PySem.W.KeysLit; trivial
theorem kl_cons {P : Params} {x : Str} {t : Tok} {v : Value} {l : List DictEntry} (r : PySem.W.KeysLit P l) : PySem.W.KeysLit P (⟨PyData.keyHash P x, .str x t, v⟩ :: l) := by unfold PySem.W.KeysLit; exact ⟨⟨x, t, rfl, rfl⟩, r⟩
theorem kdct_of {K : PySem.W.Frag} {w : World} {p : Addr} {es : Array DictEntry} {m : Nat} (l : K.lookup p = some ⟨.type "dict", none, .dict es m, #[]⟩) (kl : PySem.W.KeysLit w.params es.toList) {x : Str} {u : Value} {v : V} (hn : PySem.W.nsIn K p x = some (some u)) (r : RelV v u) : KDct K w p x v :=
  ⟨es, m, u, l, kl, hn, r⟩
theorem kitCls_ref {K : PySem.W.Frag} {u : Value} {D : Addr} {b : Bool} (h2 : PySem.W.isClsIn K D = true) (h3 : PySem.W.typeIn K (.ref D) = some (.type "type")) (h4 : PySem.W.subIn K u (.ref D) = some b) : PySem.W.kitCls K u (.ref D) = some b := by
  have h2' : (PySem.W.clsIn K D).isSome = true := h2
  show (if ((PySem.W.clsIn K D).isSome && PySem.W.typeIn K (.ref D) == some (.type "type")) = true then PySem.W.subIn K u (.ref D) else none) = some b
  rw [h2', h3, if_pos (by rfl)]
  exact h4
theorem exm_own {K : PySem.W.Frag} {C : Addr} (h1 : PySem.W.subIn K (.ref C) (.type "BaseException") = some true) (h2 : PySem.W.isClsIn K C = true) (h3 : PySem.W.typeIn K (.ref C) = some (.type "type")) (h4 : PySem.W.subIn K (.ref C) (.ref C) = some true) : PySem.W.exmOne K (.ref C) (.ref C) = some true := by
  show (if (PySem.W.subIn K (.ref C) (.type "BaseException") == some true) = true then PySem.W.kitCls K (.ref C) (.ref C) else none) = some true
  rw [h1, if_pos (by rfl)]
  exact kitCls_ref h2 h3 h4
theorem kit_err {K : PySem.W.Frag} {C D : Addr} (h2 : PySem.W.isClsIn K D = true) (h3 : PySem.W.typeIn K (.ref D) = some (.type "type")) (h4 : PySem.W.subIn K (.ref C) (.ref D) = some true) : PySem.W.kitOne K (.ref C) (.ref D) = some true := by
  show (if (Value.ref C == Value.ref D) = true then some true else PySem.W.kitCls K (.ref C) (.ref D)) = some true
  split
  · rfl
  · exact kitCls_ref h2 h3 h4
theorem kit_value {K : PySem.W.Frag} {C : Addr} (h4 : PySem.W.subIn K (.ref C) (.type "ValueError") = some true) : PySem.W.kitOne K (.ref C) (.type "ValueError") = some true := by
  have e : (Value.ref C == Value.type "ValueError") = false := rfl
  show (if (Value.ref C == Value.type "ValueError") = true then some true else (if PySem.W.kitMeta "ValueError" = true then PySem.W.subIn K (.ref C) (.type "ValueError") else none)) = some true
  rw [e, if_neg Bool.false_ne_true, if_pos (by decide +kernel)]
  exact h4
theorem exm_not {K : PySem.W.Frag} {C D : Addr} (h1 : PySem.W.subIn K (.ref D) (.type "BaseException") = some true) (h2 : PySem.W.isClsIn K D = true) (h3 : PySem.W.typeIn K (.ref D) = some (.type "type")) (h4 : PySem.W.subIn K (.ref C) (.ref D) = some false) : PySem.W.exmOne K (.ref C) (.ref D) = some false := by
  show (if (PySem.W.subIn K (.ref D) (.type "BaseException") == some true) = true then PySem.W.kitCls K (.ref C) (.ref D) else none) = some false
  rw [h1, if_pos (by rfl)]
  exact kitCls_ref h2 h3 h4
theorem kit_not {K : PySem.W.Frag} {C D : Addr} (h2 : PySem.W.isClsIn K D = true) (h3 : PySem.W.typeIn K (.ref D) = some (.type "type")) (h4 : PySem.W.subIn K (.ref C) (.ref D) = some false) (h5 : PySem.W.subIn K (.ref D) (.ref D) = some true) : PySem.W.kitOne K (.ref C) (.ref D) = some false := by
  show (if (Value.ref C == Value.ref D) = true then some true else PySem.W.kitCls K (.ref C) (.ref D)) = some false
  by_cases e : C = D
  · subst e
    rw [h4] at h5
    cases h5
  · rw [if_neg (fun z => e (by simpa using z))]
    exact kitCls_ref h2 h3 h4
def keyTxt (e : DictEntry) : Option Str := match e.key with
  | .str x _ => some x
  | _ => none
theorem find_keys {z : Str} : ∀ {l : List DictEntry} {ks : List Str}, l.map keyTxt = ks.map some → (z ∉ ks → l.find? (·.key.isStr z) = none) ∧ (z ∈ ks → ∃ e, l.find? (·.key.isStr z) = some e) ∧ l.any (·.refKey) = false
  | [], [], _ => ⟨fun _ => rfl, (fun h => by cases h), rfl⟩
  | [], _ :: _, h => by cases h
  | _ :: _, [], h => by cases h
  | d :: l, k :: ks, h => by
    have h1 := (List.cons.inj h).1
    obtain ⟨a, b, c⟩ := find_keys (z := z) (List.cons.inj h).2
    obtain ⟨key, x, v⟩ : ∃ (x : Str) (t : Tok), d.key = .str x t := by
      unfold keyTxt at h1
      split at h1
      · exact ⟨_, _, by assumption⟩
      · cases h1
    have ek : key = k := by
      rw [keyTxt, v] at h1
      exact Option.some.inj h1
    subst ek
    have es : d.key.isStr z = (key == z) := by rw [v]; rfl
    have er : d.refKey = false := by unfold DictEntry.refKey; rw [v]
    refine ⟨fun hz => ?_, fun hz => ?_, ?_⟩
    · rw [List.find?_cons_of_neg (by rw [es]; simp; intro e; exact hz (e ▸ List.mem_cons_self))]
      exact a fun m => hz (List.mem_cons_of_mem _ m)
    · by_cases e : key = z
      · exact ⟨d, List.find?_cons_of_pos (by rw [es]; simpa using e)⟩
      · rw [List.find?_cons_of_neg (by rw [es]; simpa using e)]
        exact b ((List.mem_cons.mp hz).resolve_left fun q => e q.symm)
    · rw [List.any_cons, er, c]; rfl
theorem ns_of {K : PySem.W.Frag} {p : Addr} {c : Value} {d : Option Addr} {es : Array DictEntry} {n : Nat} {s : Array (Option Value)} (l : K.lookup p = some ⟨c, d, .dict es n, s⟩) {ks : List Str} (x : es.toList.map keyTxt = ks.map some) (z : Str) : (z ∉ ks → PySem.W.nsIn K p z = some none) ∧ (z ∈ ks → ∃ v, PySem.W.nsIn K p z = some (some v)) := by
  obtain ⟨a, b, r⟩ := find_keys (z := z) x
  refine ⟨fun h => ?_, fun h => ?_⟩
  · unfold PySem.W.nsIn
    rw [l]
    show (match es.toList.find? (·.key.isStr z) with | some e => some (some e.val) | none => if es.toList.any (·.refKey) then none else some none) = some none
    rw [a h]
    show (if es.toList.any (·.refKey) then none else some none) = some none
    rw [r]
    rfl
  · obtain ⟨e, he⟩ := b h
    refine ⟨e.val, ?_⟩
    unfold PySem.W.nsIn
    rw [l]
    show (match es.toList.find? (·.key.isStr z) with | some e => some (some e.val) | none => if es.toList.any (·.refKey) then none else some none) = _
    rw [he]
theorem kit_ty {K : PySem.W.Frag} {C : Addr} {t : String} (h2 : PySem.W.isClsIn K C = true) (h3 : PySem.W.typeIn K (.ref C) = some (.type "type")) (h4 : PySem.W.subIn K (.type t) (.ref C) = some false) : PySem.W.kitOne K (.type t) (.ref C) = some false ∧ PySem.W.notFirst K C (.type t) = true := by
  have ne : (Value.type t == Value.ref C) = false := rfl
  refine ⟨?_, ?_⟩
  · show (if (Value.type t == Value.ref C) = true then some true else PySem.W.kitCls K (.type t) (.ref C)) = some false
    rw [ne, if_neg Bool.false_ne_true]
    exact kitCls_ref h2 h3 h4
  · show ((Value.type t == Value.ref C) || PySem.W.subIn K (.type t) (.ref C) == some false) = true
    rw [h4, ne]
    rfl
section
variable {P : Program} {w : World} {K : PySem.W.Frag} {mg : Str → Option Value} {base : Heap}
theorem ok_init_NoName {C fI : Addr} {fd : FuncData} (T : Ex.ErrC K mg "NoName" "value" C) (F : Fun K "__init__" "NoName.__init__" sInit_NoName fI fd) : FnOk P w K mg base CX0 1 fI fd ["self", "value"] (Ex.spInit C "value") := by
  refine F.ok scInit_NoName (fun vs H Q E h => ?_) (fun cdv A outer s H vs Q E hr h => ⟨_, pss_one (ps_ost (pv 0) (pv 1)), ?_⟩)
  · obtain ⟨a, v, rfl, _⟩ := h
    rfl
  · obtain ⟨a, v, rfl, ha, q⟩ := h
    exact ⟨_, rfl, _, rfl, a, C, rfl, T.t, T.no, .inl ⟨ha, q⟩⟩
theorem ok_init_NoWays {C fI : Addr} {fd : FuncData} (T : Ex.ErrC K mg "NoWays" "operation" C) (F : Fun K "__init__" "NoWays.__init__" sInit_NoWays fI fd) : FnOk P w K mg base CX0 1 fI fd ["self", "operation"] (Ex.spInit C "operation") := by
  refine F.ok scInit_NoWays (fun vs H Q E h => ?_) (fun cdv A outer s H vs Q E hr h => ⟨_, pss_one (ps_ost (pv 0) (pv 1)), ?_⟩)
  · obtain ⟨a, v, rfl, _⟩ := h
    rfl
  · obtain ⟨a, v, rfl, ha, q⟩ := h
    exact ⟨_, rfl, _, rfl, a, C, rfl, T.t, T.no, .inl ⟨ha, q⟩⟩
theorem ok_init_NoFlag {C fI : Addr} {fd : FuncData} (T : Ex.ErrC K mg "NoFlag" "value" C) (F : Fun K "__init__" "NoFlag.__init__" sInit_NoFlag fI fd) : FnOk P w K mg base CX0 1 fI fd ["self", "value"] (Ex.spInit C "value") := by
  refine F.ok scInit_NoFlag (fun vs H Q E h => ?_) (fun cdv A outer s H vs Q E hr h => ⟨_, pss_one (ps_ost (pv 0) (pv 1)), ?_⟩)
  · obtain ⟨a, v, rfl, _⟩ := h
    rfl
  · obtain ⟨a, v, rfl, ha, q⟩ := h
    exact ⟨_, rfl, _, rfl, a, C, rfl, T.t, T.no, .inl ⟨ha, q⟩⟩
theorem ok_init_NoBody {C fI : Addr} {fd : FuncData} (T : Ex.ErrC K mg "NoBody" "place" C) (F : Fun K "__init__" "NoBody.__init__" sInit_NoBody fI fd) : FnOk P w K mg base CX0 1 fI fd ["self", "place"] (Ex.spInit C "place") := by
  refine F.ok scInit_NoBody (fun vs H Q E h => ?_) (fun cdv A outer s H vs Q E hr h => ⟨_, pss_one (ps_ost (pv 0) (pv 1)), ?_⟩)
  · obtain ⟨a, v, rfl, _⟩ := h
    rfl
  · obtain ⟨a, v, rfl, ha, q⟩ := h
    exact ⟨_, rfl, _, rfl, a, C, rfl, T.t, T.no, .inl ⟨ha, q⟩⟩
end
theorem all_mk {l : PySem.W.OpenLaw} {w : World} {K : PySem.W.Frag} {h : Heap} {mg : Str → Option Value} {fa : Addr} (X : K.In h) (G : h.Ns mainGlobals mg) (hfa : mg "law" = some (.ref fa))
    {f1 : Addr} (a1 : PySem.W.nsIn K mainGlobals "is_number" = some (some (.ref f1)))
    {od1 an1 : Option Addr} {sl1 : Array (Option Value)} {oc1 kV1 dc1 pm1 cd1 ct1 : Value}
    (l1 : K.lookup f1 = some ⟨oc1, od1, .func (PySem.W.fnOf "is_number" "is_number" (defArgs sIs_number) (defBody sIs_number) (defScope sIs_number) .none kV1 dc1 pm1 an1 cd1 ct1), sl1⟩)
    (c1 : PySem.W.codeIn K cd1 "is_number" = true)
    (k1 : PySem.W.keepIn K (.ref f1) = true)
    {f2 : Addr} (a2 : PySem.W.nsIn K mainGlobals "is_word" = some (some (.ref f2)))
    {od2 an2 : Option Addr} {sl2 : Array (Option Value)} {oc2 kV2 dc2 pm2 cd2 ct2 : Value}
    (l2 : K.lookup f2 = some ⟨oc2, od2, .func (PySem.W.fnOf "is_word" "is_word" (defArgs sIs_word) (defBody sIs_word) (defScope sIs_word) .none kV2 dc2 pm2 an2 cd2 ct2), sl2⟩)
    (c2 : PySem.W.codeIn K cd2 "is_word" = true)
    (k2 : PySem.W.keepIn K (.ref f2) = true)
    {f3 : Addr} (a3 : PySem.W.nsIn K mainGlobals "is_one_of" = some (some (.ref f3)))
    {od3 an3 : Option Addr} {sl3 : Array (Option Value)} {oc3 kV3 dc3 pm3 cd3 ct3 : Value}
    (l3 : K.lookup f3 = some ⟨oc3, od3, .func (PySem.W.fnOf "is_one_of" "is_one_of" (defArgs sIs_one_of) (defBody sIs_one_of) (defScope sIs_one_of) .none kV3 dc3 pm3 an3 cd3 ct3), sl3⟩)
    (c3 : PySem.W.codeIn K cd3 "is_one_of" = true)
    (k3 : PySem.W.keepIn K (.ref f3) = true)
    {f4 : Addr} (a4 : PySem.W.nsIn K mainGlobals "check_flag" = some (some (.ref f4)))
    {od4 an4 : Option Addr} {sl4 : Array (Option Value)} {oc4 kV4 dc4 pm4 cd4 ct4 : Value}
    (l4 : K.lookup f4 = some ⟨oc4, od4, .func (PySem.W.fnOf "check_flag" "check_flag" (defArgs sCheck_flag) (defBody sCheck_flag) (defScope sCheck_flag) .none kV4 dc4 pm4 an4 cd4 ct4), sl4⟩)
    (c4 : PySem.W.codeIn K cd4 "check_flag" = true)
    (k4 : PySem.W.keepIn K (.ref f4) = true)
    {f5 : Addr} (a5 : PySem.W.nsIn K mainGlobals "check_method" = some (some (.ref f5)))
    {od5 an5 : Option Addr} {sl5 : Array (Option Value)} {oc5 kV5 dc5 pm5 cd5 ct5 : Value}
    (l5 : K.lookup f5 = some ⟨oc5, od5, .func (PySem.W.fnOf "check_method" "check_method" (defArgs sCheck_method) (defBody sCheck_method) (defScope sCheck_method) .none kV5 dc5 pm5 an5 cd5 ct5), sl5⟩)
    (c5 : PySem.W.codeIn K cd5 "check_method" = true)
    (k5 : PySem.W.keepIn K (.ref f5) = true)
    {f6 : Addr} (a6 : PySem.W.nsIn K mainGlobals "check_operation" = some (some (.ref f6)))
    {od6 an6 : Option Addr} {sl6 : Array (Option Value)} {oc6 kV6 dc6 pm6 cd6 ct6 : Value}
    (l6 : K.lookup f6 = some ⟨oc6, od6, .func (PySem.W.fnOf "check_operation" "check_operation" (defArgs sCheck_operation) (defBody sCheck_operation) (defScope sCheck_operation) .none kV6 dc6 pm6 an6 cd6 ct6), sl6⟩)
    (c6 : PySem.W.codeIn K cd6 "check_operation" = true)
    (k6 : PySem.W.keepIn K (.ref f6) = true)
    {f7 : Addr} (a7 : PySem.W.nsIn K mainGlobals "kind_of" = some (some (.ref f7)))
    {od7 an7 : Option Addr} {sl7 : Array (Option Value)} {oc7 kV7 dc7 pm7 cd7 ct7 : Value}
    (l7 : K.lookup f7 = some ⟨oc7, od7, .func (PySem.W.fnOf "kind_of" "kind_of" (defArgs sKind_of) (defBody sKind_of) (defScope sKind_of) .none kV7 dc7 pm7 an7 cd7 ct7), sl7⟩)
    (c7 : PySem.W.codeIn K cd7 "kind_of" = true)
    (k7 : PySem.W.keepIn K (.ref f7) = true)
    {f8 : Addr} (a8 : PySem.W.nsIn K mainGlobals "takes_other" = some (some (.ref f8)))
    {od8 an8 : Option Addr} {sl8 : Array (Option Value)} {oc8 kV8 dc8 pm8 cd8 ct8 : Value}
    (l8 : K.lookup f8 = some ⟨oc8, od8, .func (PySem.W.fnOf "takes_other" "takes_other" (defArgs sTakes_other) (defBody sTakes_other) (defScope sTakes_other) .none kV8 dc8 pm8 an8 cd8 ct8), sl8⟩)
    (c8 : PySem.W.codeIn K cd8 "takes_other" = true)
    (k8 : PySem.W.keepIn K (.ref f8) = true)
    {f9 : Addr} (a9 : PySem.W.nsIn K mainGlobals "may_decline" = some (some (.ref f9)))
    {od9 an9 : Option Addr} {sl9 : Array (Option Value)} {oc9 kV9 dc9 pm9 cd9 ct9 : Value}
    (l9 : K.lookup f9 = some ⟨oc9, od9, .func (PySem.W.fnOf "may_decline" "may_decline" (defArgs sMay_decline) (defBody sMay_decline) (defScope sMay_decline) .none kV9 dc9 pm9 an9 cd9 ct9), sl9⟩)
    (c9 : PySem.W.codeIn K cd9 "may_decline" = true)
    (k9 : PySem.W.keepIn K (.ref f9) = true)
    {f10 : Addr} (a10 : PySem.W.nsIn K mainGlobals "is_count" = some (some (.ref f10)))
    {od10 an10 : Option Addr} {sl10 : Array (Option Value)} {oc10 kV10 dc10 pm10 cd10 ct10 : Value}
    (l10 : K.lookup f10 = some ⟨oc10, od10, .func (PySem.W.fnOf "is_count" "is_count" (defArgs sIs_count) (defBody sIs_count) (defScope sIs_count) .none kV10 dc10 pm10 an10 cd10 ct10), sl10⟩)
    (c10 : PySem.W.codeIn K cd10 "is_count" = true)
    (k10 : PySem.W.keepIn K (.ref f10) = true)
    {f11 : Addr} (a11 : PySem.W.nsIn K mainGlobals "check_body_method" = some (some (.ref f11)))
    {od11 an11 : Option Addr} {sl11 : Array (Option Value)} {oc11 kV11 dc11 pm11 cd11 ct11 : Value}
    (l11 : K.lookup f11 = some ⟨oc11, od11, .func (PySem.W.fnOf "check_body_method" "check_body_method" (defArgs sCheck_body_method) (defBody sCheck_body_method) (defScope sCheck_body_method) .none kV11 dc11 pm11 an11 cd11 ct11), sl11⟩)
    (c11 : PySem.W.codeIn K cd11 "check_body_method" = true)
    (k11 : PySem.W.keepIn K (.ref f11) = true)
    {f12 : Addr} (a12 : PySem.W.nsIn K mainGlobals "_is_role" = some (some (.ref f12)))
    {od12 an12 : Option Addr} {sl12 : Array (Option Value)} {oc12 kV12 dc12 pm12 cd12 ct12 : Value}
    (l12 : K.lookup f12 = some ⟨oc12, od12, .func (PySem.W.fnOf "_is_role" "_is_role" (defArgs sIs_role) (defBody sIs_role) (defScope sIs_role) .none kV12 dc12 pm12 an12 cd12 ct12), sl12⟩)
    (c12 : PySem.W.codeIn K cd12 "_is_role" = true)
    (k12 : PySem.W.keepIn K (.ref f12) = true)
    {f13 : Addr} (a13 : PySem.W.nsIn K mainGlobals "_is_ask" = some (some (.ref f13)))
    {od13 an13 : Option Addr} {sl13 : Array (Option Value)} {oc13 kV13 dc13 pm13 cd13 ct13 : Value}
    (l13 : K.lookup f13 = some ⟨oc13, od13, .func (PySem.W.fnOf "_is_ask" "_is_ask" (defArgs sIs_ask) (defBody sIs_ask) (defScope sIs_ask) .none kV13 dc13 pm13 an13 cd13 ct13), sl13⟩)
    (c13 : PySem.W.codeIn K cd13 "_is_ask" = true)
    (k13 : PySem.W.keepIn K (.ref f13) = true)
    {f14 : Addr} (a14 : PySem.W.nsIn K mainGlobals "_is_word_alone" = some (some (.ref f14)))
    {od14 an14 : Option Addr} {sl14 : Array (Option Value)} {oc14 kV14 dc14 pm14 cd14 ct14 : Value}
    (l14 : K.lookup f14 = some ⟨oc14, od14, .func (PySem.W.fnOf "_is_word_alone" "_is_word_alone" (defArgs sIs_word_alone) (defBody sIs_word_alone) (defScope sIs_word_alone) .none kV14 dc14 pm14 an14 cd14 ct14), sl14⟩)
    (c14 : PySem.W.codeIn K cd14 "_is_word_alone" = true)
    (k14 : PySem.W.keepIn K (.ref f14) = true)
    {f15 : Addr} (a15 : PySem.W.nsIn K mainGlobals "_is_node" = some (some (.ref f15)))
    {od15 an15 : Option Addr} {sl15 : Array (Option Value)} {oc15 kV15 dc15 pm15 cd15 ct15 : Value}
    (l15 : K.lookup f15 = some ⟨oc15, od15, .func (PySem.W.fnOf "_is_node" "_is_node" (defArgs sIs_node) (defBody sIs_node) (defScope sIs_node) .none kV15 dc15 pm15 an15 cd15 ct15), sl15⟩)
    (c15 : PySem.W.codeIn K cd15 "_is_node" = true)
    (k15 : PySem.W.keepIn K (.ref f15) = true)
    {f16 : Addr} (a16 : PySem.W.nsIn K mainGlobals "_parts" = some (some (.ref f16)))
    {od16 an16 : Option Addr} {sl16 : Array (Option Value)} {oc16 kV16 dc16 pm16 cd16 ct16 : Value}
    (l16 : K.lookup f16 = some ⟨oc16, od16, .func (PySem.W.fnOf "_parts" "_parts" (defArgs sParts) (defBody sParts) (defScope sParts) .none kV16 dc16 pm16 an16 cd16 ct16), sl16⟩)
    (c16 : PySem.W.codeIn K cd16 "_parts" = true)
    (k16 : PySem.W.keepIn K (.ref f16) = true)
    {f17 : Addr} (a17 : PySem.W.nsIn K mainGlobals "_tails" = some (some (.ref f17)))
    {od17 an17 : Option Addr} {sl17 : Array (Option Value)} {oc17 kV17 dc17 pm17 cd17 ct17 : Value}
    (l17 : K.lookup f17 = some ⟨oc17, od17, .func (PySem.W.fnOf "_tails" "_tails" (defArgs sTails) (defBody sTails) (defScope sTails) .none kV17 dc17 pm17 an17 cd17 ct17), sl17⟩)
    (c17 : PySem.W.codeIn K cd17 "_tails" = true)
    (k17 : PySem.W.keepIn K (.ref f17) = true)
    {f18 : Addr} (a18 : PySem.W.nsIn K mainGlobals "_first_wrong" = some (some (.ref f18)))
    {od18 an18 : Option Addr} {sl18 : Array (Option Value)} {oc18 kV18 dc18 pm18 cd18 ct18 : Value}
    (l18 : K.lookup f18 = some ⟨oc18, od18, .func (PySem.W.fnOf "_first_wrong" "_first_wrong" (defArgs sFirst_wrong) (defBody sFirst_wrong) (defScope sFirst_wrong) .none kV18 dc18 pm18 an18 cd18 ct18), sl18⟩)
    (c18 : PySem.W.codeIn K cd18 "_first_wrong" = true)
    (k18 : PySem.W.keepIn K (.ref f18) = true)
    {f19 : Addr} (a19 : PySem.W.nsIn K mainGlobals "_numbered" = some (some (.ref f19)))
    {od19 an19 : Option Addr} {sl19 : Array (Option Value)} {oc19 kV19 dc19 pm19 cd19 ct19 : Value}
    (l19 : K.lookup f19 = some ⟨oc19, od19, .func (PySem.W.fnOf "_numbered" "_numbered" (defArgs sNumbered) (defBody sNumbered) (defScope sNumbered) .none kV19 dc19 pm19 an19 cd19 ct19), sl19⟩)
    (c19 : PySem.W.codeIn K cd19 "_numbered" = true)
    (k19 : PySem.W.keepIn K (.ref f19) = true)
    {f20 : Addr} (a20 : PySem.W.nsIn K mainGlobals "are_ways" = some (some (.ref f20)))
    {od20 an20 : Option Addr} {sl20 : Array (Option Value)} {oc20 kV20 dc20 pm20 cd20 ct20 : Value}
    (l20 : K.lookup f20 = some ⟨oc20, od20, .func (PySem.W.fnOf "are_ways" "are_ways" (defArgs sAre_ways) (defBody sAre_ways) (defScope sAre_ways) .none kV20 dc20 pm20 an20 cd20 ct20), sl20⟩)
    (c20 : PySem.W.codeIn K cd20 "are_ways" = true)
    (k20 : PySem.W.keepIn K (.ref f20) = true)
    {f21 : Addr} (a21 : PySem.W.nsIn K mainGlobals "check_book" = some (some (.ref f21)))
    {od21 an21 : Option Addr} {sl21 : Array (Option Value)} {oc21 kV21 dc21 pm21 cd21 ct21 : Value}
    (l21 : K.lookup f21 = some ⟨oc21, od21, .func (PySem.W.fnOf "check_book" "check_book" (defArgs sCheck_book) (defBody sCheck_book) (defScope sCheck_book) .none kV21 dc21 pm21 an21 cd21 ct21), sl21⟩)
    (c21 : PySem.W.codeIn K cd21 "check_book" = true)
    (k21 : PySem.W.keepIn K (.ref f21) = true)
    {f22 : Addr} (a22 : PySem.W.nsIn K mainGlobals "_free_head" = some (some (.ref f22)))
    {od22 an22 : Option Addr} {sl22 : Array (Option Value)} {oc22 kV22 dc22 pm22 cd22 ct22 : Value}
    (l22 : K.lookup f22 = some ⟨oc22, od22, .func (PySem.W.fnOf "_free_head" "_free_head" (defArgs sFree_head) (defBody sFree_head) (defScope sFree_head) .none kV22 dc22 pm22 an22 cd22 ct22), sl22⟩)
    (c22 : PySem.W.codeIn K cd22 "_free_head" = true)
    (k22 : PySem.W.keepIn K (.ref f22) = true)
    {f23 : Addr} (a23 : PySem.W.nsIn K mainGlobals "_without" = some (some (.ref f23)))
    {od23 an23 : Option Addr} {sl23 : Array (Option Value)} {oc23 kV23 dc23 pm23 cd23 ct23 : Value}
    (l23 : K.lookup f23 = some ⟨oc23, od23, .func (PySem.W.fnOf "_without" "_without" (defArgs sWithout) (defBody sWithout) (defScope sWithout) .none kV23 dc23 pm23 an23 cd23 ct23), sl23⟩)
    (c23 : PySem.W.codeIn K cd23 "_without" = true)
    (k23 : PySem.W.keepIn K (.ref f23) = true)
    {f24 : Addr} (a24 : PySem.W.nsIn K mainGlobals "merged" = some (some (.ref f24)))
    {od24 an24 : Option Addr} {sl24 : Array (Option Value)} {oc24 kV24 dc24 pm24 cd24 ct24 : Value}
    (l24 : K.lookup f24 = some ⟨oc24, od24, .func (PySem.W.fnOf "merged" "merged" (defArgs sMerged) (defBody sMerged) (defScope sMerged) .none kV24 dc24 pm24 an24 cd24 ct24), sl24⟩)
    (c24 : PySem.W.codeIn K cd24 "merged" = true)
    (k24 : PySem.W.keepIn K (.ref f24) = true)
    {f25 : Addr} (a25 : PySem.W.nsIn K mainGlobals "order_of" = some (some (.ref f25)))
    {od25 an25 : Option Addr} {sl25 : Array (Option Value)} {oc25 kV25 dc25 pm25 cd25 ct25 : Value}
    (l25 : K.lookup f25 = some ⟨oc25, od25, .func (PySem.W.fnOf "order_of" "order_of" (defArgs sOrder_of) (defBody sOrder_of) (defScope sOrder_of) .none kV25 dc25 pm25 an25 cd25 ct25), sl25⟩)
    (c25 : PySem.W.codeIn K cd25 "order_of" = true)
    (k25 : PySem.W.keepIn K (.ref f25) = true)
    {f26 : Addr} (a26 : PySem.W.nsIn K mainGlobals "is_entry" = some (some (.ref f26)))
    {od26 an26 : Option Addr} {sl26 : Array (Option Value)} {oc26 kV26 dc26 pm26 cd26 ct26 : Value}
    (l26 : K.lookup f26 = some ⟨oc26, od26, .func (PySem.W.fnOf "is_entry" "is_entry" (defArgs sIs_entry) (defBody sIs_entry) (defScope sIs_entry) .none kV26 dc26 pm26 an26 cd26 ct26), sl26⟩)
    (c26 : PySem.W.codeIn K cd26 "is_entry" = true)
    (k26 : PySem.W.keepIn K (.ref f26) = true)
    {f27 : Addr} (a27 : PySem.W.nsIn K mainGlobals "_law_pool" = some (some (.ref f27)))
    {od27 an27 : Option Addr} {sl27 : Array (Option Value)} {oc27 kV27 dc27 pm27 cd27 ct27 : Value}
    (l27 : K.lookup f27 = some ⟨oc27, od27, .func (PySem.W.fnOf "_law_pool" "_law_pool" (defArgs sL_pool) (defBody sL_pool) (defScope sL_pool) .none kV27 dc27 pm27 an27 cd27 ct27), sl27⟩)
    (c27 : PySem.W.codeIn K cd27 "_law_pool" = true)
    (k27 : PySem.W.keepIn K (.ref f27) = true)
    {f28 : Addr} (a28 : PySem.W.nsIn K mainGlobals "_law_take" = some (some (.ref f28)))
    {od28 an28 : Option Addr} {sl28 : Array (Option Value)} {oc28 kV28 dc28 pm28 cd28 ct28 : Value}
    (l28 : K.lookup f28 = some ⟨oc28, od28, .func (PySem.W.fnOf "_law_take" "_law_take" (defArgs sL_take) (defBody sL_take) (defScope sL_take) .none kV28 dc28 pm28 an28 cd28 ct28), sl28⟩)
    (c28 : PySem.W.codeIn K cd28 "_law_take" = true)
    (k28 : PySem.W.keepIn K (.ref f28) = true)
    {f29 : Addr} (a29 : PySem.W.nsIn K mainGlobals "_law_one" = some (some (.ref f29)))
    {od29 an29 : Option Addr} {sl29 : Array (Option Value)} {oc29 kV29 dc29 pm29 cd29 ct29 : Value}
    (l29 : K.lookup f29 = some ⟨oc29, od29, .func (PySem.W.fnOf "_law_one" "_law_one" (defArgs sL_one) (defBody sL_one) (defScope sL_one) .none kV29 dc29 pm29 an29 cd29 ct29), sl29⟩)
    (c29 : PySem.W.codeIn K cd29 "_law_one" = true)
    (k29 : PySem.W.keepIn K (.ref f29) = true)
    {f30 : Addr} (a30 : PySem.W.nsIn K mainGlobals "_law_words" = some (some (.ref f30)))
    {od30 an30 : Option Addr} {sl30 : Array (Option Value)} {oc30 kV30 dc30 pm30 cd30 ct30 : Value}
    (l30 : K.lookup f30 = some ⟨oc30, od30, .func (PySem.W.fnOf "_law_words" "_law_words" (defArgs sL_words) (defBody sL_words) (defScope sL_words) .none kV30 dc30 pm30 an30 cd30 ct30), sl30⟩)
    (c30 : PySem.W.codeIn K cd30 "_law_words" = true)
    (k30 : PySem.W.keepIn K (.ref f30) = true)
    {f31 : Addr} (a31 : PySem.W.nsIn K mainGlobals "_law_menus" = some (some (.ref f31)))
    {od31 an31 : Option Addr} {sl31 : Array (Option Value)} {oc31 kV31 dc31 pm31 cd31 ct31 : Value}
    (l31 : K.lookup f31 = some ⟨oc31, od31, .func (PySem.W.fnOf "_law_menus" "_law_menus" (defArgs sL_menus) (defBody sL_menus) (defScope sL_menus) .none kV31 dc31 pm31 an31 cd31 ct31), sl31⟩)
    (c31 : PySem.W.codeIn K cd31 "_law_menus" = true)
    (k31 : PySem.W.keepIn K (.ref f31) = true)
    {f32 : Addr} (a32 : PySem.W.nsIn K mainGlobals "_law_book_of" = some (some (.ref f32)))
    {od32 an32 : Option Addr} {sl32 : Array (Option Value)} {oc32 kV32 dc32 pm32 cd32 ct32 : Value}
    (l32 : K.lookup f32 = some ⟨oc32, od32, .func (PySem.W.fnOf "_law_book_of" "_law_book_of" (defArgs sL_book_of) (defBody sL_book_of) (defScope sL_book_of) .none kV32 dc32 pm32 an32 cd32 ct32), sl32⟩)
    (c32 : PySem.W.codeIn K cd32 "_law_book_of" = true)
    (k32 : PySem.W.keepIn K (.ref f32) = true)
    {f33 : Addr} (a33 : PySem.W.nsIn K mainGlobals "_law_leaf" = some (some (.ref f33)))
    {od33 an33 : Option Addr} {sl33 : Array (Option Value)} {oc33 kV33 dc33 pm33 cd33 ct33 : Value}
    (l33 : K.lookup f33 = some ⟨oc33, od33, .func (PySem.W.fnOf "_law_leaf" "_law_leaf" (defArgs sL_leaf) (defBody sL_leaf) (defScope sL_leaf) .none kV33 dc33 pm33 an33 cd33 ct33), sl33⟩)
    (c33 : PySem.W.codeIn K cd33 "_law_leaf" = true)
    (k33 : PySem.W.keepIn K (.ref f33) = true)
    {f34 : Addr} (a34 : PySem.W.nsIn K mainGlobals "_law_asking" = some (some (.ref f34)))
    {od34 an34 : Option Addr} {sl34 : Array (Option Value)} {oc34 kV34 dc34 pm34 cd34 ct34 : Value}
    (l34 : K.lookup f34 = some ⟨oc34, od34, .func (PySem.W.fnOf "_law_asking" "_law_asking" (defArgs sL_asking) (defBody sL_asking) (defScope sL_asking) .none kV34 dc34 pm34 an34 cd34 ct34), sl34⟩)
    (c34 : PySem.W.codeIn K cd34 "_law_asking" = true)
    (k34 : PySem.W.keepIn K (.ref f34) = true)
    {f35 : Addr} (a35 : PySem.W.nsIn K mainGlobals "_law_part" = some (some (.ref f35)))
    {od35 an35 : Option Addr} {sl35 : Array (Option Value)} {oc35 kV35 dc35 pm35 cd35 ct35 : Value}
    (l35 : K.lookup f35 = some ⟨oc35, od35, .func (PySem.W.fnOf "_law_part" "_law_part" (defArgs sL_part) (defBody sL_part) (defScope sL_part) .none kV35 dc35 pm35 an35 cd35 ct35), sl35⟩)
    (c35 : PySem.W.codeIn K cd35 "_law_part" = true)
    (k35 : PySem.W.keepIn K (.ref f35) = true)
    {f36 : Addr} (a36 : PySem.W.nsIn K mainGlobals "_law_methods" = some (some (.ref f36)))
    {od36 an36 : Option Addr} {sl36 : Array (Option Value)} {oc36 kV36 dc36 pm36 cd36 ct36 : Value}
    (l36 : K.lookup f36 = some ⟨oc36, od36, .func (PySem.W.fnOf "_law_methods" "_law_methods" (defArgs sL_methods) (defBody sL_methods) (defScope sL_methods) .none kV36 dc36 pm36 an36 cd36 ct36), sl36⟩)
    (c36 : PySem.W.codeIn K cd36 "_law_methods" = true)
    (k36 : PySem.W.keepIn K (.ref f36) = true)
    {f37 : Addr} (a37 : PySem.W.nsIn K mainGlobals "_law_merge" = some (some (.ref f37)))
    {od37 an37 : Option Addr} {sl37 : Array (Option Value)} {oc37 kV37 dc37 pm37 cd37 ct37 : Value}
    (l37 : K.lookup f37 = some ⟨oc37, od37, .func (PySem.W.fnOf "_law_merge" "_law_merge" (defArgs sL_merge) (defBody sL_merge) (defScope sL_merge) .none kV37 dc37 pm37 an37 cd37 ct37), sl37⟩)
    (c37 : PySem.W.codeIn K cd37 "_law_merge" = true)
    (k37 : PySem.W.keepIn K (.ref f37) = true)
    {f38 : Addr} (a38 : PySem.W.nsIn K mainGlobals "_law_entry" = some (some (.ref f38)))
    {od38 an38 : Option Addr} {sl38 : Array (Option Value)} {oc38 kV38 dc38 pm38 cd38 ct38 : Value}
    (l38 : K.lookup f38 = some ⟨oc38, od38, .func (PySem.W.fnOf "_law_entry" "_law_entry" (defArgs sL_entry) (defBody sL_entry) (defScope sL_entry) .none kV38 dc38 pm38 an38 cd38 ct38), sl38⟩)
    (c38 : PySem.W.codeIn K cd38 "_law_entry" = true)
    (k38 : PySem.W.keepIn K (.ref f38) = true)
    {f39 : Addr} (a39 : PySem.W.nsIn K mainGlobals "_law_bases" = some (some (.ref f39)))
    {od39 an39 : Option Addr} {sl39 : Array (Option Value)} {oc39 kV39 dc39 pm39 cd39 ct39 : Value}
    (l39 : K.lookup f39 = some ⟨oc39, od39, .func (PySem.W.fnOf "_law_bases" "_law_bases" (defArgs sL_bases) (defBody sL_bases) (defScope sL_bases) .none kV39 dc39 pm39 an39 cd39 ct39), sl39⟩)
    (c39 : PySem.W.codeIn K cd39 "_law_bases" = true)
    (k39 : PySem.W.keepIn K (.ref f39) = true)
    {f40 : Addr} (a40 : PySem.W.nsIn K mainGlobals "_law_own" = some (some (.ref f40)))
    {od40 an40 : Option Addr} {sl40 : Array (Option Value)} {oc40 kV40 dc40 pm40 cd40 ct40 : Value}
    (l40 : K.lookup f40 = some ⟨oc40, od40, .func (PySem.W.fnOf "_law_own" "_law_own" (defArgs sL_own) (defBody sL_own) (defScope sL_own) .none kV40 dc40 pm40 an40 cd40 ct40), sl40⟩)
    (c40 : PySem.W.codeIn K cd40 "_law_own" = true)
    (k40 : PySem.W.keepIn K (.ref f40) = true)
    {f41 : Addr} (a41 : PySem.W.nsIn K mainGlobals "_law_book" = some (some (.ref f41)))
    {od41 an41 : Option Addr} {sl41 : Array (Option Value)} {oc41 kV41 dc41 pm41 cd41 ct41 : Value}
    (l41 : K.lookup f41 = some ⟨oc41, od41, .func (PySem.W.fnOf "_law_book" "_law_book" (defArgs sL_book) (defBody sL_book) (defScope sL_book) .none kV41 dc41 pm41 an41 cd41 ct41), sl41⟩)
    (c41 : PySem.W.codeIn K cd41 "_law_book" = true)
    (k41 : PySem.W.keepIn K (.ref f41) = true)
    {f42 : Addr} (a42 : PySem.W.nsIn K mainGlobals "_law_put" = some (some (.ref f42)))
    {od42 an42 : Option Addr} {sl42 : Array (Option Value)} {oc42 kV42 dc42 pm42 cd42 ct42 : Value}
    (l42 : K.lookup f42 = some ⟨oc42, od42, .func (PySem.W.fnOf "_law_put" "_law_put" (defArgs sL_put) (defBody sL_put) (defScope sL_put) .none kV42 dc42 pm42 an42 cd42 ct42), sl42⟩)
    (c42 : PySem.W.codeIn K cd42 "_law_put" = true)
    (k42 : PySem.W.keepIn K (.ref f42) = true)
    {f43 : Addr} (a43 : PySem.W.nsIn K mainGlobals "_law_table" = some (some (.ref f43)))
    {od43 an43 : Option Addr} {sl43 : Array (Option Value)} {oc43 kV43 dc43 pm43 cd43 ct43 : Value}
    (l43 : K.lookup f43 = some ⟨oc43, od43, .func (PySem.W.fnOf "_law_table" "_law_table" (defArgs sL_table) (defBody sL_table) (defScope sL_table) .none kV43 dc43 pm43 an43 cd43 ct43), sl43⟩)
    (c43 : PySem.W.codeIn K cd43 "_law_table" = true)
    (k43 : PySem.W.keepIn K (.ref f43) = true)
    {f44 : Addr} (a44 : PySem.W.nsIn K mainGlobals "_law_entry_due" = some (some (.ref f44)))
    {od44 an44 : Option Addr} {sl44 : Array (Option Value)} {oc44 kV44 dc44 pm44 cd44 ct44 : Value}
    (l44 : K.lookup f44 = some ⟨oc44, od44, .func (PySem.W.fnOf "_law_entry_due" "_law_entry_due" (defArgs sL_entry_due) (defBody sL_entry_due) (defScope sL_entry_due) .none kV44 dc44 pm44 an44 cd44 ct44), sl44⟩)
    (c44 : PySem.W.codeIn K cd44 "_law_entry_due" = true)
    (k44 : PySem.W.keepIn K (.ref f44) = true)
    {f45 : Addr} (a45 : PySem.W.nsIn K mainGlobals "_law_right" = some (some (.ref f45)))
    {od45 an45 : Option Addr} {sl45 : Array (Option Value)} {oc45 kV45 dc45 pm45 cd45 ct45 : Value}
    (l45 : K.lookup f45 = some ⟨oc45, od45, .func (PySem.W.fnOf "_law_right" "_law_right" (defArgs sL_right) (defBody sL_right) (defScope sL_right) .none kV45 dc45 pm45 an45 cd45 ct45), sl45⟩)
    (c45 : PySem.W.codeIn K cd45 "_law_right" = true)
    (k45 : PySem.W.keepIn K (.ref f45) = true)
    {f46 : Addr} (a46 : PySem.W.nsIn K mainGlobals "law" = some (some (.ref f46)))
    {od46 an46 : Option Addr} {sl46 : Array (Option Value)} {oc46 kV46 dc46 pm46 cd46 ct46 : Value}
    (l46 : K.lookup f46 = some ⟨oc46, od46, .func (PySem.W.fnOf "law" "law" (defArgs sLaw) (defBody sLaw) (defScope sLaw) .none kV46 dc46 pm46 an46 cd46 ct46), sl46⟩)
    (c46 : PySem.W.codeIn K cd46 "law" = true)
    (k46 : PySem.W.keepIn K (.ref f46) = true)
    (z_int : PySem.W.nsIn K mainGlobals "int" = some none)
    (z_len : PySem.W.nsIn K mainGlobals "len" = some none)
    (z_max : PySem.W.nsIn K mainGlobals "max" = some none)
    (z_min : PySem.W.nsIn K mainGlobals "min" = some none)
    (z_isinstance : PySem.W.nsIn K mainGlobals "isinstance" = some none)
    (z_range : PySem.W.nsIn K mainGlobals "range" = some none)
    (z_list : PySem.W.nsIn K mainGlobals "list" = some none)
    (z_dict : PySem.W.nsIn K mainGlobals "dict" = some none)
    (z_tuple : PySem.W.nsIn K mainGlobals "tuple" = some none)
    (z_set : PySem.W.nsIn K mainGlobals "set" = some none)
    (z_str : PySem.W.nsIn K mainGlobals "str" = some none)
    (z_bool : PySem.W.nsIn K mainGlobals "bool" = some none)
    (z_repr : PySem.W.nsIn K mainGlobals "repr" = some none)
    (z_all : PySem.W.nsIn K mainGlobals "all" = some none)
    (z_any : PySem.W.nsIn K mainGlobals "any" = some none)
    (z_sum : PySem.W.nsIn K mainGlobals "sum" = some none)
    (z_zip : PySem.W.nsIn K mainGlobals "zip" = some none)
    (z_enumerate : PySem.W.nsIn K mainGlobals "enumerate" = some none)
    {CA : Addr}
    (aA : PySem.W.nsIn K mainGlobals "AnswerError" = some (some (.ref CA)))
    (hsp : PySem.W.specialIn K (.builtin "object.__class__") "__get__" = some (some (.builtin "getset_descriptor.__get__")))
    (htk : PySem.W.takesIn K (.builtin "object.__class__") = some true)
    {C_NoName N_NoName : Addr} {nm_NoName q_NoName : Str} {bs_NoName : List Value} {sn_NoName : List Str} {sub_NoName : List Value} {ab_NoName : Bool} {col_NoName : Option Bool} {dd_NoName : Option Addr} {m0_NoName m1_NoName m2_NoName m3_NoName m5_NoName : Option Value}
    (aC_NoName : PySem.W.nsIn K mainGlobals "NoName" = some (some (.ref C_NoName)))
    (xL_NoName : K.lookup C_NoName = some (excClassObj nm_NoName q_NoName C_NoName N_NoName bs_NoName [.ref CA, .type "ValueError", .type "Exception", .type "BaseException", .type "object"] true sn_NoName sub_NoName ab_NoName col_NoName dd_NoName m0_NoName m1_NoName m2_NoName m3_NoName m5_NoName "ValueError.__new__"))
    (sa_NoName : PySem.W.findIn K (.ref C_NoName) "__setattr__" = some (some (.builtin "object.__setattr__")))
    (eC_NoName : PySem.W.subIn K (.ref C_NoName) (.type "BaseException") = some true)
    (tC_NoName : PySem.W.typeIn K (.ref C_NoName) = some (.type "type"))
    (kC_NoName : PySem.W.keepIn K (.ref C_NoName) = true)
    (ga_NoName : PySem.W.findIn K (.ref C_NoName) "__getattribute__" = some (some (.builtin "BaseException.__getattribute__")))
    (gg_NoName : PySem.W.findIn K (.ref C_NoName) "__getattr__" = some none)
    (hC_NoName : PySem.W.hasDictIn K C_NoName = true)
    (hcl_NoName : PySem.W.findIn K (.ref C_NoName) "__class__" = some (some (.builtin "object.__class__")))
    (hmr_NoName : PySem.W.mroIn K C_NoName (.type "object") = some true)
    (nf_NoName : PySem.W.findIn K (.ref C_NoName) "value" = some none)
    (cC_NoName : PySem.W.isClsIn K C_NoName = true)
    (sC_NoName : PySem.W.subIn K (.ref C_NoName) (.ref C_NoName) = some true)
    {fI_NoName : Addr}
    (iI_NoName : PySem.W.findIn K (.ref C_NoName) "__init__" = some (some (.ref fI_NoName)))
    (tI_NoName : PySem.W.typeIn K (.ref fI_NoName) = some (.type "function"))
    {odI_NoName anI_NoName : Option Addr} {slI_NoName : Array (Option Value)} {ocI_NoName dcI_NoName pmI_NoName cdI_NoName ctI_NoName : Value}
    (lI_NoName : K.lookup fI_NoName = some ⟨ocI_NoName, odI_NoName, .func (PySem.W.fnOf "__init__" "NoName.__init__" (defArgs sInit_NoName) (defBody sInit_NoName) (defScope sInit_NoName) .none .none dcI_NoName pmI_NoName anI_NoName cdI_NoName ctI_NoName), slI_NoName⟩)
    (cI_NoName : PySem.W.codeIn K cdI_NoName "NoName.__init__" = true)
    (kI_NoName : PySem.W.keepIn K (.ref fI_NoName) = true)
    {C_NoWays N_NoWays : Addr} {nm_NoWays q_NoWays : Str} {bs_NoWays : List Value} {sn_NoWays : List Str} {sub_NoWays : List Value} {ab_NoWays : Bool} {col_NoWays : Option Bool} {dd_NoWays : Option Addr} {m0_NoWays m1_NoWays m2_NoWays m3_NoWays m5_NoWays : Option Value}
    (aC_NoWays : PySem.W.nsIn K mainGlobals "NoWays" = some (some (.ref C_NoWays)))
    (xL_NoWays : K.lookup C_NoWays = some (excClassObj nm_NoWays q_NoWays C_NoWays N_NoWays bs_NoWays [.ref CA, .type "ValueError", .type "Exception", .type "BaseException", .type "object"] true sn_NoWays sub_NoWays ab_NoWays col_NoWays dd_NoWays m0_NoWays m1_NoWays m2_NoWays m3_NoWays m5_NoWays "ValueError.__new__"))
    (sa_NoWays : PySem.W.findIn K (.ref C_NoWays) "__setattr__" = some (some (.builtin "object.__setattr__")))
    (eC_NoWays : PySem.W.subIn K (.ref C_NoWays) (.type "BaseException") = some true)
    (tC_NoWays : PySem.W.typeIn K (.ref C_NoWays) = some (.type "type"))
    (kC_NoWays : PySem.W.keepIn K (.ref C_NoWays) = true)
    (ga_NoWays : PySem.W.findIn K (.ref C_NoWays) "__getattribute__" = some (some (.builtin "BaseException.__getattribute__")))
    (gg_NoWays : PySem.W.findIn K (.ref C_NoWays) "__getattr__" = some none)
    (hC_NoWays : PySem.W.hasDictIn K C_NoWays = true)
    (hcl_NoWays : PySem.W.findIn K (.ref C_NoWays) "__class__" = some (some (.builtin "object.__class__")))
    (hmr_NoWays : PySem.W.mroIn K C_NoWays (.type "object") = some true)
    (nf_NoWays : PySem.W.findIn K (.ref C_NoWays) "operation" = some none)
    (cC_NoWays : PySem.W.isClsIn K C_NoWays = true)
    (sC_NoWays : PySem.W.subIn K (.ref C_NoWays) (.ref C_NoWays) = some true)
    {fI_NoWays : Addr}
    (iI_NoWays : PySem.W.findIn K (.ref C_NoWays) "__init__" = some (some (.ref fI_NoWays)))
    (tI_NoWays : PySem.W.typeIn K (.ref fI_NoWays) = some (.type "function"))
    {odI_NoWays anI_NoWays : Option Addr} {slI_NoWays : Array (Option Value)} {ocI_NoWays dcI_NoWays pmI_NoWays cdI_NoWays ctI_NoWays : Value}
    (lI_NoWays : K.lookup fI_NoWays = some ⟨ocI_NoWays, odI_NoWays, .func (PySem.W.fnOf "__init__" "NoWays.__init__" (defArgs sInit_NoWays) (defBody sInit_NoWays) (defScope sInit_NoWays) .none .none dcI_NoWays pmI_NoWays anI_NoWays cdI_NoWays ctI_NoWays), slI_NoWays⟩)
    (cI_NoWays : PySem.W.codeIn K cdI_NoWays "NoWays.__init__" = true)
    (kI_NoWays : PySem.W.keepIn K (.ref fI_NoWays) = true)
    {C_NoFlag N_NoFlag : Addr} {nm_NoFlag q_NoFlag : Str} {bs_NoFlag : List Value} {sn_NoFlag : List Str} {sub_NoFlag : List Value} {ab_NoFlag : Bool} {col_NoFlag : Option Bool} {dd_NoFlag : Option Addr} {m0_NoFlag m1_NoFlag m2_NoFlag m3_NoFlag m5_NoFlag : Option Value}
    (aC_NoFlag : PySem.W.nsIn K mainGlobals "NoFlag" = some (some (.ref C_NoFlag)))
    (xL_NoFlag : K.lookup C_NoFlag = some (excClassObj nm_NoFlag q_NoFlag C_NoFlag N_NoFlag bs_NoFlag [.ref CA, .type "ValueError", .type "Exception", .type "BaseException", .type "object"] true sn_NoFlag sub_NoFlag ab_NoFlag col_NoFlag dd_NoFlag m0_NoFlag m1_NoFlag m2_NoFlag m3_NoFlag m5_NoFlag "ValueError.__new__"))
    (sa_NoFlag : PySem.W.findIn K (.ref C_NoFlag) "__setattr__" = some (some (.builtin "object.__setattr__")))
    (eC_NoFlag : PySem.W.subIn K (.ref C_NoFlag) (.type "BaseException") = some true)
    (tC_NoFlag : PySem.W.typeIn K (.ref C_NoFlag) = some (.type "type"))
    (kC_NoFlag : PySem.W.keepIn K (.ref C_NoFlag) = true)
    (ga_NoFlag : PySem.W.findIn K (.ref C_NoFlag) "__getattribute__" = some (some (.builtin "BaseException.__getattribute__")))
    (gg_NoFlag : PySem.W.findIn K (.ref C_NoFlag) "__getattr__" = some none)
    (hC_NoFlag : PySem.W.hasDictIn K C_NoFlag = true)
    (hcl_NoFlag : PySem.W.findIn K (.ref C_NoFlag) "__class__" = some (some (.builtin "object.__class__")))
    (hmr_NoFlag : PySem.W.mroIn K C_NoFlag (.type "object") = some true)
    (nf_NoFlag : PySem.W.findIn K (.ref C_NoFlag) "value" = some none)
    (cC_NoFlag : PySem.W.isClsIn K C_NoFlag = true)
    (sC_NoFlag : PySem.W.subIn K (.ref C_NoFlag) (.ref C_NoFlag) = some true)
    {fI_NoFlag : Addr}
    (iI_NoFlag : PySem.W.findIn K (.ref C_NoFlag) "__init__" = some (some (.ref fI_NoFlag)))
    (tI_NoFlag : PySem.W.typeIn K (.ref fI_NoFlag) = some (.type "function"))
    {odI_NoFlag anI_NoFlag : Option Addr} {slI_NoFlag : Array (Option Value)} {ocI_NoFlag dcI_NoFlag pmI_NoFlag cdI_NoFlag ctI_NoFlag : Value}
    (lI_NoFlag : K.lookup fI_NoFlag = some ⟨ocI_NoFlag, odI_NoFlag, .func (PySem.W.fnOf "__init__" "NoFlag.__init__" (defArgs sInit_NoFlag) (defBody sInit_NoFlag) (defScope sInit_NoFlag) .none .none dcI_NoFlag pmI_NoFlag anI_NoFlag cdI_NoFlag ctI_NoFlag), slI_NoFlag⟩)
    (cI_NoFlag : PySem.W.codeIn K cdI_NoFlag "NoFlag.__init__" = true)
    (kI_NoFlag : PySem.W.keepIn K (.ref fI_NoFlag) = true)
    {C_NoBody N_NoBody : Addr} {nm_NoBody q_NoBody : Str} {bs_NoBody : List Value} {sn_NoBody : List Str} {sub_NoBody : List Value} {ab_NoBody : Bool} {col_NoBody : Option Bool} {dd_NoBody : Option Addr} {m0_NoBody m1_NoBody m2_NoBody m3_NoBody m5_NoBody : Option Value}
    (aC_NoBody : PySem.W.nsIn K mainGlobals "NoBody" = some (some (.ref C_NoBody)))
    (xL_NoBody : K.lookup C_NoBody = some (excClassObj nm_NoBody q_NoBody C_NoBody N_NoBody bs_NoBody [.ref CA, .type "ValueError", .type "Exception", .type "BaseException", .type "object"] true sn_NoBody sub_NoBody ab_NoBody col_NoBody dd_NoBody m0_NoBody m1_NoBody m2_NoBody m3_NoBody m5_NoBody "ValueError.__new__"))
    (sa_NoBody : PySem.W.findIn K (.ref C_NoBody) "__setattr__" = some (some (.builtin "object.__setattr__")))
    (eC_NoBody : PySem.W.subIn K (.ref C_NoBody) (.type "BaseException") = some true)
    (tC_NoBody : PySem.W.typeIn K (.ref C_NoBody) = some (.type "type"))
    (kC_NoBody : PySem.W.keepIn K (.ref C_NoBody) = true)
    (ga_NoBody : PySem.W.findIn K (.ref C_NoBody) "__getattribute__" = some (some (.builtin "BaseException.__getattribute__")))
    (gg_NoBody : PySem.W.findIn K (.ref C_NoBody) "__getattr__" = some none)
    (hC_NoBody : PySem.W.hasDictIn K C_NoBody = true)
    (hcl_NoBody : PySem.W.findIn K (.ref C_NoBody) "__class__" = some (some (.builtin "object.__class__")))
    (hmr_NoBody : PySem.W.mroIn K C_NoBody (.type "object") = some true)
    (nf_NoBody : PySem.W.findIn K (.ref C_NoBody) "place" = some none)
    (cC_NoBody : PySem.W.isClsIn K C_NoBody = true)
    (sC_NoBody : PySem.W.subIn K (.ref C_NoBody) (.ref C_NoBody) = some true)
    {fI_NoBody : Addr}
    (iI_NoBody : PySem.W.findIn K (.ref C_NoBody) "__init__" = some (some (.ref fI_NoBody)))
    (tI_NoBody : PySem.W.typeIn K (.ref fI_NoBody) = some (.type "function"))
    {odI_NoBody anI_NoBody : Option Addr} {slI_NoBody : Array (Option Value)} {ocI_NoBody dcI_NoBody pmI_NoBody cdI_NoBody ctI_NoBody : Value}
    (lI_NoBody : K.lookup fI_NoBody = some ⟨ocI_NoBody, odI_NoBody, .func (PySem.W.fnOf "__init__" "NoBody.__init__" (defArgs sInit_NoBody) (defBody sInit_NoBody) (defScope sInit_NoBody) .none .none dcI_NoBody pmI_NoBody anI_NoBody cdI_NoBody ctI_NoBody), slI_NoBody⟩)
    (cI_NoBody : PySem.W.codeIn K cdI_NoBody "NoBody.__init__" = true)
    (kI_NoBody : PySem.W.keepIn K (.ref fI_NoBody) = true)
    {C_Body : Addr}
    (aK_Body : PySem.W.nsIn K mainGlobals "Body" = some (some (.ref C_Body)))
    (pg_Body : PySem.W.plainGet K C_Body Str.empty = true)
    (hd_Body : PySem.W.hasDictIn K C_Body = true)
    (po_Body : PySem.W.plainOver K C_Body = true)
    (sa_Body : PySem.W.findIn K (.ref C_Body) "__setattr__" = some (some (.builtin "object.__setattr__")))
    (mk_Body : PySem.W.makesIn K C_Body = true)
    (kc_Body : PySem.W.keepIn K (.ref C_Body) = true)
    (ne_Body : PySem.W.findIn K (.ref C_Body) "__ne__" = some (some (.builtin "object.__ne__")))
    (ob_Body : PySem.W.mroIn K C_Body (.type "object") = some true)
    (hc_Body : PySem.W.findIn K (.ref C_Body) "__class__" = some (some (.builtin "object.__class__")))
    (dq_Body : PySem.W.subIn K (.ref C_Body) (.type "collections.deque") = some false)
    (cC_Body : PySem.W.isClsIn K C_Body = true)
    (tC_Body : PySem.W.typeIn K (.ref C_Body) = some (.type "type"))
    (n_Body_method : PySem.W.findIn K (.ref C_Body) "method" = some none)
    (n_Body_expression : PySem.W.findIn K (.ref C_Body) "expression" = some none)
    (n_Body__nodes : PySem.W.findIn K (.ref C_Body) "_nodes" = some none)
    (s_Body_str : PySem.W.subIn K (.type "str") (.ref C_Body) = some false)
    {f_Body_init : Addr}
    (a_Body_init : PySem.W.findIn K (.ref C_Body) "__init__" = some (some (.ref f_Body_init)))
    (i_Body_init : PySem.W.isFn K (.ref f_Body_init) = true)
    {od_Body_init an_Body_init : Option Addr} {sl_Body_init : Array (Option Value)} {oc_Body_init kV_Body_init dc_Body_init pm_Body_init cd_Body_init ct_Body_init : Value}
    (l_Body_init : K.lookup f_Body_init = some ⟨oc_Body_init, od_Body_init, .func (PySem.W.fnOf "__init__" "Body.__init__" (defArgs sBody___init__) (defBody sBody___init__) (defScope sBody___init__) .none kV_Body_init dc_Body_init pm_Body_init an_Body_init cd_Body_init ct_Body_init), sl_Body_init⟩)
    (c_Body_init : PySem.W.codeIn K cd_Body_init "Body.__init__" = true)
    (k_Body_init : PySem.W.keepIn K (.ref f_Body_init) = true)
    {f_Body_eq : Addr}
    (a_Body_eq : PySem.W.findIn K (.ref C_Body) "__eq__" = some (some (.ref f_Body_eq)))
    (i_Body_eq : PySem.W.isFn K (.ref f_Body_eq) = true)
    {od_Body_eq an_Body_eq : Option Addr} {sl_Body_eq : Array (Option Value)} {oc_Body_eq kV_Body_eq dc_Body_eq pm_Body_eq cd_Body_eq ct_Body_eq : Value}
    (l_Body_eq : K.lookup f_Body_eq = some ⟨oc_Body_eq, od_Body_eq, .func (PySem.W.fnOf "__eq__" "Body.__eq__" (defArgs sBody___eq__) (defBody sBody___eq__) (defScope sBody___eq__) .none kV_Body_eq dc_Body_eq pm_Body_eq an_Body_eq cd_Body_eq ct_Body_eq), sl_Body_eq⟩)
    (c_Body_eq : PySem.W.codeIn K cd_Body_eq "Body.__eq__" = true)
    (k_Body_eq : PySem.W.keepIn K (.ref f_Body_eq) = true)
    {C_Book : Addr}
    (aK_Book : PySem.W.nsIn K mainGlobals "Book" = some (some (.ref C_Book)))
    (pg_Book : PySem.W.plainGet K C_Book Str.empty = true)
    (hd_Book : PySem.W.hasDictIn K C_Book = true)
    (po_Book : PySem.W.plainOver K C_Book = true)
    (sa_Book : PySem.W.findIn K (.ref C_Book) "__setattr__" = some (some (.builtin "object.__setattr__")))
    (mk_Book : PySem.W.makesIn K C_Book = true)
    (kc_Book : PySem.W.keepIn K (.ref C_Book) = true)
    (ne_Book : PySem.W.findIn K (.ref C_Book) "__ne__" = some (some (.builtin "object.__ne__")))
    (ob_Book : PySem.W.mroIn K C_Book (.type "object") = some true)
    (hc_Book : PySem.W.findIn K (.ref C_Book) "__class__" = some (some (.builtin "object.__class__")))
    (dq_Book : PySem.W.subIn K (.ref C_Book) (.type "collections.deque") = some false)
    (cC_Book : PySem.W.isClsIn K C_Book = true)
    (tC_Book : PySem.W.typeIn K (.ref C_Book) = some (.type "type"))
    (n_Book__ways : PySem.W.findIn K (.ref C_Book) "_ways" = some none)
    (n_Book__flags : PySem.W.findIn K (.ref C_Book) "_flags" = some none)
    {f_Book_init : Addr}
    (a_Book_init : PySem.W.findIn K (.ref C_Book) "__init__" = some (some (.ref f_Book_init)))
    (i_Book_init : PySem.W.isFn K (.ref f_Book_init) = true)
    {od_Book_init an_Book_init : Option Addr} {sl_Book_init : Array (Option Value)} {oc_Book_init kV_Book_init dc_Book_init pm_Book_init cd_Book_init ct_Book_init : Value}
    (l_Book_init : K.lookup f_Book_init = some ⟨oc_Book_init, od_Book_init, .func (PySem.W.fnOf "__init__" "Book.__init__" (defArgs sBook___init__) (defBody sBook___init__) (defScope sBook___init__) .none kV_Book_init dc_Book_init pm_Book_init an_Book_init cd_Book_init ct_Book_init), sl_Book_init⟩)
    (c_Book_init : PySem.W.codeIn K cd_Book_init "Book.__init__" = true)
    (k_Book_init : PySem.W.keepIn K (.ref f_Book_init) = true)
    {f_Book_setitem : Addr}
    (a_Book_setitem : PySem.W.findIn K (.ref C_Book) "__setitem__" = some (some (.ref f_Book_setitem)))
    (i_Book_setitem : PySem.W.isFn K (.ref f_Book_setitem) = true)
    {od_Book_setitem an_Book_setitem : Option Addr} {sl_Book_setitem : Array (Option Value)} {oc_Book_setitem kV_Book_setitem dc_Book_setitem pm_Book_setitem cd_Book_setitem ct_Book_setitem : Value}
    (l_Book_setitem : K.lookup f_Book_setitem = some ⟨oc_Book_setitem, od_Book_setitem, .func (PySem.W.fnOf "__setitem__" "Book.__setitem__" (defArgs sBook___setitem__) (defBody sBook___setitem__) (defScope sBook___setitem__) .none kV_Book_setitem dc_Book_setitem pm_Book_setitem an_Book_setitem cd_Book_setitem ct_Book_setitem), sl_Book_setitem⟩)
    (c_Book_setitem : PySem.W.codeIn K cd_Book_setitem "Book.__setitem__" = true)
    (k_Book_setitem : PySem.W.keepIn K (.ref f_Book_setitem) = true)
    {f_Book_set_flag : Addr}
    (a_Book_set_flag : PySem.W.findIn K (.ref C_Book) "set_flag" = some (some (.ref f_Book_set_flag)))
    (i_Book_set_flag : PySem.W.isFn K (.ref f_Book_set_flag) = true)
    {od_Book_set_flag an_Book_set_flag : Option Addr} {sl_Book_set_flag : Array (Option Value)} {oc_Book_set_flag kV_Book_set_flag dc_Book_set_flag pm_Book_set_flag cd_Book_set_flag ct_Book_set_flag : Value}
    (l_Book_set_flag : K.lookup f_Book_set_flag = some ⟨oc_Book_set_flag, od_Book_set_flag, .func (PySem.W.fnOf "set_flag" "Book.set_flag" (defArgs sBook_set_flag) (defBody sBook_set_flag) (defScope sBook_set_flag) .none kV_Book_set_flag dc_Book_set_flag pm_Book_set_flag an_Book_set_flag cd_Book_set_flag ct_Book_set_flag), sl_Book_set_flag⟩)
    (c_Book_set_flag : PySem.W.codeIn K cd_Book_set_flag "Book.set_flag" = true)
    (k_Book_set_flag : PySem.W.keepIn K (.ref f_Book_set_flag) = true)
    {f_Book_twin : Addr}
    (a_Book_twin : PySem.W.findIn K (.ref C_Book) "twin" = some (some (.ref f_Book_twin)))
    (i_Book_twin : PySem.W.isFn K (.ref f_Book_twin) = true)
    {od_Book_twin an_Book_twin : Option Addr} {sl_Book_twin : Array (Option Value)} {oc_Book_twin kV_Book_twin dc_Book_twin pm_Book_twin cd_Book_twin ct_Book_twin : Value}
    (l_Book_twin : K.lookup f_Book_twin = some ⟨oc_Book_twin, od_Book_twin, .func (PySem.W.fnOf "twin" "Book.twin" (defArgs sBook_twin) (defBody sBook_twin) (defScope sBook_twin) .none kV_Book_twin dc_Book_twin pm_Book_twin an_Book_twin cd_Book_twin ct_Book_twin), sl_Book_twin⟩)
    (c_Book_twin : PySem.W.codeIn K cd_Book_twin "Book.twin" = true)
    (k_Book_twin : PySem.W.keepIn K (.ref f_Book_twin) = true)
    {f_Book_eq : Addr}
    (a_Book_eq : PySem.W.findIn K (.ref C_Book) "__eq__" = some (some (.ref f_Book_eq)))
    (i_Book_eq : PySem.W.isFn K (.ref f_Book_eq) = true)
    {od_Book_eq an_Book_eq : Option Addr} {sl_Book_eq : Array (Option Value)} {oc_Book_eq kV_Book_eq dc_Book_eq pm_Book_eq cd_Book_eq ct_Book_eq : Value}
    (l_Book_eq : K.lookup f_Book_eq = some ⟨oc_Book_eq, od_Book_eq, .func (PySem.W.fnOf "__eq__" "Book.__eq__" (defArgs sBook___eq__) (defBody sBook___eq__) (defScope sBook___eq__) .none kV_Book_eq dc_Book_eq pm_Book_eq an_Book_eq cd_Book_eq ct_Book_eq), sl_Book_eq⟩)
    (c_Book_eq : PySem.W.codeIn K cd_Book_eq "Book.__eq__" = true)
    (k_Book_eq : PySem.W.keepIn K (.ref f_Book_eq) = true)
    {C_Table : Addr}
    (aK_Table : PySem.W.nsIn K mainGlobals "Table" = some (some (.ref C_Table)))
    (pg_Table : PySem.W.plainGet K C_Table Str.empty = true)
    (hd_Table : PySem.W.hasDictIn K C_Table = true)
    (po_Table : PySem.W.plainOver K C_Table = true)
    (sa_Table : PySem.W.findIn K (.ref C_Table) "__setattr__" = some (some (.builtin "object.__setattr__")))
    (mk_Table : PySem.W.makesIn K C_Table = true)
    (kc_Table : PySem.W.keepIn K (.ref C_Table) = true)
    (ne_Table : PySem.W.findIn K (.ref C_Table) "__ne__" = some (some (.builtin "object.__ne__")))
    (ob_Table : PySem.W.mroIn K C_Table (.type "object") = some true)
    (hc_Table : PySem.W.findIn K (.ref C_Table) "__class__" = some (some (.builtin "object.__class__")))
    (dq_Table : PySem.W.subIn K (.ref C_Table) (.type "collections.deque") = some false)
    (cC_Table : PySem.W.isClsIn K C_Table = true)
    (tC_Table : PySem.W.typeIn K (.ref C_Table) = some (.type "type"))
    (n_Table__book : PySem.W.findIn K (.ref C_Table) "_book" = some none)
    (n_Table__names : PySem.W.findIn K (.ref C_Table) "_names" = some none)
    (n_Table__bases : PySem.W.findIn K (.ref C_Table) "_bases" = some none)
    (n_Table__orders : PySem.W.findIn K (.ref C_Table) "_orders" = some none)
    (n_Table__entries : PySem.W.findIn K (.ref C_Table) "_entries" = some none)
    {f_Table_init : Addr}
    (a_Table_init : PySem.W.findIn K (.ref C_Table) "__init__" = some (some (.ref f_Table_init)))
    (i_Table_init : PySem.W.isFn K (.ref f_Table_init) = true)
    {od_Table_init an_Table_init : Option Addr} {sl_Table_init : Array (Option Value)} {oc_Table_init kV_Table_init dc_Table_init pm_Table_init cd_Table_init ct_Table_init : Value}
    (l_Table_init : K.lookup f_Table_init = some ⟨oc_Table_init, od_Table_init, .func (PySem.W.fnOf "__init__" "Table.__init__" (defArgs sTable___init__) (defBody sTable___init__) (defScope sTable___init__) .none kV_Table_init dc_Table_init pm_Table_init an_Table_init cd_Table_init ct_Table_init), sl_Table_init⟩)
    (c_Table_init : PySem.W.codeIn K cd_Table_init "Table.__init__" = true)
    (k_Table_init : PySem.W.keepIn K (.ref f_Table_init) = true)
    {f_Table__check_class : Addr}
    (a_Table__check_class : PySem.W.findIn K (.ref C_Table) "_check_class" = some (some (.ref f_Table__check_class)))
    (i_Table__check_class : PySem.W.isFn K (.ref f_Table__check_class) = true)
    {od_Table__check_class an_Table__check_class : Option Addr} {sl_Table__check_class : Array (Option Value)} {oc_Table__check_class kV_Table__check_class dc_Table__check_class pm_Table__check_class cd_Table__check_class ct_Table__check_class : Value}
    (l_Table__check_class : K.lookup f_Table__check_class = some ⟨oc_Table__check_class, od_Table__check_class, .func (PySem.W.fnOf "_check_class" "Table._check_class" (defArgs sTable__check_class) (defBody sTable__check_class) (defScope sTable__check_class) .none kV_Table__check_class dc_Table__check_class pm_Table__check_class an_Table__check_class cd_Table__check_class ct_Table__check_class), sl_Table__check_class⟩)
    (c_Table__check_class : PySem.W.codeIn K cd_Table__check_class "Table._check_class" = true)
    (k_Table__check_class : PySem.W.keepIn K (.ref f_Table__check_class) = true)
    {f_Table_add : Addr}
    (a_Table_add : PySem.W.findIn K (.ref C_Table) "add" = some (some (.ref f_Table_add)))
    (i_Table_add : PySem.W.isFn K (.ref f_Table_add) = true)
    {od_Table_add an_Table_add : Option Addr} {sl_Table_add : Array (Option Value)} {oc_Table_add kV_Table_add dc_Table_add pm_Table_add cd_Table_add ct_Table_add : Value}
    (l_Table_add : K.lookup f_Table_add = some ⟨oc_Table_add, od_Table_add, .func (PySem.W.fnOf "add" "Table.add" (defArgs sTable_add) (defBody sTable_add) (defScope sTable_add) .none kV_Table_add dc_Table_add pm_Table_add an_Table_add cd_Table_add ct_Table_add), sl_Table_add⟩)
    (c_Table_add : PySem.W.codeIn K cd_Table_add "Table.add" = true)
    (k_Table_add : PySem.W.keepIn K (.ref f_Table_add) = true)
    {f_Table_getitem : Addr}
    (a_Table_getitem : PySem.W.findIn K (.ref C_Table) "__getitem__" = some (some (.ref f_Table_getitem)))
    (i_Table_getitem : PySem.W.isFn K (.ref f_Table_getitem) = true)
    {od_Table_getitem an_Table_getitem : Option Addr} {sl_Table_getitem : Array (Option Value)} {oc_Table_getitem kV_Table_getitem dc_Table_getitem pm_Table_getitem cd_Table_getitem ct_Table_getitem : Value}
    (l_Table_getitem : K.lookup f_Table_getitem = some ⟨oc_Table_getitem, od_Table_getitem, .func (PySem.W.fnOf "__getitem__" "Table.__getitem__" (defArgs sTable___getitem__) (defBody sTable___getitem__) (defScope sTable___getitem__) .none kV_Table_getitem dc_Table_getitem pm_Table_getitem an_Table_getitem cd_Table_getitem ct_Table_getitem), sl_Table_getitem⟩)
    (c_Table_getitem : PySem.W.codeIn K cd_Table_getitem "Table.__getitem__" = true)
    (k_Table_getitem : PySem.W.keepIn K (.ref f_Table_getitem) = true)
    {f_Table_setitem : Addr}
    (a_Table_setitem : PySem.W.findIn K (.ref C_Table) "__setitem__" = some (some (.ref f_Table_setitem)))
    (i_Table_setitem : PySem.W.isFn K (.ref f_Table_setitem) = true)
    {od_Table_setitem an_Table_setitem : Option Addr} {sl_Table_setitem : Array (Option Value)} {oc_Table_setitem kV_Table_setitem dc_Table_setitem pm_Table_setitem cd_Table_setitem ct_Table_setitem : Value}
    (l_Table_setitem : K.lookup f_Table_setitem = some ⟨oc_Table_setitem, od_Table_setitem, .func (PySem.W.fnOf "__setitem__" "Table.__setitem__" (defArgs sTable___setitem__) (defBody sTable___setitem__) (defScope sTable___setitem__) .none kV_Table_setitem dc_Table_setitem pm_Table_setitem an_Table_setitem cd_Table_setitem ct_Table_setitem), sl_Table_setitem⟩)
    (c_Table_setitem : PySem.W.codeIn K cd_Table_setitem "Table.__setitem__" = true)
    (k_Table_setitem : PySem.W.keepIn K (.ref f_Table_setitem) = true)
    {f_Table_entries : Addr}
    (a_Table_entries : PySem.W.findIn K (.ref C_Table) "entries" = some (some (.ref f_Table_entries)))
    (i_Table_entries : PySem.W.isFn K (.ref f_Table_entries) = true)
    {od_Table_entries an_Table_entries : Option Addr} {sl_Table_entries : Array (Option Value)} {oc_Table_entries kV_Table_entries dc_Table_entries pm_Table_entries cd_Table_entries ct_Table_entries : Value}
    (l_Table_entries : K.lookup f_Table_entries = some ⟨oc_Table_entries, od_Table_entries, .func (PySem.W.fnOf "entries" "Table.entries" (defArgs sTable_entries) (defBody sTable_entries) (defScope sTable_entries) .none kV_Table_entries dc_Table_entries pm_Table_entries an_Table_entries cd_Table_entries ct_Table_entries), sl_Table_entries⟩)
    (c_Table_entries : PySem.W.codeIn K cd_Table_entries "Table.entries" = true)
    (k_Table_entries : PySem.W.keepIn K (.ref f_Table_entries) = true)
    {f_Table_bases : Addr}
    (a_Table_bases : PySem.W.findIn K (.ref C_Table) "bases" = some (some (.ref f_Table_bases)))
    (i_Table_bases : PySem.W.isFn K (.ref f_Table_bases) = true)
    {od_Table_bases an_Table_bases : Option Addr} {sl_Table_bases : Array (Option Value)} {oc_Table_bases kV_Table_bases dc_Table_bases pm_Table_bases cd_Table_bases ct_Table_bases : Value}
    (l_Table_bases : K.lookup f_Table_bases = some ⟨oc_Table_bases, od_Table_bases, .func (PySem.W.fnOf "bases" "Table.bases" (defArgs sTable_bases) (defBody sTable_bases) (defScope sTable_bases) .none kV_Table_bases dc_Table_bases pm_Table_bases an_Table_bases cd_Table_bases ct_Table_bases), sl_Table_bases⟩)
    (c_Table_bases : PySem.W.codeIn K cd_Table_bases "Table.bases" = true)
    (k_Table_bases : PySem.W.keepIn K (.ref f_Table_bases) = true)
    {f_Table_order : Addr}
    (a_Table_order : PySem.W.findIn K (.ref C_Table) "order" = some (some (.ref f_Table_order)))
    (i_Table_order : PySem.W.isFn K (.ref f_Table_order) = true)
    {od_Table_order an_Table_order : Option Addr} {sl_Table_order : Array (Option Value)} {oc_Table_order kV_Table_order dc_Table_order pm_Table_order cd_Table_order ct_Table_order : Value}
    (l_Table_order : K.lookup f_Table_order = some ⟨oc_Table_order, od_Table_order, .func (PySem.W.fnOf "order" "Table.order" (defArgs sTable_order) (defBody sTable_order) (defScope sTable_order) .none kV_Table_order dc_Table_order pm_Table_order an_Table_order cd_Table_order ct_Table_order), sl_Table_order⟩)
    (c_Table_order : PySem.W.codeIn K cd_Table_order "Table.order" = true)
    (k_Table_order : PySem.W.keepIn K (.ref f_Table_order) = true)
    {f_Table_heirs : Addr}
    (a_Table_heirs : PySem.W.findIn K (.ref C_Table) "heirs" = some (some (.ref f_Table_heirs)))
    (i_Table_heirs : PySem.W.isFn K (.ref f_Table_heirs) = true)
    {od_Table_heirs an_Table_heirs : Option Addr} {sl_Table_heirs : Array (Option Value)} {oc_Table_heirs kV_Table_heirs dc_Table_heirs pm_Table_heirs cd_Table_heirs ct_Table_heirs : Value}
    (l_Table_heirs : K.lookup f_Table_heirs = some ⟨oc_Table_heirs, od_Table_heirs, .func (PySem.W.fnOf "heirs" "Table.heirs" (defArgs sTable_heirs) (defBody sTable_heirs) (defScope sTable_heirs) .none kV_Table_heirs dc_Table_heirs pm_Table_heirs an_Table_heirs cd_Table_heirs ct_Table_heirs), sl_Table_heirs⟩)
    (c_Table_heirs : PySem.W.codeIn K cd_Table_heirs "Table.heirs" = true)
    (k_Table_heirs : PySem.W.keepIn K (.ref f_Table_heirs) = true)
    {f_Table_book : Addr}
    (a_Table_book : PySem.W.findIn K (.ref C_Table) "book" = some (some (.ref f_Table_book)))
    (i_Table_book : PySem.W.isFn K (.ref f_Table_book) = true)
    {od_Table_book an_Table_book : Option Addr} {sl_Table_book : Array (Option Value)} {oc_Table_book kV_Table_book dc_Table_book pm_Table_book cd_Table_book ct_Table_book : Value}
    (l_Table_book : K.lookup f_Table_book = some ⟨oc_Table_book, od_Table_book, .func (PySem.W.fnOf "book" "Table.book" (defArgs sTable_book) (defBody sTable_book) (defScope sTable_book) .none kV_Table_book dc_Table_book pm_Table_book an_Table_book cd_Table_book ct_Table_book), sl_Table_book⟩)
    (c_Table_book : PySem.W.codeIn K cd_Table_book "Table.book" = true)
    (k_Table_book : PySem.W.keepIn K (.ref f_Table_book) = true)
    {f_Table_listed : Addr}
    (a_Table_listed : PySem.W.findIn K (.ref C_Table) "listed" = some (some (.ref f_Table_listed)))
    (i_Table_listed : PySem.W.isFn K (.ref f_Table_listed) = true)
    {od_Table_listed an_Table_listed : Option Addr} {sl_Table_listed : Array (Option Value)} {oc_Table_listed kV_Table_listed dc_Table_listed pm_Table_listed cd_Table_listed ct_Table_listed : Value}
    (l_Table_listed : K.lookup f_Table_listed = some ⟨oc_Table_listed, od_Table_listed, .func (PySem.W.fnOf "listed" "Table.listed" (defArgs sTable_listed) (defBody sTable_listed) (defScope sTable_listed) .none kV_Table_listed dc_Table_listed pm_Table_listed an_Table_listed cd_Table_listed ct_Table_listed), sl_Table_listed⟩)
    (c_Table_listed : PySem.W.codeIn K cd_Table_listed "Table.listed" = true)
    (k_Table_listed : PySem.W.keepIn K (.ref f_Table_listed) = true)
    {f_Table_contains : Addr}
    (a_Table_contains : PySem.W.findIn K (.ref C_Table) "__contains__" = some (some (.ref f_Table_contains)))
    (i_Table_contains : PySem.W.isFn K (.ref f_Table_contains) = true)
    {od_Table_contains an_Table_contains : Option Addr} {sl_Table_contains : Array (Option Value)} {oc_Table_contains kV_Table_contains dc_Table_contains pm_Table_contains cd_Table_contains ct_Table_contains : Value}
    (l_Table_contains : K.lookup f_Table_contains = some ⟨oc_Table_contains, od_Table_contains, .func (PySem.W.fnOf "__contains__" "Table.__contains__" (defArgs sTable___contains__) (defBody sTable___contains__) (defScope sTable___contains__) .none kV_Table_contains dc_Table_contains pm_Table_contains an_Table_contains cd_Table_contains ct_Table_contains), sl_Table_contains⟩)
    (c_Table_contains : PySem.W.codeIn K cd_Table_contains "Table.__contains__" = true)
    (k_Table_contains : PySem.W.keepIn K (.ref f_Table_contains) = true)
    {f_Table_len : Addr}
    (a_Table_len : PySem.W.findIn K (.ref C_Table) "__len__" = some (some (.ref f_Table_len)))
    (i_Table_len : PySem.W.isFn K (.ref f_Table_len) = true)
    {od_Table_len an_Table_len : Option Addr} {sl_Table_len : Array (Option Value)} {oc_Table_len kV_Table_len dc_Table_len pm_Table_len cd_Table_len ct_Table_len : Value}
    (l_Table_len : K.lookup f_Table_len = some ⟨oc_Table_len, od_Table_len, .func (PySem.W.fnOf "__len__" "Table.__len__" (defArgs sTable___len__) (defBody sTable___len__) (defScope sTable___len__) .none kV_Table_len dc_Table_len pm_Table_len an_Table_len cd_Table_len ct_Table_len), sl_Table_len⟩)
    (c_Table_len : PySem.W.codeIn K cd_Table_len "Table.__len__" = true)
    (k_Table_len : PySem.W.keepIn K (.ref f_Table_len) = true)
    {p_METHODS : Addr} {d_METHODS : Option Addr} {i_METHODS : Array Value} {n_METHODS : Nat} {s_METHODS : Array (Option Value)}
    (a_METHODS : PySem.W.nsIn K mainGlobals "METHODS" = some (some (.ref p_METHODS)))
    (l_METHODS : K.lookup p_METHODS = some ⟨.type "tuple", d_METHODS, .seq i_METHODS n_METHODS, s_METHODS⟩)
    (z_METHODS : i_METHODS.size ≤ sizeLine)
    (v_METHODS : Vals (methods.map V.str) i_METHODS.toList)
    {p_OTHER_TAKERS : Addr} {d_OTHER_TAKERS : Option Addr} {i_OTHER_TAKERS : Array Value} {n_OTHER_TAKERS : Nat} {s_OTHER_TAKERS : Array (Option Value)}
    (a_OTHER_TAKERS : PySem.W.nsIn K mainGlobals "OTHER_TAKERS" = some (some (.ref p_OTHER_TAKERS)))
    (l_OTHER_TAKERS : K.lookup p_OTHER_TAKERS = some ⟨.type "tuple", d_OTHER_TAKERS, .seq i_OTHER_TAKERS n_OTHER_TAKERS, s_OTHER_TAKERS⟩)
    (z_OTHER_TAKERS : i_OTHER_TAKERS.size ≤ sizeLine)
    (v_OTHER_TAKERS : Vals (others.map V.str) i_OTHER_TAKERS.toList)
    {p_DECLINERS : Addr} {d_DECLINERS : Option Addr} {i_DECLINERS : Array Value} {n_DECLINERS : Nat} {s_DECLINERS : Array (Option Value)}
    (a_DECLINERS : PySem.W.nsIn K mainGlobals "DECLINERS" = some (some (.ref p_DECLINERS)))
    (l_DECLINERS : K.lookup p_DECLINERS = some ⟨.type "tuple", d_DECLINERS, .seq i_DECLINERS n_DECLINERS, s_DECLINERS⟩)
    (z_DECLINERS : i_DECLINERS.size ≤ sizeLine)
    (v_DECLINERS : Vals (decliners.map V.str) i_DECLINERS.toList)
    {p_BODY_KINDS : Addr} {d_BODY_KINDS : Option Addr} {i_BODY_KINDS : Array Value} {n_BODY_KINDS : Nat} {s_BODY_KINDS : Array (Option Value)}
    (a_BODY_KINDS : PySem.W.nsIn K mainGlobals "BODY_KINDS" = some (some (.ref p_BODY_KINDS)))
    (l_BODY_KINDS : K.lookup p_BODY_KINDS = some ⟨.type "tuple", d_BODY_KINDS, .seq i_BODY_KINDS n_BODY_KINDS, s_BODY_KINDS⟩)
    (z_BODY_KINDS : i_BODY_KINDS.size ≤ sizeLine)
    (v_BODY_KINDS : Vals (bodyKinds.map V.str) i_BODY_KINDS.toList)
    {p_ANSWER_WORDS : Addr} {d_ANSWER_WORDS : Option Addr} {i_ANSWER_WORDS : Array Value} {n_ANSWER_WORDS : Nat} {s_ANSWER_WORDS : Array (Option Value)}
    (a_ANSWER_WORDS : PySem.W.nsIn K mainGlobals "ANSWER_WORDS" = some (some (.ref p_ANSWER_WORDS)))
    (l_ANSWER_WORDS : K.lookup p_ANSWER_WORDS = some ⟨.type "tuple", d_ANSWER_WORDS, .seq i_ANSWER_WORDS n_ANSWER_WORDS, s_ANSWER_WORDS⟩)
    (z_ANSWER_WORDS : i_ANSWER_WORDS.size ≤ sizeLine)
    (v_ANSWER_WORDS : Vals (answerW.map V.str) i_ANSWER_WORDS.toList)
    {p_ASKED_OF_ONE : Addr} {d_ASKED_OF_ONE : Option Addr} {i_ASKED_OF_ONE : Array Value} {n_ASKED_OF_ONE : Nat} {s_ASKED_OF_ONE : Array (Option Value)}
    (a_ASKED_OF_ONE : PySem.W.nsIn K mainGlobals "ASKED_OF_ONE" = some (some (.ref p_ASKED_OF_ONE)))
    (l_ASKED_OF_ONE : K.lookup p_ASKED_OF_ONE = some ⟨.type "tuple", d_ASKED_OF_ONE, .seq i_ASKED_OF_ONE n_ASKED_OF_ONE, s_ASKED_OF_ONE⟩)
    (z_ASKED_OF_ONE : i_ASKED_OF_ONE.size ≤ sizeLine)
    (v_ASKED_OF_ONE : Vals (askOne.map V.str) i_ASKED_OF_ONE.toList)
    {p_ASKED_OF_TWO : Addr} {d_ASKED_OF_TWO : Option Addr} {i_ASKED_OF_TWO : Array Value} {n_ASKED_OF_TWO : Nat} {s_ASKED_OF_TWO : Array (Option Value)}
    (a_ASKED_OF_TWO : PySem.W.nsIn K mainGlobals "ASKED_OF_TWO" = some (some (.ref p_ASKED_OF_TWO)))
    (l_ASKED_OF_TWO : K.lookup p_ASKED_OF_TWO = some ⟨.type "tuple", d_ASKED_OF_TWO, .seq i_ASKED_OF_TWO n_ASKED_OF_TWO, s_ASKED_OF_TWO⟩)
    (z_ASKED_OF_TWO : i_ASKED_OF_TWO.size ≤ sizeLine)
    (v_ASKED_OF_TWO : Vals (askTwo.map V.str) i_ASKED_OF_TWO.toList)
    {p_OPERATIONS : Addr} {d_OPERATIONS : Option Addr} {i_OPERATIONS : Array Value} {n_OPERATIONS : Nat} {s_OPERATIONS : Array (Option Value)}
    (a_OPERATIONS : PySem.W.nsIn K mainGlobals "OPERATIONS" = some (some (.ref p_OPERATIONS)))
    (l_OPERATIONS : K.lookup p_OPERATIONS = some ⟨.type "tuple", d_OPERATIONS, .seq i_OPERATIONS n_OPERATIONS, s_OPERATIONS⟩)
    (z_OPERATIONS : i_OPERATIONS.size ≤ sizeLine)
    (v_OPERATIONS : Vals (ops.map V.str) i_OPERATIONS.toList)
    {p_FLAGS : Addr} {d_FLAGS : Option Addr} {i_FLAGS : Array Value} {n_FLAGS : Nat} {s_FLAGS : Array (Option Value)}
    (a_FLAGS : PySem.W.nsIn K mainGlobals "FLAGS" = some (some (.ref p_FLAGS)))
    (l_FLAGS : K.lookup p_FLAGS = some ⟨.type "tuple", d_FLAGS, .seq i_FLAGS n_FLAGS, s_FLAGS⟩)
    (z_FLAGS : i_FLAGS.size ≤ sizeLine)
    (v_FLAGS : Vals (flagsW.map V.str) i_FLAGS.toList)
    {p_ENTRY_WORDS : Addr} {d_ENTRY_WORDS : Option Addr} {i_ENTRY_WORDS : Array Value} {n_ENTRY_WORDS : Nat} {s_ENTRY_WORDS : Array (Option Value)}
    (a_ENTRY_WORDS : PySem.W.nsIn K mainGlobals "ENTRY_WORDS" = some (some (.ref p_ENTRY_WORDS)))
    (l_ENTRY_WORDS : K.lookup p_ENTRY_WORDS = some ⟨.type "tuple", d_ENTRY_WORDS, .seq i_ENTRY_WORDS n_ENTRY_WORDS, s_ENTRY_WORDS⟩)
    (z_ENTRY_WORDS : i_ENTRY_WORDS.size ≤ sizeLine)
    (v_ENTRY_WORDS : Vals (entW.map V.str) i_ENTRY_WORDS.toList)
    {p_MENUS : Addr} {e_MENUS : Array DictEntry} {n_MENUS : Nat}
    (a_MENUS : PySem.W.nsIn K mainGlobals "MENUS" = some (some (.ref p_MENUS)))
    (l_MENUS : K.lookup p_MENUS = some ⟨.type "dict", none, .dict e_MENUS n_MENUS, #[]⟩)
    (y_MENUS : PySem.W.KeysLit w.params e_MENUS.toList)
    {q_MENUS_truth : Addr} {d_MENUS_truth : Option Addr} {i_MENUS_truth : Array Value} {n_MENUS_truth : Nat} {s_MENUS_truth : Array (Option Value)}
    (g_MENUS_truth : PySem.W.nsIn K p_MENUS "truth" = some (some (.ref q_MENUS_truth)))
    (l_MENUS_truth : K.lookup q_MENUS_truth = some ⟨.type "tuple", d_MENUS_truth, .seq i_MENUS_truth n_MENUS_truth, s_MENUS_truth⟩)
    (z_MENUS_truth : i_MENUS_truth.size ≤ sizeLine)
    (v_MENUS_truth : Vals ((menu "truth").map V.str) i_MENUS_truth.toList)
    {q_MENUS_size : Addr} {d_MENUS_size : Option Addr} {i_MENUS_size : Array Value} {n_MENUS_size : Nat} {s_MENUS_size : Array (Option Value)}
    (g_MENUS_size : PySem.W.nsIn K p_MENUS "size" = some (some (.ref q_MENUS_size)))
    (l_MENUS_size : K.lookup q_MENUS_size = some ⟨.type "tuple", d_MENUS_size, .seq i_MENUS_size n_MENUS_size, s_MENUS_size⟩)
    (z_MENUS_size : i_MENUS_size.size ≤ sizeLine)
    (v_MENUS_size : Vals ((menu "size").map V.str) i_MENUS_size.toList)
    {q_MENUS_each : Addr} {d_MENUS_each : Option Addr} {i_MENUS_each : Array Value} {n_MENUS_each : Nat} {s_MENUS_each : Array (Option Value)}
    (g_MENUS_each : PySem.W.nsIn K p_MENUS "each" = some (some (.ref q_MENUS_each)))
    (l_MENUS_each : K.lookup q_MENUS_each = some ⟨.type "tuple", d_MENUS_each, .seq i_MENUS_each n_MENUS_each, s_MENUS_each⟩)
    (z_MENUS_each : i_MENUS_each.size ≤ sizeLine)
    (v_MENUS_each : Vals ((menu "each").map V.str) i_MENUS_each.toList)
    {q_MENUS_turned : Addr} {d_MENUS_turned : Option Addr} {i_MENUS_turned : Array Value} {n_MENUS_turned : Nat} {s_MENUS_turned : Array (Option Value)}
    (g_MENUS_turned : PySem.W.nsIn K p_MENUS "turned" = some (some (.ref q_MENUS_turned)))
    (l_MENUS_turned : K.lookup q_MENUS_turned = some ⟨.type "tuple", d_MENUS_turned, .seq i_MENUS_turned n_MENUS_turned, s_MENUS_turned⟩)
    (z_MENUS_turned : i_MENUS_turned.size ≤ sizeLine)
    (v_MENUS_turned : Vals ((menu "turned").map V.str) i_MENUS_turned.toList)
    {q_MENUS_hash : Addr} {d_MENUS_hash : Option Addr} {i_MENUS_hash : Array Value} {n_MENUS_hash : Nat} {s_MENUS_hash : Array (Option Value)}
    (g_MENUS_hash : PySem.W.nsIn K p_MENUS "hash" = some (some (.ref q_MENUS_hash)))
    (l_MENUS_hash : K.lookup q_MENUS_hash = some ⟨.type "tuple", d_MENUS_hash, .seq i_MENUS_hash n_MENUS_hash, s_MENUS_hash⟩)
    (z_MENUS_hash : i_MENUS_hash.size ≤ sizeLine)
    (v_MENUS_hash : Vals ((menu "hash").map V.str) i_MENUS_hash.toList)
    {q_MENUS_call : Addr} {d_MENUS_call : Option Addr} {i_MENUS_call : Array Value} {n_MENUS_call : Nat} {s_MENUS_call : Array (Option Value)}
    (g_MENUS_call : PySem.W.nsIn K p_MENUS "call" = some (some (.ref q_MENUS_call)))
    (l_MENUS_call : K.lookup q_MENUS_call = some ⟨.type "tuple", d_MENUS_call, .seq i_MENUS_call n_MENUS_call, s_MENUS_call⟩)
    (z_MENUS_call : i_MENUS_call.size ≤ sizeLine)
    (v_MENUS_call : Vals ((menu "call").map V.str) i_MENUS_call.toList)
    {q_MENUS_member : Addr} {d_MENUS_member : Option Addr} {i_MENUS_member : Array Value} {n_MENUS_member : Nat} {s_MENUS_member : Array (Option Value)}
    (g_MENUS_member : PySem.W.nsIn K p_MENUS "member" = some (some (.ref q_MENUS_member)))
    (l_MENUS_member : K.lookup q_MENUS_member = some ⟨.type "tuple", d_MENUS_member, .seq i_MENUS_member n_MENUS_member, s_MENUS_member⟩)
    (z_MENUS_member : i_MENUS_member.size ≤ sizeLine)
    (v_MENUS_member : Vals ((menu "member").map V.str) i_MENUS_member.toList)
    {q_MENUS_like : Addr} {d_MENUS_like : Option Addr} {i_MENUS_like : Array Value} {n_MENUS_like : Nat} {s_MENUS_like : Array (Option Value)}
    (g_MENUS_like : PySem.W.nsIn K p_MENUS "like" = some (some (.ref q_MENUS_like)))
    (l_MENUS_like : K.lookup q_MENUS_like = some ⟨.type "tuple", d_MENUS_like, .seq i_MENUS_like n_MENUS_like, s_MENUS_like⟩)
    (z_MENUS_like : i_MENUS_like.size ≤ sizeLine)
    (v_MENUS_like : Vals ((menu "like").map V.str) i_MENUS_like.toList)
    {q_MENUS_unlike : Addr} {d_MENUS_unlike : Option Addr} {i_MENUS_unlike : Array Value} {n_MENUS_unlike : Nat} {s_MENUS_unlike : Array (Option Value)}
    (g_MENUS_unlike : PySem.W.nsIn K p_MENUS "unlike" = some (some (.ref q_MENUS_unlike)))
    (l_MENUS_unlike : K.lookup q_MENUS_unlike = some ⟨.type "tuple", d_MENUS_unlike, .seq i_MENUS_unlike n_MENUS_unlike, s_MENUS_unlike⟩)
    (z_MENUS_unlike : i_MENUS_unlike.size ≤ sizeLine)
    (v_MENUS_unlike : Vals ((menu "unlike").map V.str) i_MENUS_unlike.toList)
    {q_MENUS_before : Addr} {d_MENUS_before : Option Addr} {i_MENUS_before : Array Value} {n_MENUS_before : Nat} {s_MENUS_before : Array (Option Value)}
    (g_MENUS_before : PySem.W.nsIn K p_MENUS "before" = some (some (.ref q_MENUS_before)))
    (l_MENUS_before : K.lookup q_MENUS_before = some ⟨.type "tuple", d_MENUS_before, .seq i_MENUS_before n_MENUS_before, s_MENUS_before⟩)
    (z_MENUS_before : i_MENUS_before.size ≤ sizeLine)
    (v_MENUS_before : Vals ((menu "before").map V.str) i_MENUS_before.toList)
    {q_MENUS_behind : Addr} {d_MENUS_behind : Option Addr} {i_MENUS_behind : Array Value} {n_MENUS_behind : Nat} {s_MENUS_behind : Array (Option Value)}
    (g_MENUS_behind : PySem.W.nsIn K p_MENUS "behind" = some (some (.ref q_MENUS_behind)))
    (l_MENUS_behind : K.lookup q_MENUS_behind = some ⟨.type "tuple", d_MENUS_behind, .seq i_MENUS_behind n_MENUS_behind, s_MENUS_behind⟩)
    (z_MENUS_behind : i_MENUS_behind.size ≤ sizeLine)
    (v_MENUS_behind : Vals ((menu "behind").map V.str) i_MENUS_behind.toList)
    {q_MENUS_grow : Addr} {d_MENUS_grow : Option Addr} {i_MENUS_grow : Array Value} {n_MENUS_grow : Nat} {s_MENUS_grow : Array (Option Value)}
    (g_MENUS_grow : PySem.W.nsIn K p_MENUS "grow" = some (some (.ref q_MENUS_grow)))
    (l_MENUS_grow : K.lookup q_MENUS_grow = some ⟨.type "tuple", d_MENUS_grow, .seq i_MENUS_grow n_MENUS_grow, s_MENUS_grow⟩)
    (z_MENUS_grow : i_MENUS_grow.size ≤ sizeLine)
    (v_MENUS_grow : Vals ((menu "grow").map V.str) i_MENUS_grow.toList)
    {t_MOST_COUNT : Tok}
    (a_MOST_COUNT : PySem.W.nsIn K mainGlobals "MOST_COUNT" = some (some (.int 4 t_MOST_COUNT)))
    {t_MOST_NODES : Tok}
    (a_MOST_NODES : PySem.W.nsIn K mainGlobals "MOST_NODES" = some (some (.int 16 t_MOST_NODES)))
    {t_MOST_DEPTH : Tok}
    (a_MOST_DEPTH : PySem.W.nsIn K mainGlobals "MOST_DEPTH" = some (some (.int 6 t_MOST_DEPTH)))
    {t_MOST_LETTERS : Tok}
    (a_MOST_LETTERS : PySem.W.nsIn K mainGlobals "MOST_LETTERS" = some (some (.int 6 t_MOST_LETTERS)))
    {t_MOST_CLASSES : Tok}
    (a_MOST_CLASSES : PySem.W.nsIn K mainGlobals "MOST_CLASSES" = some (some (.int 8 t_MOST_CLASSES)))
    {p_KINDS : Addr} {e_KINDS : Array DictEntry} {n_KINDS : Nat}
    (a_KINDS : PySem.W.nsIn K mainGlobals "KINDS" = some (some (.ref p_KINDS)))
    (l_KINDS : K.lookup p_KINDS = some ⟨.type "dict", none, .dict e_KINDS n_KINDS, #[]⟩)
    (y_KINDS : PySem.W.KeysLit w.params e_KINDS.toList)
    {t_KINDS_truth : Tok}
    (g_KINDS_truth : PySem.W.nsIn K p_KINDS "truth" = some (some (.str "flag" t_KINDS_truth)))
    {t_KINDS_length : Tok}
    (g_KINDS_length : PySem.W.nsIn K p_KINDS "length" = some (some (.str "count" t_KINDS_length)))
    {t_KINDS_item : Tok}
    (g_KINDS_item : PySem.W.nsIn K p_KINDS "item" = some (some (.str "item" t_KINDS_item)))
    {t_KINDS_walk : Tok}
    (g_KINDS_walk : PySem.W.nsIn K p_KINDS "walk" = some (some (.str "walker" t_KINDS_walk)))
    {t_KINDS_back : Tok}
    (g_KINDS_back : PySem.W.nsIn K p_KINDS "back" = some (some (.str "walker" t_KINDS_back)))
    {t_KINDS_has : Tok}
    (g_KINDS_has : PySem.W.nsIn K p_KINDS "has" = some (some (.str "flag" t_KINDS_has)))
    {t_KINDS_like : Tok}
    (g_KINDS_like : PySem.W.nsIn K p_KINDS "like" = some (some (.str "flag" t_KINDS_like)))
    {t_KINDS_unlike : Tok}
    (g_KINDS_unlike : PySem.W.nsIn K p_KINDS "unlike" = some (some (.str "flag" t_KINDS_unlike)))
    {t_KINDS_before : Tok}
    (g_KINDS_before : PySem.W.nsIn K p_KINDS "before" = some (some (.str "flag" t_KINDS_before)))
    {t_KINDS_behind : Tok}
    (g_KINDS_behind : PySem.W.nsIn K p_KINDS "behind" = some (some (.str "flag" t_KINDS_behind)))
    {t_KINDS_hash : Tok}
    (g_KINDS_hash : PySem.W.nsIn K p_KINDS "hash" = some (some (.str "count" t_KINDS_hash)))
    {t_KINDS_grow : Tok}
    (g_KINDS_grow : PySem.W.nsIn K p_KINDS "grow" = some (some (.str "any" t_KINDS_grow)))
    {t_KINDS_plus : Tok}
    (g_KINDS_plus : PySem.W.nsIn K p_KINDS "plus" = some (some (.str "any" t_KINDS_plus)))
    {t_KINDS_call : Tok}
    (g_KINDS_call : PySem.W.nsIn K p_KINDS "call" = some (some (.str "any" t_KINDS_call)))
    {p_PARTS : Addr} {e_PARTS : Array DictEntry} {n_PARTS : Nat}
    (a_PARTS : PySem.W.nsIn K mainGlobals "PARTS" = some (some (.ref p_PARTS)))
    (l_PARTS : K.lookup p_PARTS = some ⟨.type "dict", none, .dict e_PARTS n_PARTS, #[]⟩)
    (y_PARTS : PySem.W.KeysLit w.params e_PARTS.toList)
    {t_PARTS_not : Tok}
    (g_PARTS_not : PySem.W.nsIn K p_PARTS "not" = some (some (.int 1 t_PARTS_not)))
    {t_PARTS_if : Tok}
    (g_PARTS_if : PySem.W.nsIn K p_PARTS "if" = some (some (.int 3 t_PARTS_if)))
    (x_PARTS : e_PARTS.toList.map keyTxt = [some ("not" : Str), some ("if" : Str)])
    (o_PARTS : (p_PARTS == sysModules) = false)
    : ∃ fd : FuncData, (∀ (s : Shared) (u : Value), BindsTo s fd ⟨[u], []⟩ [("_law_script", u)]) ∧ ∀ base : Heap, K.In base → base.Ns mainGlobals mg → FnG l.prog w K mg base CX0 15 fa fd ["_law_script"] (spLaw K) := by
  have e := hfa.symm.trans (PySem.W.mg_of X G a46)
  cases e
  have T : Txt K mg := { int := PySem.W.mg_none_of X G z_int, len := PySem.W.mg_none_of X G z_len, max := PySem.W.mg_none_of X G z_max, min := PySem.W.mg_none_of X G z_min, isinstance := PySem.W.mg_none_of X G z_isinstance, range := PySem.W.mg_none_of X G z_range, list := PySem.W.mg_none_of X G z_list, dict := PySem.W.mg_none_of X G z_dict, tuple := PySem.W.mg_none_of X G z_tuple, set := PySem.W.mg_none_of X G z_set, str := PySem.W.mg_none_of X G z_str, bool := PySem.W.mg_none_of X G z_bool, repr := PySem.W.mg_none_of X G z_repr, all := PySem.W.mg_none_of X G z_all, any := PySem.W.mg_none_of X G z_any, sum := PySem.W.mg_none_of X G z_sum, zip := PySem.W.mg_none_of X G z_zip, enumerate := PySem.W.mg_none_of X G z_enumerate }
  have D_is_number : DefAt K mg "is_number" sIs_number ["value"] := defAt X G (fun _ _ _ _ _ _ us hl => match us, hl with | [_], _ => rfl) a1 l1 c1 k1
  have D_is_word : DefAt K mg "is_word" sIs_word ["value"] := defAt X G (fun _ _ _ _ _ _ us hl => match us, hl with | [_], _ => rfl) a2 l2 c2 k2
  have D_is_one_of : DefAt K mg "is_one_of" sIs_one_of ["value", "words"] := defAt X G (fun _ _ _ _ _ _ us hl => match us, hl with | [_, _], _ => rfl) a3 l3 c3 k3
  have D_check_flag : DefAt K mg "check_flag" sCheck_flag ["value"] := defAt X G (fun _ _ _ _ _ _ us hl => match us, hl with | [_], _ => rfl) a4 l4 c4 k4
  have D_check_method : DefAt K mg "check_method" sCheck_method ["method"] := defAt X G (fun _ _ _ _ _ _ us hl => match us, hl with | [_], _ => rfl) a5 l5 c5 k5
  have D_check_operation : DefAt K mg "check_operation" sCheck_operation ["operation"] := defAt X G (fun _ _ _ _ _ _ us hl => match us, hl with | [_], _ => rfl) a6 l6 c6 k6
  have D_kind_of : DefAt K mg "kind_of" sKind_of ["method"] := defAt X G (fun _ _ _ _ _ _ us hl => match us, hl with | [_], _ => rfl) a7 l7 c7 k7
  have D_takes_other : DefAt K mg "takes_other" sTakes_other ["method"] := defAt X G (fun _ _ _ _ _ _ us hl => match us, hl with | [_], _ => rfl) a8 l8 c8 k8
  have D_may_decline : DefAt K mg "may_decline" sMay_decline ["method"] := defAt X G (fun _ _ _ _ _ _ us hl => match us, hl with | [_], _ => rfl) a9 l9 c9 k9
  have D_is_count : DefAt K mg "is_count" sIs_count ["value"] := defAt X G (fun _ _ _ _ _ _ us hl => match us, hl with | [_], _ => rfl) a10 l10 c10 k10
  have D_check_body_method : DefAt K mg "check_body_method" sCheck_body_method ["method"] := defAt X G (fun _ _ _ _ _ _ us hl => match us, hl with | [_], _ => rfl) a11 l11 c11 k11
  have D__is_role : DefAt K mg "_is_role" sIs_role ["method", "value"] := defAt X G (fun _ _ _ _ _ _ us hl => match us, hl with | [_, _], _ => rfl) a12 l12 c12 k12
  have D__is_ask : DefAt K mg "_is_ask" sIs_ask ["method", "node"] := defAt X G (fun _ _ _ _ _ _ us hl => match us, hl with | [_, _], _ => rfl) a13 l13 c13 k13
  have D__is_word_alone : DefAt K mg "_is_word_alone" sIs_word_alone ["method", "word", "tail"] := defAt X G (fun _ _ _ _ _ _ us hl => match us, hl with | [_, _, _], _ => rfl) a14 l14 c14 k14
  have D__is_node : DefAt K mg "_is_node" sIs_node ["method", "node", "tail"] := defAt X G (fun _ _ _ _ _ _ us hl => match us, hl with | [_, _, _], _ => rfl) a15 l15 c15 k15
  have D__parts : DefAt K mg "_parts" sParts ["node"] := defAt X G (fun _ _ _ _ _ _ us hl => match us, hl with | [_], _ => rfl) a16 l16 c16 k16
  have D__tails : DefAt K mg "_tails" sTails ["node", "tail"] := defAt X G (fun _ _ _ _ _ _ us hl => match us, hl with | [_, _], _ => rfl) a17 l17 c17 k17
  have D__first_wrong : DefAt K mg "_first_wrong" sFirst_wrong ["method", "expression"] := defAt X G (fun _ _ _ _ _ _ us hl => match us, hl with | [_, _], _ => rfl) a18 l18 c18 k18
  have D__numbered : DefAt K mg "_numbered" sNumbered ["node", "number"] := defAt X G (fun _ _ _ _ _ _ us hl => match us, hl with | [_, _], _ => rfl) a19 l19 c19 k19
  have D_are_ways : DefAt K mg "are_ways" sAre_ways ["operation", "value"] := defAt X G (fun _ _ _ _ _ _ us hl => match us, hl with | [_, _], _ => rfl) a20 l20 c20 k20
  have D_check_book : DefAt K mg "check_book" sCheck_book ["book"] := defAt X G (fun _ _ _ _ _ _ us hl => match us, hl with | [_], _ => rfl) a21 l21 c21 k21
  have D__free_head : DefAt K mg "_free_head" sFree_head ["rows"] := defAt X G (fun _ _ _ _ _ _ us hl => match us, hl with | [_], _ => rfl) a22 l22 c22 k22
  have D__without : DefAt K mg "_without" sWithout ["rows", "name"] := defAt X G (fun _ _ _ _ _ _ us hl => match us, hl with | [_, _], _ => rfl) a23 l23 c23 k23
  have D_merged : DefAt K mg "merged" sMerged ["rows"] := defAt X G (fun _ _ _ _ _ _ us hl => match us, hl with | [_], _ => rfl) a24 l24 c24 k24
  have D_order_of : DefAt K mg "order_of" sOrder_of ["name", "bases"] := defAt X G (fun _ _ _ _ _ _ us hl => match us, hl with | [_, _], _ => rfl) a25 l25 c25 k25
  have D_is_entry : DefAt K mg "is_entry" sIs_entry ["method", "value"] := defAt X G (fun _ _ _ _ _ _ us hl => match us, hl with | [_, _], _ => rfl) a26 l26 c26 k26
  have D_L_pool : DefAt K mg "_law_pool" sL_pool ["_law_script", "_law_k"] := defAt X G (fun _ _ _ _ _ _ us hl => match us, hl with | [_, _], _ => rfl) a27 l27 c27 k27
  have D_L_take : DefAt K mg "_law_take" sL_take ["_law_pool_here", "_law_many"] := defAt X G (fun _ _ _ _ _ _ us hl => match us, hl with | [_, _], _ => rfl) a28 l28 c28 k28
  have D_L_one : DefAt K mg "_law_one" sL_one ["_law_pool_here", "_law_some"] := defAt X G (fun _ _ _ _ _ _ us hl => match us, hl with | [_, _], _ => rfl) a29 l29 c29 k29
  have D_L_words : DefAt K mg "_law_words" sL_words ["_law_pool_here", "_law_many"] := defAt X G (fun _ _ _ _ _ _ us hl => match us, hl with | [_, _], _ => rfl) a30 l30 c30 k30
  have D_L_menus : DefAt K mg "_law_menus" sL_menus [] := defAt X G (fun _ _ _ _ _ _ us hl => match us, hl with | [], _ => rfl) a31 l31 c31 k31
  have D_L_book_of : DefAt K mg "_law_book_of" sL_book_of ["_law_pool_here"] := defAt X G (fun _ _ _ _ _ _ us hl => match us, hl with | [_], _ => rfl) a32 l32 c32 k32
  have D_L_leaf : DefAt K mg "_law_leaf" sL_leaf ["_law_pool_here", "_law_method", "_law_at_tail"] := defAt X G (fun _ _ _ _ _ _ us hl => match us, hl with | [_, _, _], _ => rfl) a33 l33 c33 k33
  have D_L_asking : DefAt K mg "_law_asking" sL_asking ["_law_pool_here", "_law_method"] := defAt X G (fun _ _ _ _ _ _ us hl => match us, hl with | [_, _], _ => rfl) a34 l34 c34 k34
  have D_L_part : DefAt K mg "_law_part" sL_part ["_law_pool_here", "_law_method", "_law_deep", "_law_at_tail"] := defAt X G (fun _ _ _ _ _ _ us hl => match us, hl with | [_, _, _, _], _ => rfl) a35 l35 c35 k35
  have D_L_methods : DefAt K mg "_law_methods" sL_methods [] := defAt X G (fun _ _ _ _ _ _ us hl => match us, hl with | [], _ => rfl) a36 l36 c36 k36
  have D_L_merge : DefAt K mg "_law_merge" sL_merge ["_law_rows"] := defAt X G (fun _ _ _ _ _ _ us hl => match us, hl with | [_], _ => rfl) a37 l37 c37 k37
  have D_L_entry : DefAt K mg "_law_entry" sL_entry ["_law_pool_here", "_law_method"] := defAt X G (fun _ _ _ _ _ _ us hl => match us, hl with | [_, _], _ => rfl) a38 l38 c38 k38
  have D_L_bases : DefAt K mg "_law_bases" sL_bases ["_law_pool_here", "_law_own_here", "_law_name", "_law_ahead"] := defAt X G (fun _ _ _ _ _ _ us hl => match us, hl with | [_, _, _, _], _ => rfl) a39 l39 c39 k39
  have D_L_own : DefAt K mg "_law_own" sL_own ["_law_pool_here", "_law_many"] := defAt X G (fun _ _ _ _ _ _ us hl => match us, hl with | [_, _], _ => rfl) a40 l40 c40 k40
  have D_L_book : DefAt K mg "_law_book" sL_book ["_law_own_here"] := defAt X G (fun _ _ _ _ _ _ us hl => match us, hl with | [_], _ => rfl) a41 l41 c41 k41
  have D_L_put : DefAt K mg "_law_put" sL_put ["_law_table_here", "_law_key", "_law_entry_here"] := defAt X G (fun _ _ _ _ _ _ us hl => match us, hl with | [_, _, _], _ => rfl) a42 l42 c42 k42
  have D_L_table : DefAt K mg "_law_table" sL_table ["_law_own_here"] := defAt X G (fun _ _ _ _ _ _ us hl => match us, hl with | [_], _ => rfl) a43 l43 c43 k43
  have D_L_entry_due : DefAt K mg "_law_entry_due" sL_entry_due ["_law_own_here", "_law_key"] := defAt X G (fun _ _ _ _ _ _ us hl => match us, hl with | [_, _], _ => rfl) a44 l44 c44 k44
  have D_L_right : DefAt K mg "_law_right" sL_right ["_law_table_here", "_law_own_here"] := defAt X G (fun _ _ _ _ _ _ us hl => match us, hl with | [_, _], _ => rfl) a45 l45 c45 k45
  have FL := fun_mk (st := sLaw) l46 c46 k46
  have T_NoName : Ex.ErrC K mg "NoName" "value" C_NoName := { t := ⟨⟨nm_NoName, q_NoName, N_NoName, bs_NoName, _, sn_NoName, sub_NoName, ab_NoName, col_NoName, dd_NoName, m0_NoName, m1_NoName, m2_NoName, m3_NoName, m5_NoName, xL_NoName, by rfl⟩, sa_NoName, eC_NoName, tC_NoName, kC_NoName⟩, xf := ⟨ga_NoName, gg_NoName, eC_NoName, hC_NoName⟩, ic := ⟨ga_NoName, gg_NoName, eC_NoName, hC_NoName, hcl_NoName, hsp, htk, hmr_NoName⟩, no := nf_NoName, g := PySem.W.mg_of X G aC_NoName, te := exm_own eC_NoName cC_NoName tC_NoName sC_NoName }
  have FI_NoName := fun_mk (st := sInit_NoName) lI_NoName cI_NoName kI_NoName
  have bI_NoName := FI_NoName.binds (ps := ["self", "value"]) fun _ _ _ _ _ _ us hl => match us, hl with | [_, _], _ => rfl
  have T_NoWays : Ex.ErrC K mg "NoWays" "operation" C_NoWays := { t := ⟨⟨nm_NoWays, q_NoWays, N_NoWays, bs_NoWays, _, sn_NoWays, sub_NoWays, ab_NoWays, col_NoWays, dd_NoWays, m0_NoWays, m1_NoWays, m2_NoWays, m3_NoWays, m5_NoWays, xL_NoWays, by rfl⟩, sa_NoWays, eC_NoWays, tC_NoWays, kC_NoWays⟩, xf := ⟨ga_NoWays, gg_NoWays, eC_NoWays, hC_NoWays⟩, ic := ⟨ga_NoWays, gg_NoWays, eC_NoWays, hC_NoWays, hcl_NoWays, hsp, htk, hmr_NoWays⟩, no := nf_NoWays, g := PySem.W.mg_of X G aC_NoWays, te := exm_own eC_NoWays cC_NoWays tC_NoWays sC_NoWays }
  have FI_NoWays := fun_mk (st := sInit_NoWays) lI_NoWays cI_NoWays kI_NoWays
  have bI_NoWays := FI_NoWays.binds (ps := ["self", "operation"]) fun _ _ _ _ _ _ us hl => match us, hl with | [_, _], _ => rfl
  have T_NoFlag : Ex.ErrC K mg "NoFlag" "value" C_NoFlag := { t := ⟨⟨nm_NoFlag, q_NoFlag, N_NoFlag, bs_NoFlag, _, sn_NoFlag, sub_NoFlag, ab_NoFlag, col_NoFlag, dd_NoFlag, m0_NoFlag, m1_NoFlag, m2_NoFlag, m3_NoFlag, m5_NoFlag, xL_NoFlag, by rfl⟩, sa_NoFlag, eC_NoFlag, tC_NoFlag, kC_NoFlag⟩, xf := ⟨ga_NoFlag, gg_NoFlag, eC_NoFlag, hC_NoFlag⟩, ic := ⟨ga_NoFlag, gg_NoFlag, eC_NoFlag, hC_NoFlag, hcl_NoFlag, hsp, htk, hmr_NoFlag⟩, no := nf_NoFlag, g := PySem.W.mg_of X G aC_NoFlag, te := exm_own eC_NoFlag cC_NoFlag tC_NoFlag sC_NoFlag }
  have FI_NoFlag := fun_mk (st := sInit_NoFlag) lI_NoFlag cI_NoFlag kI_NoFlag
  have bI_NoFlag := FI_NoFlag.binds (ps := ["self", "value"]) fun _ _ _ _ _ _ us hl => match us, hl with | [_, _], _ => rfl
  have T_NoBody : Ex.ErrC K mg "NoBody" "place" C_NoBody := { t := ⟨⟨nm_NoBody, q_NoBody, N_NoBody, bs_NoBody, _, sn_NoBody, sub_NoBody, ab_NoBody, col_NoBody, dd_NoBody, m0_NoBody, m1_NoBody, m2_NoBody, m3_NoBody, m5_NoBody, xL_NoBody, by rfl⟩, sa_NoBody, eC_NoBody, tC_NoBody, kC_NoBody⟩, xf := ⟨ga_NoBody, gg_NoBody, eC_NoBody, hC_NoBody⟩, ic := ⟨ga_NoBody, gg_NoBody, eC_NoBody, hC_NoBody, hcl_NoBody, hsp, htk, hmr_NoBody⟩, no := nf_NoBody, g := PySem.W.mg_of X G aC_NoBody, te := exm_own eC_NoBody cC_NoBody tC_NoBody sC_NoBody }
  have FI_NoBody := fun_mk (st := sInit_NoBody) lI_NoBody cI_NoBody kI_NoBody
  have bI_NoBody := FI_NoBody.binds (ps := ["self", "place"]) fun _ _ _ _ _ _ us hl => match us, hl with | [_, _], _ => rfl
  have S_METHODS := sqT_of l_METHODS z_METHODS v_METHODS
  have S_OTHER_TAKERS := sqT_of l_OTHER_TAKERS z_OTHER_TAKERS v_OTHER_TAKERS
  have S_DECLINERS := sqT_of l_DECLINERS z_DECLINERS v_DECLINERS
  have S_BODY_KINDS := sqT_of l_BODY_KINDS z_BODY_KINDS v_BODY_KINDS
  have S_ANSWER_WORDS := sqT_of l_ANSWER_WORDS z_ANSWER_WORDS v_ANSWER_WORDS
  have S_ASKED_OF_ONE := sqT_of l_ASKED_OF_ONE z_ASKED_OF_ONE v_ASKED_OF_ONE
  have S_ASKED_OF_TWO := sqT_of l_ASKED_OF_TWO z_ASKED_OF_TWO v_ASKED_OF_TWO
  have S_OPERATIONS := sqT_of l_OPERATIONS z_OPERATIONS v_OPERATIONS
  have S_FLAGS := sqT_of l_FLAGS z_FLAGS v_FLAGS
  have S_ENTRY_WORDS := sqT_of l_ENTRY_WORDS z_ENTRY_WORDS v_ENTRY_WORDS
  have F_Body_init := fun_mk (st := sBody___init__) l_Body_init c_Body_init k_Body_init
  have b_Body_init_ := F_Body_init.binds (ps := ["self", "method", "expression"]) fun _ _ _ _ _ _ us hl => match us, hl with | [_, _, _], _ => rfl
  have F_Body_eq := fun_mk (st := sBody___eq__) l_Body_eq c_Body_eq k_Body_eq
  have b_Body_eq_ := F_Body_eq.binds (ps := ["self", "other"]) fun _ _ _ _ _ _ us hl => match us, hl with | [_, _], _ => rfl
  have cl_Body : L2.Cls K C_Body := ⟨pg_Body, hd_Body, po_Body, sa_Body⟩
  have F_Book_init := fun_mk (st := sBook___init__) l_Book_init c_Book_init k_Book_init
  have b_Book_init_ := F_Book_init.binds (ps := ["self"]) fun _ _ _ _ _ _ us hl => match us, hl with | [_], _ => rfl
  have F_Book_setitem := fun_mk (st := sBook___setitem__) l_Book_setitem c_Book_setitem k_Book_setitem
  have b_Book_setitem_ := F_Book_setitem.binds (ps := ["self", "operation", "ways"]) fun _ _ _ _ _ _ us hl => match us, hl with | [_, _, _], _ => rfl
  have F_Book_set_flag := fun_mk (st := sBook_set_flag) l_Book_set_flag c_Book_set_flag k_Book_set_flag
  have b_Book_set_flag_ := F_Book_set_flag.binds (ps := ["self", "word", "value"]) fun _ _ _ _ _ _ us hl => match us, hl with | [_, _, _], _ => rfl
  have F_Book_twin := fun_mk (st := sBook_twin) l_Book_twin c_Book_twin k_Book_twin
  have b_Book_twin_ := F_Book_twin.binds (ps := ["self"]) fun _ _ _ _ _ _ us hl => match us, hl with | [_], _ => rfl
  have F_Book_eq := fun_mk (st := sBook___eq__) l_Book_eq c_Book_eq k_Book_eq
  have b_Book_eq_ := F_Book_eq.binds (ps := ["self", "other"]) fun _ _ _ _ _ _ us hl => match us, hl with | [_, _], _ => rfl
  have cl_Book : L2.Cls K C_Book := ⟨pg_Book, hd_Book, po_Book, sa_Book⟩
  have F_Table_init := fun_mk (st := sTable___init__) l_Table_init c_Table_init k_Table_init
  have b_Table_init_ := F_Table_init.binds (ps := ["self", "book"]) fun _ _ _ _ _ _ us hl => match us, hl with | [_, _], _ => rfl
  have F_Table__check_class := fun_mk (st := sTable__check_class) l_Table__check_class c_Table__check_class k_Table__check_class
  have b_Table__check_class_ := F_Table__check_class.binds (ps := ["self", "name"]) fun _ _ _ _ _ _ us hl => match us, hl with | [_, _], _ => rfl
  have F_Table_add := fun_mk (st := sTable_add) l_Table_add c_Table_add k_Table_add
  have b_Table_add_ := StX.bind_star2 (B := fun us => bindArgs (PySem.W.fnOf "add" "Table.add" (defArgs sTable_add) (defBody sTable_add) (defScope sTable_add) .none kV_Table_add dc_Table_add pm_Table_add an_Table_add cd_Table_add ct_Table_add) ⟨us, []⟩) (p1 := "self") (p2 := "name") (pv := "bases") (fun _ _ => rfl) (fun _ _ _ _ => rfl)
  have F_Table_getitem := fun_mk (st := sTable___getitem__) l_Table_getitem c_Table_getitem k_Table_getitem
  have b_Table_getitem_ := F_Table_getitem.binds (ps := ["self", "at"]) fun _ _ _ _ _ _ us hl => match us, hl with | [_, _], _ => rfl
  have F_Table_setitem := fun_mk (st := sTable___setitem__) l_Table_setitem c_Table_setitem k_Table_setitem
  have b_Table_setitem_ := F_Table_setitem.binds (ps := ["self", "at", "worth"]) fun _ _ _ _ _ _ us hl => match us, hl with | [_, _, _], _ => rfl
  have F_Table_entries := fun_mk (st := sTable_entries) l_Table_entries c_Table_entries k_Table_entries
  have b_Table_entries_ := F_Table_entries.binds (ps := ["self", "name"]) fun _ _ _ _ _ _ us hl => match us, hl with | [_, _], _ => rfl
  have F_Table_bases := fun_mk (st := sTable_bases) l_Table_bases c_Table_bases k_Table_bases
  have b_Table_bases_ := F_Table_bases.binds (ps := ["self", "name"]) fun _ _ _ _ _ _ us hl => match us, hl with | [_, _], _ => rfl
  have F_Table_order := fun_mk (st := sTable_order) l_Table_order c_Table_order k_Table_order
  have b_Table_order_ := F_Table_order.binds (ps := ["self", "name"]) fun _ _ _ _ _ _ us hl => match us, hl with | [_, _], _ => rfl
  have F_Table_heirs := fun_mk (st := sTable_heirs) l_Table_heirs c_Table_heirs k_Table_heirs
  have b_Table_heirs_ := F_Table_heirs.binds (ps := ["self", "name"]) fun _ _ _ _ _ _ us hl => match us, hl with | [_, _], _ => rfl
  have F_Table_book := fun_mk (st := sTable_book) l_Table_book c_Table_book k_Table_book
  have b_Table_book_ := F_Table_book.binds (ps := ["self"]) fun _ _ _ _ _ _ us hl => match us, hl with | [_], _ => rfl
  have F_Table_listed := fun_mk (st := sTable_listed) l_Table_listed c_Table_listed k_Table_listed
  have b_Table_listed_ := F_Table_listed.binds (ps := ["self"]) fun _ _ _ _ _ _ us hl => match us, hl with | [_], _ => rfl
  have F_Table_contains := fun_mk (st := sTable___contains__) l_Table_contains c_Table_contains k_Table_contains
  have b_Table_contains_ := F_Table_contains.binds (ps := ["self", "value"]) fun _ _ _ _ _ _ us hl => match us, hl with | [_, _], _ => rfl
  have F_Table_len := fun_mk (st := sTable___len__) l_Table_len c_Table_len k_Table_len
  have b_Table_len_ := F_Table_len.binds (ps := ["self"]) fun _ _ _ _ _ _ us hl => match us, hl with | [_], _ => rfl
  have cl_Table : L2.Cls K C_Table := ⟨pg_Table, hd_Table, po_Table, sa_Table⟩
  refine ⟨PySem.W.fnOf "law" "law" (defArgs sLaw) (defBody sLaw) (defScope sLaw) .none kV46 dc46 pm46 an46 cd46 ct46, fun s v => .of_eq rfl, fun base _ _ => ?_⟩
  have M_NoName : Ex.InitOk l.prog w K mg base "value" C_NoName := ⟨fI_NoName, _, iI_NoName, tI_NoName, ok_init_NoName T_NoName FI_NoName, bI_NoName⟩
  have M_NoWays : Ex.InitOk l.prog w K mg base "operation" C_NoWays := ⟨fI_NoWays, _, iI_NoWays, tI_NoWays, ok_init_NoWays T_NoWays FI_NoWays, bI_NoWays⟩
  have M_NoFlag : Ex.InitOk l.prog w K mg base "value" C_NoFlag := ⟨fI_NoFlag, _, iI_NoFlag, tI_NoFlag, ok_init_NoFlag T_NoFlag FI_NoFlag, bI_NoFlag⟩
  have M_NoBody : Ex.InitOk l.prog w K mg base "place" C_NoBody := ⟨fI_NoBody, _, iI_NoBody, tI_NoBody, ok_init_NoBody T_NoBody FI_NoBody, bI_NoBody⟩

  have tK : ∀ s ∈ methods, KDct K w p_KINDS s (.str (kindOf s)) := by
    intro s hs
    simp only [methods, List.mem_cons, List.not_mem_nil, or_false] at hs
    rcases hs with rfl | rfl | rfl | rfl | rfl | rfl | rfl | rfl | rfl | rfl | rfl | rfl | rfl | rfl
    · exact kdct_of l_KINDS y_KINDS g_KINDS_truth ⟨_, rfl⟩
    · exact kdct_of l_KINDS y_KINDS g_KINDS_length ⟨_, rfl⟩
    · exact kdct_of l_KINDS y_KINDS g_KINDS_item ⟨_, rfl⟩
    · exact kdct_of l_KINDS y_KINDS g_KINDS_walk ⟨_, rfl⟩
    · exact kdct_of l_KINDS y_KINDS g_KINDS_back ⟨_, rfl⟩
    · exact kdct_of l_KINDS y_KINDS g_KINDS_has ⟨_, rfl⟩
    · exact kdct_of l_KINDS y_KINDS g_KINDS_like ⟨_, rfl⟩
    · exact kdct_of l_KINDS y_KINDS g_KINDS_unlike ⟨_, rfl⟩
    · exact kdct_of l_KINDS y_KINDS g_KINDS_before ⟨_, rfl⟩
    · exact kdct_of l_KINDS y_KINDS g_KINDS_behind ⟨_, rfl⟩
    · exact kdct_of l_KINDS y_KINDS g_KINDS_hash ⟨_, rfl⟩
    · exact kdct_of l_KINDS y_KINDS g_KINDS_grow ⟨_, rfl⟩
    · exact kdct_of l_KINDS y_KINDS g_KINDS_plus ⟨_, rfl⟩
    · exact kdct_of l_KINDS y_KINDS g_KINDS_call ⟨_, rfl⟩
  have pt : PartsA K w mg p_PARTS := by
    refine ⟨PySem.W.mg_of X G a_PARTS, ⟨_, _, l_PARTS, y_PARTS, o_PARTS⟩, ?_, kdct_of l_PARTS y_PARTS g_PARTS_not ⟨_, rfl⟩, kdct_of l_PARTS y_PARTS g_PARTS_if ⟨_, rfl⟩⟩
    intro z _
    obtain ⟨h1, h2⟩ := ns_of l_PARTS (ks := ["not", "if"]) x_PARTS z
    by_cases hz : z ∈ partW
    · obtain ⟨v, hv⟩ := h2 hz
      exact ⟨_, hv, (decide_eq_true hz).symm⟩
    · exact ⟨_, h1 hz, (decide_eq_false hz).symm⟩
  let gM : Str → Addr := fun o => if o = "truth" then q_MENUS_truth else if o = "size" then q_MENUS_size else if o = "each" then q_MENUS_each else if o = "turned" then q_MENUS_turned else if o = "hash" then q_MENUS_hash else if o = "call" then q_MENUS_call else if o = "member" then q_MENUS_member else if o = "like" then q_MENUS_like else if o = "unlike" then q_MENUS_unlike else if o = "before" then q_MENUS_before else if o = "behind" then q_MENUS_behind else if o = "grow" then q_MENUS_grow else 0
  have tm : MenusAt K w p_MENUS gM := by
    intro o ho
    simp only [ops, List.mem_cons, List.not_mem_nil, or_false] at ho
    rcases ho with rfl | rfl | rfl | rfl | rfl | rfl | rfl | rfl | rfl | rfl | rfl | rfl
    · exact ⟨kdct_of l_MENUS y_MENUS g_MENUS_truth rfl, sqT_of l_MENUS_truth z_MENUS_truth v_MENUS_truth⟩
    · exact ⟨kdct_of l_MENUS y_MENUS g_MENUS_size rfl, sqT_of l_MENUS_size z_MENUS_size v_MENUS_size⟩
    · exact ⟨kdct_of l_MENUS y_MENUS g_MENUS_each rfl, sqT_of l_MENUS_each z_MENUS_each v_MENUS_each⟩
    · exact ⟨kdct_of l_MENUS y_MENUS g_MENUS_turned rfl, sqT_of l_MENUS_turned z_MENUS_turned v_MENUS_turned⟩
    · exact ⟨kdct_of l_MENUS y_MENUS g_MENUS_hash rfl, sqT_of l_MENUS_hash z_MENUS_hash v_MENUS_hash⟩
    · exact ⟨kdct_of l_MENUS y_MENUS g_MENUS_call rfl, sqT_of l_MENUS_call z_MENUS_call v_MENUS_call⟩
    · exact ⟨kdct_of l_MENUS y_MENUS g_MENUS_member rfl, sqT_of l_MENUS_member z_MENUS_member v_MENUS_member⟩
    · exact ⟨kdct_of l_MENUS y_MENUS g_MENUS_like rfl, sqT_of l_MENUS_like z_MENUS_like v_MENUS_like⟩
    · exact ⟨kdct_of l_MENUS y_MENUS g_MENUS_unlike rfl, sqT_of l_MENUS_unlike z_MENUS_unlike v_MENUS_unlike⟩
    · exact ⟨kdct_of l_MENUS y_MENUS g_MENUS_before rfl, sqT_of l_MENUS_before z_MENUS_before v_MENUS_before⟩
    · exact ⟨kdct_of l_MENUS y_MENUS g_MENUS_behind rfl, sqT_of l_MENUS_behind z_MENUS_behind v_MENUS_behind⟩
    · exact ⟨kdct_of l_MENUS y_MENUS g_MENUS_grow rfl, sqT_of l_MENUS_grow z_MENUS_grow v_MENUS_grow⟩
  have tb : Tb K w mg p_OPERATIONS p_MENUS p_FLAGS gM := ⟨PySem.W.mg_of X G a_OPERATIONS, PySem.W.mg_of X G a_MENUS, PySem.W.mg_of X G a_FLAGS, S_OPERATIONS, S_FLAGS, tm⟩
  have B : BF K mg C_Book := { cl := cl_Book, g := PySem.W.mg_of X G aK_Book, ne := ne_Book, ob := ob_Book, n1 := n_Book__ways, n2 := n_Book__flags }
  have BB : BdF K mg C_Body := { cl := cl_Body, g := PySem.W.mg_of X G aK_Body, ne := ne_Body, ob := ob_Body, n1 := n_Body_method, n2 := n_Body_expression, n3 := n_Body__nodes }
  have KT : TF K mg C_Table := { cl := cl_Table, g := PySem.W.mg_of X G aK_Table, ne := ne_Table, ob := ob_Table, n1 := n_Table__book, n2 := n_Table__names, n3 := n_Table__bases, n4 := n_Table__orders, n5 := n_Table__entries }
  have icK : BkIC K C_Book := ⟨hc_Book, hsp, htk⟩
  have icB : BIC K C_Body := ⟨hc_Body, hsp, htk⟩
  have fi : ∀ {f : Addr} {oc : Value} {od : Option Addr} {fd : FuncData} {sl : Array (Option Value)}, K.lookup f = some ⟨oc, od, .func fd, sl⟩ → PySem.W.fnIn K f = true := fun h => by
    unfold PySem.W.fnIn
    rw [h]
  have E_num := ok_number (P := l.prog) (w := w) (base := base) T D_is_number
  have E_one := ok_one_of (P := l.prog) (w := w) (base := base) T D_is_one_of
  have E_oneL := ok_one_ofL (P := l.prog) (w := w) (base := base) T D_is_one_of
  have E_word := ok_word (P := l.prog) (w := w) (base := base) T (PySem.W.mg_of X G a_MOST_LETTERS) D_is_word
  have E_cm := ok_check_method T (PySem.W.mg_of X G a_METHODS) S_METHODS T_NoName M_NoName D_check_method E_one
  have E_kind := ok_kind_of T (PySem.W.mg_of X G a_KINDS) tK D_kind_of E_cm
  have E_take := ok_takes_other T (PySem.W.mg_of X G a_OTHER_TAKERS) S_OTHER_TAKERS D_takes_other E_cm
  have E_may := ok_may_decline T (PySem.W.mg_of X G a_DECLINERS) S_DECLINERS D_may_decline E_cm
  have E_cnt := ok_count T (PySem.W.mg_of X G a_MOST_COUNT) D_is_count E_num
  have E_role := ok_role T D__is_role E_take E_one
  have E_ask := ok_ask T (PySem.W.mg_of X G a_ASKED_OF_ONE) S_ASKED_OF_ONE (PySem.W.mg_of X G a_ASKED_OF_TWO) S_ASKED_OF_TWO D__is_ask E_role E_one
  have E_alone := ok_alone T (PySem.W.mg_of X G a_ANSWER_WORDS) S_ANSWER_WORDS D__is_word_alone E_may
  have E_node := ok_node T pt D__is_node E_cnt E_ask E_alone
  have E_parts := ok_parts (P := l.prog) (base := base) T pt D__parts
  have E_partsN := CalG.imp E_parts parts_nd
  have E_tails := ok_tails T D__tails E_parts
  have E_first := ok_first T (PySem.W.mg_of X G a_MOST_NODES) (PySem.W.mg_of X G a_MOST_DEPTH) D__first_wrong E_parts E_tails E_node
  have E_numb := ok_numb T D__numbered E_partsN 6
  have E_cb := ok_checkB T (PySem.W.mg_of X G a_BODY_KINDS) S_BODY_KINDS T_NoName M_NoName D_check_body_method E_kind
  have IB : Ob.MkCal l.prog w K mg base (L2.CX l.prog w) C_Body 9 "Body" (spBInit K C_Body C_NoName C_NoBody) := ⟨_, _, _, ok_bdinit T BB T_NoBody M_NoBody E_cb E_first E_numb ⟨F_Body_init, b_Body_init_⟩, ⟨mk_Body, a_Body_init, i_Body_init, kc_Body⟩, b_Body_init_, PySem.W.mg_of X G aK_Body⟩
  have QBd : Ob.EqCal l.prog w K mg base CX0 C_Body 1 (spBEq K C_Body) := ⟨_, _, _, ok_beq T BB icB ⟨F_Body_eq, b_Body_eq_⟩, a_Body_eq, i_Body_eq, b_Body_eq_⟩
  have EqB : EqOk l.prog w K mg base C_Body := ⟨_, _, _, ok_beqK T BB icB ⟨F_Body_eq, b_Body_eq_⟩, a_Body_eq, i_Body_eq, b_Body_eq_⟩
  have E_cf := ok_check_flag T T_NoFlag M_NoFlag D_check_flag
  have E_co := ok_check_operation T tb.o tb.to T_NoName M_NoName D_check_operation E_one
  have E_aw := ok_are_ways T tb.m tm D_are_ways E_one
  have IBk : Ob.MkCal l.prog w K mg base CX0 C_Book 1 "Book" (spBkInit C_Book gM) := ⟨_, _, _, ok_binit T B tb ⟨F_Book_init, b_Book_init_⟩, ⟨mk_Book, a_Book_init, i_Book_init, kc_Book⟩, b_Book_init_, PySem.W.mg_of X G aK_Book⟩
  have UB : Ob.GetCal l.prog w K mg base (L2.CX l.prog w) C_Book 4 "__setitem__" (spBkSet K C_Book C_NoName C_NoWays) := ⟨_, _, _, ok_bkset T B T_NoWays M_NoWays E_co E_aw ⟨F_Book_setitem, b_Book_setitem_⟩, ⟨⟨a_Book_setitem, beq_iff_eq.mp i_Book_setitem⟩, dq_Book, fi l_Book_setitem⟩, b_Book_setitem_⟩
  have MF : Ob.MCal l.prog w K mg base (L2.CX l.prog w) C_Book 4 "set_flag" (spSetFlag K C_Book C_NoName C_NoFlag) := ⟨_, _, _, ok_set_flag B tb T_NoName M_NoName E_one E_cf ⟨F_Book_set_flag, b_Book_set_flag_⟩, ⟨a_Book_set_flag, i_Book_set_flag, k_Book_set_flag⟩, b_Book_set_flag_⟩
  have MTw : Ob.MCal l.prog w K mg base CX0 C_Book 3 "twin" (spBkTwin K C_Book) := ⟨_, _, _, ok_bktwin T B tb IBk ⟨F_Book_twin, b_Book_twin_⟩, ⟨a_Book_twin, i_Book_twin, k_Book_twin⟩, b_Book_twin_⟩
  have QBk : Ob.EqCal l.prog w K mg base CX0 C_Book 1 (spBkEq K C_Book) := ⟨_, _, _, ok_bkeq T B icK ⟨F_Book_eq, b_Book_eq_⟩, a_Book_eq, i_Book_eq, b_Book_eq_⟩
  have E_cbk := ok_check_book (P := l.prog) (w := w) (base := base) T B icK D_check_book
  have E_free := ok_free (P := l.prog) (w := w) (base := base) T D__free_head
  have E_wo := ok_without (P := l.prog) (w := w) (base := base) T D__without
  have E_mg := ok_merged T D_merged E_free E_wo
  have E_ord := ok_order T D_order_of E_mg 9
  have E_ie := ok_is_entry T (PySem.W.mg_of X G a_ENTRY_WORDS) S_ENTRY_WORDS BB icB (kit_ty cC_Body tC_Body s_Body_str).1 D_is_entry E_one
  have IT : Ob.MkCal l.prog w K mg base CX0 C_Table 4 "Table" (spTInit K C_Table C_Body C_Book) := ⟨_, _, _, ok_tinit T KT B E_cbk MTw ⟨F_Table_init, b_Table_init_⟩, ⟨mk_Table, a_Table_init, i_Table_init, kc_Table⟩, b_Table_init_, PySem.W.mg_of X G aK_Table⟩
  have MCC : Ob.MCal l.prog w K mg base CX0 C_Table 2 "_check_class" (spCC K C_Table C_Body C_Book) := ⟨_, _, _, ok_cc T KT E_oneL ⟨F_Table__check_class, b_Table__check_class_⟩, ⟨a_Table__check_class, i_Table__check_class, k_Table__check_class⟩, b_Table__check_class_⟩
  have MAd : Sm.MCalS l.prog w K mg base CX0 C_Table 13 "add" (Sm.spStar 2 (spAdd K C_Table C_Body C_Book)) := ⟨f_Table_add, ok_add T (PySem.W.mg_of X G a_MOST_CLASSES) KT E_word E_ord MCC F_Table_add b_Table_add_, ⟨a_Table_add, i_Table_add, k_Table_add⟩⟩
  have GT : Ob.GetCal l.prog w K mg base CX0 C_Table 4 "__getitem__" (spTGet K C_Table C_Body C_Book) := ⟨_, _, _, ok_tget T KT E_cm MCC ⟨F_Table_getitem, b_Table_getitem_⟩, ⟨⟨a_Table_getitem, beq_iff_eq.mp i_Table_getitem⟩, dq_Table, fi l_Table_getitem⟩, b_Table_getitem_⟩
  have UT : Ob.GetCal l.prog w K mg base CX0 C_Table 4 "__setitem__" (spTSet K C_Table C_Body C_Book) := ⟨_, _, _, ok_tset T KT E_cm E_ie MCC ⟨F_Table_setitem, b_Table_setitem_⟩, ⟨⟨a_Table_setitem, beq_iff_eq.mp i_Table_setitem⟩, dq_Table, fi l_Table_setitem⟩, b_Table_setitem_⟩
  have MEn : Ob.MCal l.prog w K mg base CX0 C_Table 3 "entries" (spTEnts K C_Table C_Body C_Book) := ⟨_, _, _, ok_tents KT (PySem.W.mg_of X G a_METHODS) S_METHODS MCC ⟨F_Table_entries, b_Table_entries_⟩, ⟨a_Table_entries, i_Table_entries, k_Table_entries⟩, b_Table_entries_⟩
  have MBs : Ob.MCal l.prog w K mg base CX0 C_Table 3 "bases" (spTBases K C_Table C_Body C_Book) := ⟨_, _, _, ok_tbases KT MCC ⟨F_Table_bases, b_Table_bases_⟩, ⟨a_Table_bases, i_Table_bases, k_Table_bases⟩, b_Table_bases_⟩
  have MOr : Ob.MCal l.prog w K mg base CX0 C_Table 3 "order" (spTOrder K C_Table C_Body C_Book) := ⟨_, _, _, ok_torder T KT MCC ⟨F_Table_order, b_Table_order_⟩, ⟨a_Table_order, i_Table_order, k_Table_order⟩, b_Table_order_⟩
  have MHe : Ob.MCal l.prog w K mg base CX0 C_Table 3 "heirs" (spTHeirs K C_Table C_Body C_Book) := ⟨_, _, _, ok_theirs KT MCC ⟨F_Table_heirs, b_Table_heirs_⟩, ⟨a_Table_heirs, i_Table_heirs, k_Table_heirs⟩, b_Table_heirs_⟩
  have MBk : Ob.MCal l.prog w K mg base CX0 C_Table 4 "book" (spTBook K C_Table C_Body C_Book) := ⟨_, _, _, ok_tbook KT B MTw ⟨F_Table_book, b_Table_book_⟩, ⟨a_Table_book, i_Table_book, k_Table_book⟩, b_Table_book_⟩
  have MLs : Ob.MCal l.prog w K mg base CX0 C_Table 1 "listed" (spTListed K C_Table C_Body C_Book) := ⟨_, _, _, ok_tlisted T KT ⟨F_Table_listed, b_Table_listed_⟩, ⟨a_Table_listed, i_Table_listed, k_Table_listed⟩, b_Table_listed_⟩
  have NT : Sm.InCal l.prog w K mg base CX0 C_Table 2 (spTHas K C_Table C_Body C_Book) := ⟨_, _, _, ok_thas KT E_oneL ⟨F_Table_contains, b_Table_contains_⟩, a_Table_contains, i_Table_contains, b_Table_contains_⟩
  have LT : Ob.LenCal l.prog w K mg base CX0 C_Table 1 (spTLen K C_Table C_Body C_Book) := ⟨_, _, _, ok_tlen T KT ⟨F_Table_len, b_Table_len_⟩, a_Table_len, i_Table_len, b_Table_len_⟩
  have E_pool := ok_pool (P := l.prog) (w := w) (base := base) T D_L_pool
  have E_ltake := ok_take (P := l.prog) (w := w) (base := base) T D_L_take
  have E_lone := ok_one T D_L_one E_ltake
  have E_lwords := ok_words T D_L_words E_ltake
  have E_menus := ok_menus (P := l.prog) (w := w) (base := base) D_L_menus
  have E_book_of := ok_book_of T D_L_book_of E_menus E_ltake
  have E_leaf := ok_leaf T D_L_leaf E_ltake E_lone
  have E_asking := ok_asking T D_L_asking E_ltake E_lone
  have E_part := ok_part T D_L_part E_ltake E_leaf E_asking 2
  have E_meths := ok_methods (P := l.prog) (w := w) (base := base) D_L_methods
  have E_merge := Lm.ok_merge (P := l.prog) (w := w) (base := base) T D_L_merge
  have E_entry := ok_entry T D_L_entry E_ltake E_part
  have E_bases := ok_lbases T D_L_bases E_ltake E_lone E_merge
  have E_own := ok_own T D_L_own E_book_of E_lwords E_bases E_meths E_entry
  have E_book := ok_lbook T B tb IBk UB MF D_L_book
  have E_put := ok_put T UT IB D_L_put
  have E_table := ok_table T KT E_book IT MAd E_put D_L_table
  have E_due := ok_due T IB D_L_entry_due
  have E_right := ok_right T KT B BB icK icB EqB QBd QBk LT NT GT MLs MBk MBs MOr MHe MEn E_book E_meths E_due D_L_right
  exact ok_law T KT B tb IBk IT MAd MBs MOr MHe E_pool E_ltake E_own E_table E_right FL
end Ab
open PySem PySem.W PyProof.Rows
open Lean in
local macro_rules
  | `(tactic| first | $t:tacticSeq | fail $s:str) => do
    if s.getString.startsWith "open_kl: no head takes this row (the" then
      let q := mkIdent `hq7
      `(tactic| (($t:tacticSeq); refine id ?$q))
    else Macro.throwUnsupported
set_option maxRecDepth 100000 in
set_option maxHeartbeats 0 in
theorem PySem.Challenge.cw_answersby_k07_tables_built_holds : PySem.Challenge.rw_answersby_k07_tables_built.Holds := by
  w_on; o_law; k_headL; (case hw => w_witness2)
  case hq7 =>
    refine HeadRun.left_oneK (M := 14600) (by kernel_rfl) (by rfl) (fun s => by kernel_rfl) (by rfl) ?q7
    refine byRow2 "special-get-raises" ?q8 ?q9; (case q8 => exact Head7.ra); (case q9 => exact Head7.rb)
  k_fill
  refine Gk.walkG (l := PySem.Challenge.rw_answersby_k07_tables_built) (n := 63) (k := 15) (x := "_law_script") (sp := fun w => Ab.spLaw _) rfl (by decide) rfl ⟨rfl, by decide, by decide⟩ (fun w h Y => PySem.W.kIn_of Y) ?F (fun w H a ns hl _ hS => ⟨a, ns, rfl, hS, hl, fun _ => rfl⟩)
  case F =>
    intro w mg fa h KX G hmg
    refine' Ab.all_mk KX G hmg ?a1 ?l1 ?c1 ?k1 ?a2 ?l2 ?c2 ?k2 ?a3 ?l3 ?c3 ?k3 ?a4 ?l4 ?c4 ?k4 ?a5 ?l5 ?c5 ?k5 ?a6 ?l6 ?c6 ?k6 ?a7 ?l7 ?c7 ?k7 ?a8 ?l8 ?c8 ?k8 ?a9 ?l9 ?c9 ?k9 ?a10 ?l10 ?c10 ?k10 ?a11 ?l11 ?c11 ?k11 ?a12 ?l12 ?c12 ?k12 ?a13 ?l13 ?c13 ?k13 ?a14 ?l14 ?c14 ?k14 ?a15 ?l15 ?c15 ?k15 ?a16 ?l16 ?c16 ?k16 ?a17 ?l17 ?c17 ?k17 ?a18 ?l18 ?c18 ?k18 ?a19 ?l19 ?c19 ?k19 ?a20 ?l20 ?c20 ?k20 ?a21 ?l21 ?c21 ?k21 ?a22 ?l22 ?c22 ?k22 ?a23 ?l23 ?c23 ?k23 ?a24 ?l24 ?c24 ?k24 ?a25 ?l25 ?c25 ?k25 ?a26 ?l26 ?c26 ?k26 ?a27 ?l27 ?c27 ?k27 ?a28 ?l28 ?c28 ?k28 ?a29 ?l29 ?c29 ?k29 ?a30 ?l30 ?c30 ?k30 ?a31 ?l31 ?c31 ?k31 ?a32 ?l32 ?c32 ?k32 ?a33 ?l33 ?c33 ?k33 ?a34 ?l34 ?c34 ?k34 ?a35 ?l35 ?c35 ?k35 ?a36 ?l36 ?c36 ?k36 ?a37 ?l37 ?c37 ?k37 ?a38 ?l38 ?c38 ?k38 ?a39 ?l39 ?c39 ?k39 ?a40 ?l40 ?c40 ?k40 ?a41 ?l41 ?c41 ?k41 ?a42 ?l42 ?c42 ?k42 ?a43 ?l43 ?c43 ?k43 ?a44 ?l44 ?c44 ?k44 ?a45 ?l45 ?c45 ?k45 ?a46 ?l46 ?c46 ?k46 ?z_int ?z_len ?z_max ?z_min ?z_isinstance ?z_range ?z_list ?z_dict ?z_tuple ?z_set ?z_str ?z_bool ?z_repr ?z_all ?z_any ?z_sum ?z_zip ?z_enumerate ?aA ?hsp ?htk ?aC_NoName ?xL_NoName ?sa_NoName ?eC_NoName ?tC_NoName ?kC_NoName ?ga_NoName ?gg_NoName ?hC_NoName ?hcl_NoName ?hmr_NoName ?nf_NoName ?cC_NoName ?sC_NoName ?iI_NoName ?tI_NoName ?lI_NoName ?cI_NoName ?kI_NoName ?aC_NoWays ?xL_NoWays ?sa_NoWays ?eC_NoWays ?tC_NoWays ?kC_NoWays ?ga_NoWays ?gg_NoWays ?hC_NoWays ?hcl_NoWays ?hmr_NoWays ?nf_NoWays ?cC_NoWays ?sC_NoWays ?iI_NoWays ?tI_NoWays ?lI_NoWays ?cI_NoWays ?kI_NoWays ?aC_NoFlag ?xL_NoFlag ?sa_NoFlag ?eC_NoFlag ?tC_NoFlag ?kC_NoFlag ?ga_NoFlag ?gg_NoFlag ?hC_NoFlag ?hcl_NoFlag ?hmr_NoFlag ?nf_NoFlag ?cC_NoFlag ?sC_NoFlag ?iI_NoFlag ?tI_NoFlag ?lI_NoFlag ?cI_NoFlag ?kI_NoFlag ?aC_NoBody ?xL_NoBody ?sa_NoBody ?eC_NoBody ?tC_NoBody ?kC_NoBody ?ga_NoBody ?gg_NoBody ?hC_NoBody ?hcl_NoBody ?hmr_NoBody ?nf_NoBody ?cC_NoBody ?sC_NoBody ?iI_NoBody ?tI_NoBody ?lI_NoBody ?cI_NoBody ?kI_NoBody ?aK_Body ?pg_Body ?hd_Body ?po_Body ?sa_Body ?mk_Body ?kc_Body ?ne_Body ?ob_Body ?hc_Body ?dq_Body ?cC_Body ?tC_Body ?n_Body_method ?n_Body_expression ?n_Body__nodes ?s_Body_str ?a_Body_init ?i_Body_init ?l_Body_init ?c_Body_init ?k_Body_init ?a_Body_eq ?i_Body_eq ?l_Body_eq ?c_Body_eq ?k_Body_eq ?aK_Book ?pg_Book ?hd_Book ?po_Book ?sa_Book ?mk_Book ?kc_Book ?ne_Book ?ob_Book ?hc_Book ?dq_Book ?cC_Book ?tC_Book ?n_Book__ways ?n_Book__flags ?a_Book_init ?i_Book_init ?l_Book_init ?c_Book_init ?k_Book_init ?a_Book_setitem ?i_Book_setitem ?l_Book_setitem ?c_Book_setitem ?k_Book_setitem ?a_Book_set_flag ?i_Book_set_flag ?l_Book_set_flag ?c_Book_set_flag ?k_Book_set_flag ?a_Book_twin ?i_Book_twin ?l_Book_twin ?c_Book_twin ?k_Book_twin ?a_Book_eq ?i_Book_eq ?l_Book_eq ?c_Book_eq ?k_Book_eq ?aK_Table ?pg_Table ?hd_Table ?po_Table ?sa_Table ?mk_Table ?kc_Table ?ne_Table ?ob_Table ?hc_Table ?dq_Table ?cC_Table ?tC_Table ?n_Table__book ?n_Table__names ?n_Table__bases ?n_Table__orders ?n_Table__entries ?a_Table_init ?i_Table_init ?l_Table_init ?c_Table_init ?k_Table_init ?a_Table__check_class ?i_Table__check_class ?l_Table__check_class ?c_Table__check_class ?k_Table__check_class ?a_Table_add ?i_Table_add ?l_Table_add ?c_Table_add ?k_Table_add ?a_Table_getitem ?i_Table_getitem ?l_Table_getitem ?c_Table_getitem ?k_Table_getitem ?a_Table_setitem ?i_Table_setitem ?l_Table_setitem ?c_Table_setitem ?k_Table_setitem ?a_Table_entries ?i_Table_entries ?l_Table_entries ?c_Table_entries ?k_Table_entries ?a_Table_bases ?i_Table_bases ?l_Table_bases ?c_Table_bases ?k_Table_bases ?a_Table_order ?i_Table_order ?l_Table_order ?c_Table_order ?k_Table_order ?a_Table_heirs ?i_Table_heirs ?l_Table_heirs ?c_Table_heirs ?k_Table_heirs ?a_Table_book ?i_Table_book ?l_Table_book ?c_Table_book ?k_Table_book ?a_Table_listed ?i_Table_listed ?l_Table_listed ?c_Table_listed ?k_Table_listed ?a_Table_contains ?i_Table_contains ?l_Table_contains ?c_Table_contains ?k_Table_contains ?a_Table_len ?i_Table_len ?l_Table_len ?c_Table_len ?k_Table_len ?a_METHODS ?l_METHODS ?z_METHODS ?v_METHODS ?a_OTHER_TAKERS ?l_OTHER_TAKERS ?z_OTHER_TAKERS ?v_OTHER_TAKERS ?a_DECLINERS ?l_DECLINERS ?z_DECLINERS ?v_DECLINERS ?a_BODY_KINDS ?l_BODY_KINDS ?z_BODY_KINDS ?v_BODY_KINDS ?a_ANSWER_WORDS ?l_ANSWER_WORDS ?z_ANSWER_WORDS ?v_ANSWER_WORDS ?a_ASKED_OF_ONE ?l_ASKED_OF_ONE ?z_ASKED_OF_ONE ?v_ASKED_OF_ONE ?a_ASKED_OF_TWO ?l_ASKED_OF_TWO ?z_ASKED_OF_TWO ?v_ASKED_OF_TWO ?a_OPERATIONS ?l_OPERATIONS ?z_OPERATIONS ?v_OPERATIONS ?a_FLAGS ?l_FLAGS ?z_FLAGS ?v_FLAGS ?a_ENTRY_WORDS ?l_ENTRY_WORDS ?z_ENTRY_WORDS ?v_ENTRY_WORDS ?a_MENUS ?l_MENUS ?y_MENUS ?g_MENUS_truth ?l_MENUS_truth ?z_MENUS_truth ?v_MENUS_truth ?g_MENUS_size ?l_MENUS_size ?z_MENUS_size ?v_MENUS_size ?g_MENUS_each ?l_MENUS_each ?z_MENUS_each ?v_MENUS_each ?g_MENUS_turned ?l_MENUS_turned ?z_MENUS_turned ?v_MENUS_turned ?g_MENUS_hash ?l_MENUS_hash ?z_MENUS_hash ?v_MENUS_hash ?g_MENUS_call ?l_MENUS_call ?z_MENUS_call ?v_MENUS_call ?g_MENUS_member ?l_MENUS_member ?z_MENUS_member ?v_MENUS_member ?g_MENUS_like ?l_MENUS_like ?z_MENUS_like ?v_MENUS_like ?g_MENUS_unlike ?l_MENUS_unlike ?z_MENUS_unlike ?v_MENUS_unlike ?g_MENUS_before ?l_MENUS_before ?z_MENUS_before ?v_MENUS_before ?g_MENUS_behind ?l_MENUS_behind ?z_MENUS_behind ?v_MENUS_behind ?g_MENUS_grow ?l_MENUS_grow ?z_MENUS_grow ?v_MENUS_grow ?a_MOST_COUNT ?a_MOST_NODES ?a_MOST_DEPTH ?a_MOST_LETTERS ?a_MOST_CLASSES ?a_KINDS ?l_KINDS ?y_KINDS ?g_KINDS_truth ?g_KINDS_length ?g_KINDS_item ?g_KINDS_walk ?g_KINDS_back ?g_KINDS_has ?g_KINDS_like ?g_KINDS_unlike ?g_KINDS_before ?g_KINDS_behind ?g_KINDS_hash ?g_KINDS_grow ?g_KINDS_plus ?g_KINDS_call ?a_PARTS ?l_PARTS ?y_PARTS ?g_PARTS_not ?g_PARTS_if ?x_PARTS ?o_PARTS
    (case a1 => k_is)
    (case l1 => k_is)
    (case c1 => k_is)
    (case k1 => k_is)
    (case a2 => k_is)
    (case l2 => k_is)
    (case c2 => k_is)
    (case k2 => k_is)
    (case a3 => k_is)
    (case l3 => k_is)
    (case c3 => k_is)
    (case k3 => k_is)
    (case a4 => k_is)
    (case l4 => k_is)
    (case c4 => k_is)
    (case k4 => k_is)
    (case a5 => k_is)
    (case l5 => k_is)
    (case c5 => k_is)
    (case k5 => k_is)
    (case a6 => k_is)
    (case l6 => k_is)
    (case c6 => k_is)
    (case k6 => k_is)
    (case a7 => k_is)
    (case l7 => k_is)
    (case c7 => k_is)
    (case k7 => k_is)
    (case a8 => k_is)
    (case l8 => k_is)
    (case c8 => k_is)
    (case k8 => k_is)
    (case a9 => k_is)
    (case l9 => k_is)
    (case c9 => k_is)
    (case k9 => k_is)
    (case a10 => k_is)
    (case l10 => k_is)
    (case c10 => k_is)
    (case k10 => k_is)
    (case a11 => k_is)
    (case l11 => k_is)
    (case c11 => k_is)
    (case k11 => k_is)
    (case a12 => k_is)
    (case l12 => k_is)
    (case c12 => k_is)
    (case k12 => k_is)
    (case a13 => k_is)
    (case l13 => k_is)
    (case c13 => k_is)
    (case k13 => k_is)
    (case a14 => k_is)
    (case l14 => k_is)
    (case c14 => k_is)
    (case k14 => k_is)
    (case a15 => k_is)
    (case l15 => k_is)
    (case c15 => k_is)
    (case k15 => k_is)
    (case a16 => k_is)
    (case l16 => k_is)
    (case c16 => k_is)
    (case k16 => k_is)
    (case a17 => k_is)
    (case l17 => k_is)
    (case c17 => k_is)
    (case k17 => k_is)
    (case a18 => k_is)
    (case l18 => k_is)
    (case c18 => k_is)
    (case k18 => k_is)
    (case a19 => k_is)
    (case l19 => k_is)
    (case c19 => k_is)
    (case k19 => k_is)
    (case a20 => k_is)
    (case l20 => k_is)
    (case c20 => k_is)
    (case k20 => k_is)
    (case a21 => k_is)
    (case l21 => k_is)
    (case c21 => k_is)
    (case k21 => k_is)
    (case a22 => k_is)
    (case l22 => k_is)
    (case c22 => k_is)
    (case k22 => k_is)
    (case a23 => k_is)
    (case l23 => k_is)
    (case c23 => k_is)
    (case k23 => k_is)
    (case a24 => k_is)
    (case l24 => k_is)
    (case c24 => k_is)
    (case k24 => k_is)
    (case a25 => k_is)
    (case l25 => k_is)
    (case c25 => k_is)
    (case k25 => k_is)
    (case a26 => k_is)
    (case l26 => k_is)
    (case c26 => k_is)
    (case k26 => k_is)
    (case a27 => k_is)
    (case l27 => k_is)
    (case c27 => k_is)
    (case k27 => k_is)
    (case a28 => k_is)
    (case l28 => k_is)
    (case c28 => k_is)
    (case k28 => k_is)
    (case a29 => k_is)
    (case l29 => k_is)
    (case c29 => k_is)
    (case k29 => k_is)
    (case a30 => k_is)
    (case l30 => k_is)
    (case c30 => k_is)
    (case k30 => k_is)
    (case a31 => k_is)
    (case l31 => k_is)
    (case c31 => k_is)
    (case k31 => k_is)
    (case a32 => k_is)
    (case l32 => k_is)
    (case c32 => k_is)
    (case k32 => k_is)
    (case a33 => k_is)
    (case l33 => k_is)
    (case c33 => k_is)
    (case k33 => k_is)
    (case a34 => k_is)
    (case l34 => k_is)
    (case c34 => k_is)
    (case k34 => k_is)
    (case a35 => k_is)
    (case l35 => k_is)
    (case c35 => k_is)
    (case k35 => k_is)
    (case a36 => k_is)
    (case l36 => k_is)
    (case c36 => k_is)
    (case k36 => k_is)
    (case a37 => k_is)
    (case l37 => k_is)
    (case c37 => k_is)
    (case k37 => k_is)
    (case a38 => k_is)
    (case l38 => k_is)
    (case c38 => k_is)
    (case k38 => k_is)
    (case a39 => k_is)
    (case l39 => k_is)
    (case c39 => k_is)
    (case k39 => k_is)
    (case a40 => k_is)
    (case l40 => k_is)
    (case c40 => k_is)
    (case k40 => k_is)
    (case a41 => k_is)
    (case l41 => k_is)
    (case c41 => k_is)
    (case k41 => k_is)
    (case a42 => k_is)
    (case l42 => k_is)
    (case c42 => k_is)
    (case k42 => k_is)
    (case a43 => k_is)
    (case l43 => k_is)
    (case c43 => k_is)
    (case k43 => k_is)
    (case a44 => k_is)
    (case l44 => k_is)
    (case c44 => k_is)
    (case k44 => k_is)
    (case a45 => k_is)
    (case l45 => k_is)
    (case c45 => k_is)
    (case k45 => k_is)
    (case a46 => k_is)
    (case l46 => k_is)
    (case c46 => k_is)
    (case k46 => k_is)
    (case z_int => k_is)
    (case z_len => k_is)
    (case z_max => k_is)
    (case z_min => k_is)
    (case z_isinstance => k_is)
    (case z_range => k_is)
    (case z_list => k_is)
    (case z_dict => k_is)
    (case z_tuple => k_is)
    (case z_set => k_is)
    (case z_str => k_is)
    (case z_bool => k_is)
    (case z_repr => k_is)
    (case z_all => k_is)
    (case z_any => k_is)
    (case z_sum => k_is)
    (case z_zip => k_is)
    (case z_enumerate => k_is)
    (case aA => k_is)
    (case hsp => k_is)
    (case htk => k_is)
    (case aC_NoName => k_is)
    (case xL_NoName => k_is)
    (case sa_NoName => k_is)
    (case eC_NoName => k_is)
    (case tC_NoName => k_is)
    (case kC_NoName => k_is)
    (case ga_NoName => k_is)
    (case gg_NoName => k_is)
    (case hC_NoName => k_is)
    (case hcl_NoName => k_is)
    (case hmr_NoName => k_is)
    (case nf_NoName => k_is)
    (case cC_NoName => k_is)
    (case sC_NoName => k_is)
    (case iI_NoName => k_is)
    (case tI_NoName => k_is)
    (case lI_NoName => k_is)
    (case cI_NoName => k_is)
    (case kI_NoName => k_is)
    (case aC_NoWays => k_is)
    (case xL_NoWays => k_is)
    (case sa_NoWays => k_is)
    (case eC_NoWays => k_is)
    (case tC_NoWays => k_is)
    (case kC_NoWays => k_is)
    (case ga_NoWays => k_is)
    (case gg_NoWays => k_is)
    (case hC_NoWays => k_is)
    (case hcl_NoWays => k_is)
    (case hmr_NoWays => k_is)
    (case nf_NoWays => k_is)
    (case cC_NoWays => k_is)
    (case sC_NoWays => k_is)
    (case iI_NoWays => k_is)
    (case tI_NoWays => k_is)
    (case lI_NoWays => k_is)
    (case cI_NoWays => k_is)
    (case kI_NoWays => k_is)
    (case aC_NoFlag => k_is)
    (case xL_NoFlag => k_is)
    (case sa_NoFlag => k_is)
    (case eC_NoFlag => k_is)
    (case tC_NoFlag => k_is)
    (case kC_NoFlag => k_is)
    (case ga_NoFlag => k_is)
    (case gg_NoFlag => k_is)
    (case hC_NoFlag => k_is)
    (case hcl_NoFlag => k_is)
    (case hmr_NoFlag => k_is)
    (case nf_NoFlag => k_is)
    (case cC_NoFlag => k_is)
    (case sC_NoFlag => k_is)
    (case iI_NoFlag => k_is)
    (case tI_NoFlag => k_is)
    (case lI_NoFlag => k_is)
    (case cI_NoFlag => k_is)
    (case kI_NoFlag => k_is)
    (case aC_NoBody => k_is)
    (case xL_NoBody => k_is)
    (case sa_NoBody => k_is)
    (case eC_NoBody => k_is)
    (case tC_NoBody => k_is)
    (case kC_NoBody => k_is)
    (case ga_NoBody => k_is)
    (case gg_NoBody => k_is)
    (case hC_NoBody => k_is)
    (case hcl_NoBody => k_is)
    (case hmr_NoBody => k_is)
    (case nf_NoBody => k_is)
    (case cC_NoBody => k_is)
    (case sC_NoBody => k_is)
    (case iI_NoBody => k_is)
    (case tI_NoBody => k_is)
    (case lI_NoBody => k_is)
    (case cI_NoBody => k_is)
    (case kI_NoBody => k_is)
    (case aK_Body => k_is)
    (case pg_Body => k_is)
    (case hd_Body => k_is)
    (case po_Body => k_is)
    (case sa_Body => k_is)
    (case mk_Body => k_is)
    (case kc_Body => k_is)
    (case ne_Body => k_is)
    (case ob_Body => k_is)
    (case hc_Body => k_is)
    (case dq_Body => k_is)
    (case cC_Body => k_is)
    (case tC_Body => k_is)
    (case n_Body_method => k_is)
    (case n_Body_expression => k_is)
    (case n_Body__nodes => k_is)
    (case s_Body_str => k_is)
    (case a_Body_init => k_is)
    (case i_Body_init => k_is)
    (case l_Body_init => k_is)
    (case c_Body_init => k_is)
    (case k_Body_init => k_is)
    (case a_Body_eq => k_is)
    (case i_Body_eq => k_is)
    (case l_Body_eq => k_is)
    (case c_Body_eq => k_is)
    (case k_Body_eq => k_is)
    (case aK_Book => k_is)
    (case pg_Book => k_is)
    (case hd_Book => k_is)
    (case po_Book => k_is)
    (case sa_Book => k_is)
    (case mk_Book => k_is)
    (case kc_Book => k_is)
    (case ne_Book => k_is)
    (case ob_Book => k_is)
    (case hc_Book => k_is)
    (case dq_Book => k_is)
    (case cC_Book => k_is)
    (case tC_Book => k_is)
    (case n_Book__ways => k_is)
    (case n_Book__flags => k_is)
    (case a_Book_init => k_is)
    (case i_Book_init => k_is)
    (case l_Book_init => k_is)
    (case c_Book_init => k_is)
    (case k_Book_init => k_is)
    (case a_Book_setitem => k_is)
    (case i_Book_setitem => k_is)
    (case l_Book_setitem => k_is)
    (case c_Book_setitem => k_is)
    (case k_Book_setitem => k_is)
    (case a_Book_set_flag => k_is)
    (case i_Book_set_flag => k_is)
    (case l_Book_set_flag => k_is)
    (case c_Book_set_flag => k_is)
    (case k_Book_set_flag => k_is)
    (case a_Book_twin => k_is)
    (case i_Book_twin => k_is)
    (case l_Book_twin => k_is)
    (case c_Book_twin => k_is)
    (case k_Book_twin => k_is)
    (case a_Book_eq => k_is)
    (case i_Book_eq => k_is)
    (case l_Book_eq => k_is)
    (case c_Book_eq => k_is)
    (case k_Book_eq => k_is)
    (case aK_Table => k_is)
    (case pg_Table => k_is)
    (case hd_Table => k_is)
    (case po_Table => k_is)
    (case sa_Table => k_is)
    (case mk_Table => k_is)
    (case kc_Table => k_is)
    (case ne_Table => k_is)
    (case ob_Table => k_is)
    (case hc_Table => k_is)
    (case dq_Table => k_is)
    (case cC_Table => k_is)
    (case tC_Table => k_is)
    (case n_Table__book => k_is)
    (case n_Table__names => k_is)
    (case n_Table__bases => k_is)
    (case n_Table__orders => k_is)
    (case n_Table__entries => k_is)
    (case a_Table_init => k_is)
    (case i_Table_init => k_is)
    (case l_Table_init => k_is)
    (case c_Table_init => k_is)
    (case k_Table_init => k_is)
    (case a_Table__check_class => k_is)
    (case i_Table__check_class => k_is)
    (case l_Table__check_class => k_is)
    (case c_Table__check_class => k_is)
    (case k_Table__check_class => k_is)
    (case a_Table_add => k_is)
    (case i_Table_add => k_is)
    (case l_Table_add => k_is)
    (case c_Table_add => k_is)
    (case k_Table_add => k_is)
    (case a_Table_getitem => k_is)
    (case i_Table_getitem => k_is)
    (case l_Table_getitem => k_is)
    (case c_Table_getitem => k_is)
    (case k_Table_getitem => k_is)
    (case a_Table_setitem => k_is)
    (case i_Table_setitem => k_is)
    (case l_Table_setitem => k_is)
    (case c_Table_setitem => k_is)
    (case k_Table_setitem => k_is)
    (case a_Table_entries => k_is)
    (case i_Table_entries => k_is)
    (case l_Table_entries => k_is)
    (case c_Table_entries => k_is)
    (case k_Table_entries => k_is)
    (case a_Table_bases => k_is)
    (case i_Table_bases => k_is)
    (case l_Table_bases => k_is)
    (case c_Table_bases => k_is)
    (case k_Table_bases => k_is)
    (case a_Table_order => k_is)
    (case i_Table_order => k_is)
    (case l_Table_order => k_is)
    (case c_Table_order => k_is)
    (case k_Table_order => k_is)
    (case a_Table_heirs => k_is)
    (case i_Table_heirs => k_is)
    (case l_Table_heirs => k_is)
    (case c_Table_heirs => k_is)
    (case k_Table_heirs => k_is)
    (case a_Table_book => k_is)
    (case i_Table_book => k_is)
    (case l_Table_book => k_is)
    (case c_Table_book => k_is)
    (case k_Table_book => k_is)
    (case a_Table_listed => k_is)
    (case i_Table_listed => k_is)
    (case l_Table_listed => k_is)
    (case c_Table_listed => k_is)
    (case k_Table_listed => k_is)
    (case a_Table_contains => k_is)
    (case i_Table_contains => k_is)
    (case l_Table_contains => k_is)
    (case c_Table_contains => k_is)
    (case k_Table_contains => k_is)
    (case a_Table_len => k_is)
    (case i_Table_len => k_is)
    (case l_Table_len => k_is)
    (case c_Table_len => k_is)
    (case k_Table_len => k_is)
    (case a_METHODS => k_is)
    (case l_METHODS => k_is)
    (case z_METHODS => decide +kernel)
    (case v_METHODS => repeat (first | exact .nil | refine .cons ⟨_, rfl⟩ ?_))
    (case a_OTHER_TAKERS => k_is)
    (case l_OTHER_TAKERS => k_is)
    (case z_OTHER_TAKERS => decide +kernel)
    (case v_OTHER_TAKERS => repeat (first | exact .nil | refine .cons ⟨_, rfl⟩ ?_))
    (case a_DECLINERS => k_is)
    (case l_DECLINERS => k_is)
    (case z_DECLINERS => decide +kernel)
    (case v_DECLINERS => repeat (first | exact .nil | refine .cons ⟨_, rfl⟩ ?_))
    (case a_BODY_KINDS => k_is)
    (case l_BODY_KINDS => k_is)
    (case z_BODY_KINDS => decide +kernel)
    (case v_BODY_KINDS => repeat (first | exact .nil | refine .cons ⟨_, rfl⟩ ?_))
    (case a_ANSWER_WORDS => k_is)
    (case l_ANSWER_WORDS => k_is)
    (case z_ANSWER_WORDS => decide +kernel)
    (case v_ANSWER_WORDS => repeat (first | exact .nil | refine .cons ⟨_, rfl⟩ ?_))
    (case a_ASKED_OF_ONE => k_is)
    (case l_ASKED_OF_ONE => k_is)
    (case z_ASKED_OF_ONE => decide +kernel)
    (case v_ASKED_OF_ONE => repeat (first | exact .nil | refine .cons ⟨_, rfl⟩ ?_))
    (case a_ASKED_OF_TWO => k_is)
    (case l_ASKED_OF_TWO => k_is)
    (case z_ASKED_OF_TWO => decide +kernel)
    (case v_ASKED_OF_TWO => repeat (first | exact .nil | refine .cons ⟨_, rfl⟩ ?_))
    (case a_OPERATIONS => k_is)
    (case l_OPERATIONS => k_is)
    (case z_OPERATIONS => decide +kernel)
    (case v_OPERATIONS => repeat (first | exact .nil | refine .cons ⟨_, rfl⟩ ?_))
    (case a_FLAGS => k_is)
    (case l_FLAGS => k_is)
    (case z_FLAGS => decide +kernel)
    (case v_FLAGS => repeat (first | exact .nil | refine .cons ⟨_, rfl⟩ ?_))
    (case a_ENTRY_WORDS => k_is)
    (case l_ENTRY_WORDS => k_is)
    (case z_ENTRY_WORDS => decide +kernel)
    (case v_ENTRY_WORDS => repeat (first | exact .nil | refine .cons ⟨_, rfl⟩ ?_))
    (case a_MENUS => k_is)
    (case l_MENUS => k_is)
    (case y_MENUS => repeat (first | exact Ab.kl_nil | refine Ab.kl_cons ?_))
    (case g_MENUS_truth => k_is)
    (case l_MENUS_truth => k_is)
    (case z_MENUS_truth => decide +kernel)
    (case v_MENUS_truth => repeat (first | exact .nil | refine .cons ⟨_, rfl⟩ ?_))
    (case g_MENUS_size => k_is)
    (case l_MENUS_size => k_is)
    (case z_MENUS_size => decide +kernel)
    (case v_MENUS_size => repeat (first | exact .nil | refine .cons ⟨_, rfl⟩ ?_))
    (case g_MENUS_each => k_is)
    (case l_MENUS_each => k_is)
    (case z_MENUS_each => decide +kernel)
    (case v_MENUS_each => repeat (first | exact .nil | refine .cons ⟨_, rfl⟩ ?_))
    (case g_MENUS_turned => k_is)
    (case l_MENUS_turned => k_is)
    (case z_MENUS_turned => decide +kernel)
    (case v_MENUS_turned => repeat (first | exact .nil | refine .cons ⟨_, rfl⟩ ?_))
    (case g_MENUS_hash => k_is)
    (case l_MENUS_hash => k_is)
    (case z_MENUS_hash => decide +kernel)
    (case v_MENUS_hash => repeat (first | exact .nil | refine .cons ⟨_, rfl⟩ ?_))
    (case g_MENUS_call => k_is)
    (case l_MENUS_call => k_is)
    (case z_MENUS_call => decide +kernel)
    (case v_MENUS_call => repeat (first | exact .nil | refine .cons ⟨_, rfl⟩ ?_))
    (case g_MENUS_member => k_is)
    (case l_MENUS_member => k_is)
    (case z_MENUS_member => decide +kernel)
    (case v_MENUS_member => repeat (first | exact .nil | refine .cons ⟨_, rfl⟩ ?_))
    (case g_MENUS_like => k_is)
    (case l_MENUS_like => k_is)
    (case z_MENUS_like => decide +kernel)
    (case v_MENUS_like => repeat (first | exact .nil | refine .cons ⟨_, rfl⟩ ?_))
    (case g_MENUS_unlike => k_is)
    (case l_MENUS_unlike => k_is)
    (case z_MENUS_unlike => decide +kernel)
    (case v_MENUS_unlike => repeat (first | exact .nil | refine .cons ⟨_, rfl⟩ ?_))
    (case g_MENUS_before => k_is)
    (case l_MENUS_before => k_is)
    (case z_MENUS_before => decide +kernel)
    (case v_MENUS_before => repeat (first | exact .nil | refine .cons ⟨_, rfl⟩ ?_))
    (case g_MENUS_behind => k_is)
    (case l_MENUS_behind => k_is)
    (case z_MENUS_behind => decide +kernel)
    (case v_MENUS_behind => repeat (first | exact .nil | refine .cons ⟨_, rfl⟩ ?_))
    (case g_MENUS_grow => k_is)
    (case l_MENUS_grow => k_is)
    (case z_MENUS_grow => decide +kernel)
    (case v_MENUS_grow => repeat (first | exact .nil | refine .cons ⟨_, rfl⟩ ?_))
    (case a_MOST_COUNT => k_is)
    (case a_MOST_NODES => k_is)
    (case a_MOST_DEPTH => k_is)
    (case a_MOST_LETTERS => k_is)
    (case a_MOST_CLASSES => k_is)
    (case a_KINDS => k_is)
    (case l_KINDS => k_is)
    (case y_KINDS => repeat (first | exact Ab.kl_nil | refine Ab.kl_cons ?_))
    (case g_KINDS_truth => k_is)
    (case g_KINDS_length => k_is)
    (case g_KINDS_item => k_is)
    (case g_KINDS_walk => k_is)
    (case g_KINDS_back => k_is)
    (case g_KINDS_has => k_is)
    (case g_KINDS_like => k_is)
    (case g_KINDS_unlike => k_is)
    (case g_KINDS_before => k_is)
    (case g_KINDS_behind => k_is)
    (case g_KINDS_hash => k_is)
    (case g_KINDS_grow => k_is)
    (case g_KINDS_plus => k_is)
    (case g_KINDS_call => k_is)
    (case a_PARTS => k_is)
    (case l_PARTS => k_is)
    (case y_PARTS => repeat (first | exact Ab.kl_nil | refine Ab.kl_cons ?_))
    (case g_PARTS_not => k_is)
    (case g_PARTS_if => k_is)
    (case x_PARTS => rfl)
    (case o_PARTS => first | rfl | decide +kernel)
