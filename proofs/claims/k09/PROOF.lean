import PyProof.Rows.All
import Wide.All
import OpenK.AllK
import Wide.FinOn
import KE.OsRunLaw
import HandS.Words
import PyProof.EqAt
import PyProof.EqKinds
import PyProof.TupleCall
import HandS.Base
import HandS.Call
import HandS.List
import HandS.Comp
import HandS.Ends
import HandS.Text
import HandS.Exc
import HandS.WordsList
import HandS.Iter
import HandS.Dict
import HandS.Wide
import HandS.IsInst
import HandS.AnyAll
import HandS.EndBits
import HandS.EndTab
import HandS.TryMany
import HandS.ExcOwn
import HandS.WordsExc
import HandS.ExcInit
import HandS.ExcField
import HandS.ExcIs
import KE.KExcIs
import KE.KIsAll
import HandS.Walk
import PyProof.Rows.RegFStrParts
import PyProof.Rows.ReprShort
import PySem.Challenge.RW_onestaff_k09_refusals_apart
set_option Elab.async false
set_option linter.all false
set_option maxRecDepth 100000
/-! A head by runs of the kernel, each for a part of what is looked at; where the top asks one row of the world, at both its sides. -/
namespace My
open PySem PySem.W PySem.Calls PyProof.Rows HeadRun
/-- what is so at the top's end -/
def Run (p : Program) (M : Nat) (T : World → World) {α : Type} (f : World → SharedT → α) (r : World → α) : Prop :=
  ∀ (w : World) (os : OsState), (endF (stepQ (denQ tabQ) p (T w)) M p (T w) os).map (f (T w)) = some (r (T w))
noncomputable def lookA (p : Program) (as : List Addr) (w : World) (s : SharedT) := (looksF p (boot_heap w.params) s.abs, as.map (getT s))
def goodA (K : Params → Frag) (w : World) := (true, (K w.params).map fun x => some x.2)
theorem Run.a {p : Program} {M : Nat} {T : World → World} {α β : Type} {f : World → SharedT → α} {g : World → SharedT → β} {r : World → α} {t : World → β} (h : Run p M T (fun w s => (f w s, g w s)) (fun w => (r w, t w))) : Run p M T f r := fun w os => by
  obtain ⟨s, hs, e⟩ := Option.map_eq_some_iff.mp (h w os)
  rw [hs]
  exact congrArg some (congrArg Prod.fst e)
theorem Run.b {p : Program} {M : Nat} {T : World → World} {α β : Type} {f : World → SharedT → α} {g : World → SharedT → β} {r : World → α} {t : World → β} (h : Run p M T (fun w s => (f w s, g w s)) (fun w => (r w, t w))) : Run p M T g t := fun w os => by
  obtain ⟨s, hs, e⟩ := Option.map_eq_some_iff.mp (h w os)
  rw [hs]
  exact congrArg some (congrArg Prod.snd e)
section
variable {p q : Program} {loose : List PySem.Str} {Xt : Shared → Bool} {K : Params → Frag} {as : List Addr} {M : Nat} {T : World → World}
noncomputable abbrev seenS (p q : Program) (loose : List PySem.Str) (Xt : Shared → Bool) (s : SharedT) := seenQ q loose (importedModules p.main.body) Xt s.abs
theorem run_all (hA : Run p M T (lookA p as) (goodA K))
    (h1 : Run p M T (fun _ s => (seenS p q loose Xt s).1) fun _ => expectedOf q) (h2 : Run p M T (fun _ s => (seenS p q loose Xt s).2.1) fun _ => bltViewBooted) (h3 : Run p M T (fun _ s => (seenS p q loose Xt s).2.2.1) fun _ => true) (h4 : Run p M T (fun _ s => (seenS p q loose Xt s).2.2.2.1) fun _ => true)
    (h5 : Run p M T (fun _ s => (seenS p q loose Xt s).2.2.2.2.1) fun _ => pinGoodD (drecsOf q)) (h6 : Run p M T (fun _ s => (seenS p q loose Xt s).2.2.2.2.2.1) fun _ => plainGoodE q (looseW q loose)) (h7 : Run p M T (fun _ s => (seenS p q loose Xt s).2.2.2.2.2.2.1) fun _ => plainGoodD q loose)
    (h8 : Run p M T (fun _ s => (seenS p q loose Xt s).2.2.2.2.2.2.2.1) fun _ => wideGood q) (h9 : Run p M T (fun _ s => (seenS p q loose Xt s).2.2.2.2.2.2.2.2) fun _ => clsGoodW q loose) (w : World) (os : OsState) :
    (endF (stepQ (denQ tabQ) p (T w)) M p (T w) os).map (fun s => (looksF p (boot_heap (T w).params) s.abs, seenQ q loose (importedModules p.main.body) Xt s.abs, as.map (getT s))) = some (true, openGood q loose, (K (T w).params).map fun x => some x.2) := by
  obtain ⟨s, hs, e⟩ := Option.map_eq_some_iff.mp (hA w os)
  have at_ : ∀ {α : Type} {f : World → SharedT → α} {r : World → α}, Run p M T f r → f (T w) s = r (T w) := fun h => by
    have := h w os
    rw [hs] at this
    exact Option.some.inj this
  have e1 := at_ h1
  have e2 := at_ h2
  have e3 := at_ h3
  have e4 := at_ h4
  have e5 := at_ h5
  have e6 := at_ h6
  have e7 := at_ h7
  have e8 := at_ h8
  have e9 := at_ h9
  have es : seenS p q loose Xt s = openGood q loose := Prod.ext e1 (Prod.ext e2 (Prod.ext e3 (Prod.ext e4 (Prod.ext e5 (Prod.ext e6 (Prod.ext e7 (Prod.ext e8 e9)))))))
  have ea : looksF p (boot_heap (T w).params) s.abs = true := congrArg Prod.fst e
  have eb : as.map (getT s) = (K (T w).params).map fun x => some x.2 := congrArg Prod.snd e
  rw [hs]
  exact congrArg some (Prod.ext ea (Prod.ext es eb))
theorem left_row {ek : ∀ P, as = (K P).map (·.1)} {N : Nat} {row : String}
    (e : opening p = plainProg p.main.scope.names)
    (hN : Nat.ble 600 N = true) (f : ∀ s, fenceModules? p s = some s)
    (le : Nat.ble M N = true)
    (r : ∀ (b : Bool) (w : World) (os : OsState), (endF (stepQ (denQ tabQ) p (w.withFollow row b)) M p (w.withFollow row b) os).map (fun s => (looksF p (boot_heap (w.withFollow row b).params) s.abs, seenQ q loose (importedModules p.main.body) Xt s.abs, as.map (getT s))) = some (true, openGood q loose, (K (w.withFollow row b).params).map fun x => some x.2)) : LeftO p q loose Xt
      (Hook.obs (kHook K as ek)) (Hook.val (kHook K as ek)) N true :=
  left_oneK (M := M) e hN f le fun w os => byRow2 row (P := fun w => ∀ os : OsState, (endF (stepQ (denQ tabQ) p w) M p w os).map (fun s => (looksF p (boot_heap w.params) s.abs, seenQ q loose (importedModules p.main.body) Xt s.abs, as.map (getT s))) = some (true, openGood q loose, (K w.params).map fun x => some x.2)) (r false) (r true) w os
theorem left_plain {ek : ∀ P, as = (K P).map (·.1)} {N : Nat}
    (e : opening p = plainProg p.main.scope.names)
    (hN : Nat.ble 600 N = true) (f : ∀ s, fenceModules? p s = some s)
    (le : Nat.ble M N = true)
    (r : ∀ (w : World) (os : OsState), (endF (stepQ (denQ tabQ) p w) M p w os).map (fun s => (looksF p (boot_heap w.params) s.abs, seenQ q loose (importedModules p.main.body) Xt s.abs, as.map (getT s))) = some (true, openGood q loose, (K w.params).map fun x => some x.2)) :
    LeftO p q loose Xt (Hook.obs (kHook K as ek)) (Hook.val (kHook K as ek)) N true := left_oneK (M := M) e hN f le r
end
end My

set_option maxRecDepth 100000
/-! A head in a few long pieces: the states between them are written out in the text. -/
namespace My
open PySem PySem.W PySem.Calls PyProof.Rows HeadRun
/-- a piece of the top, numbers reckoned at each step -/
def segF (st : SharedT → Thread → Option (SharedT × Thread)) (n0 : Nat) (ann : Option Value) : Nat → SharedT → Thread → Option (Flow × SharedT × Code × Pos)
  | 0, _, _ => none
  | m + 1, s, t => match endAt 1 t with
    | some f => some (f, s, t.code, t.pos)
    | none => match stepOk n0 ann t with
      | false => none
      | true => match st s t with
        | some (s1, t1) => frS s1 fun s2 => segF st n0 ann m s2 t1
        | none => none
theorem segF_ok {tb : String → Option Builtin} {p : Program} {w : World} {n0 : Nat} {ann : Option Value} : ∀ {m : Nat} {s : SharedT} {t : Thread} {r : Flow × SharedT × Code × Pos}, segF (stepT (denote tb) p w) n0 ann m s t = some r → segRunT tb p w n0 ann 1 m s t = some r
  | 0, _, _, _, h => by cases h
  | m + 1, s, t, r, h => by
    unfold segF at h
    unfold segRunT
    cases he : endAt 1 t with
    | some f => rw [he] at h; exact h
    | none =>
      rw [he] at h
      cases hk : stepOk n0 ann t with
      | false => rw [hk] at h; cases h
      | true =>
        rw [hk] at h
        cases hs : stepT (denote tb) p w s t with
        | none => rw [hs] at h; cases h
        | some x =>
          obtain ⟨s1, t1⟩ := x
          rw [hs] at h
          have h2 : (frS s1 fun s2 => segF (stepT (denote tb) p w) n0 ann m s2 t1) = some r := h
          rw [frS_eq] at h2
          exact segF_ok h2
section
variable {p q : Program} {w : World} {n0 : Nat} {ann : Option Value} {env : Env} {fq : Pos}
/-- some statements of the top, in one go -/
def Go (p : Program) (n0 : Nat) (ann : Option Value) (env : Env) (fq : Pos) (n : Nat) (S S' : World → OsState → SharedT) (l : List Stmt) (c : Code) (a b : Pos) (w : World) : Prop :=
  ∀ os : OsState, segF (stepQ (denQ tabQ) p w) n0 ann n (S w os) (piecesOf l env c a [topFrame fq]) = some (.next, S' w os, c, b)
theorem Go.run {n : Nat} {S S' : World → OsState → SharedT} {l : List Stmt} {c : Code} {a b : Pos} (h : Go p n0 ann env fq n S S' l c a b w) (os : OsState) : segRun treeTable p w n0 ann 1 n (S w os).abs (piecesOf l env c a [topFrame fq]) = some (.next, (S' w os).abs, c, b) := by
  have z := h os
  rw [← stepQ_eq, ← denQ_eq, ← tabQ_eq] at z
  exact segRun_of (segF_ok z)
theorem Go.next {n N : Nat} {S S' : World → OsState → SharedT} {l body : List Stmt} {c : Code} {a b : Pos} {r : Shared} {os : OsState} {i k : Nat} (h : Go p n0 ann env fq n S S' l c a b w) (hl : l = (body.drop i).take k)
    (z : topRun treeTable p w n0 ann N (S' w os).abs (restOf (body.drop (i + k)) env c b [topFrame fq]) = some r) : topRun treeTable p w n0 ann (n + N) (S w os).abs (restOf (body.drop i) env c a [topFrame fq]) = some r := by
  have e : body.drop i = l ++ body.drop (i + k) := by
    rw [hl, ← List.drop_drop, List.take_append_drop]
  rw [e]
  exact piece_app (h.run os) z
/-- the last statement is done: the top ends -/
def Fin1 (p : Program) (n0 : Nat) (ann : Option Value) (fq : Pos) (n : Nat) (S S' : World → OsState → SharedT) (c : Code) (a : Pos) (w : World) : Prop :=
  ∀ os : OsState, goF (stepQ (denQ tabQ) p w) n0 ann n (S w os) ⟨doneF .next, c, a, [topFrame fq]⟩ = some (S' w os)
theorem Fin1.run {n : Nat} {S S' : World → OsState → SharedT} {c : Code} {a : Pos} {os : OsState} {body : List Stmt} {i : Nat} (h : Fin1 p n0 ann fq n S S' c a w) (hb : body.drop i = []) : topRun treeTable p w n0 ann n (S w os).abs (restOf (body.drop i) env c a [topFrame fq]) = some (S' w os).abs := by
  have z := h os
  rw [← stepQ_eq, ← denQ_eq, ← tabQ_eq] at z
  rw [hb]
  exact piece_nil (goF_ok z)
end
section
variable {p q : Program} {loose : List PySem.Str} {Xt : Shared → Bool} {K : Params → Frag} {as : List Addr} {M N : Nat} {T : Params → BT} {n : Nat} {life : Life} {gens : Array GenState} {drawn : Drawn} {toks m0 : Nat} {ann : Option Value}
abbrev endS (T : Params → BT) (n : Nat) (life : Life) (gens : Array GenState) (drawn : Drawn) (toks : Nat) (w : World) (os : OsState) : SharedT := ⟨T w.params, n, life, gens, drawn, toks, os⟩
theorem left_cut {ek : ∀ P, as = (K P).map (·.1)} (S : World → OsState → SharedT) (hS : S = endS T n life gens drawn toks)
    (e : opening p = plainProg p.main.scope.names) (hN : Nat.ble 600 N = true) (f : ∀ s, fenceModules? p s = some s) (le : Nat.ble M N = true)
    (size : ∀ w : World, ((boot_heap w.params).isNs mainGlobals && (Array.mk [] : Array GenState).size == 0, (boot_heap w.params).objs.size, (boot_heap w.params).nsMap mainGlobals "__annotations__") = (true, m0, ann))
    (run : ∀ (w : World) (os : OsState), topRun treeTable p w m0 ann M ⟨boot_heap w.params, Array.mk [], boot_drawn, boot_toks, os⟩ (topStub p) = some (S w os).abs)
    (hL : ∀ w os, looksF p (boot_heap w.params) (S w os).abs = true) (hA : ∀ w os, as.map (getT (S w os)) = (K w.params).map fun x => some x.2)
    (h : ∀ w os, seenQ q loose (importedModules p.main.body) Xt (S w os).abs = openGood q loose) :
    LeftO p q loose Xt (Hook.obs (kHook K as ek)) (Hook.val (kHook K as ek)) N true := by
  subst hS
  refine LeftO.of_pieces (H₀ := boot_heap) (H₁ := fun P => absHeap (T P) n life) (gs₁ := gens) (d₁ := drawn) (k₁ := toks) (M := M) (m₀ := m0) (ann := ann) (boot_open e hN f) size run le fun w => funext fun os => ?_
  have a1 := hL w os
  have a2 := hA w os
  have a3 := h w os
  rw [← seenQ_eq] at a3
  refine Prod.ext a1 (Prod.ext a3 ?_)
  have q1 : as.map (getT (endS T n life gens drawn toks w os)) = as.map (endS T n life gens drawn toks w os).abs.heap.get? := List.map_congr_left fun a _ => getT_eq _ a
  exact q1.symm.trans a2
end
end My

set_option maxRecDepth 100000
set_option maxHeartbeats 0
namespace E9.Hd
section
open PySem PySem.W PyProof.Rows
local macro_rules
  | `(tactic| refine $e) => do
    unless (e.raw.find? fun s => s.isIdent && s.getId.eraseMacroScopes == `hl).isSome do Lean.Macro.throwUnsupported
    let hx := Lean.mkIdent `hx
    let a ← `((And.left ?$hx))
    let b ← `((And.right ?$hx))
    let e' ← e.raw.replaceM fun s => pure (if s.isOfKind ``Lean.Parser.Term.syntheticHole then (if s[1].getId.eraseMacroScopes == `hl then some a.raw else if s[1].getId.eraseMacroScopes == `hc then some b.raw else none) else none)
    `(tactic| refine $(⟨e'⟩))
local macro_rules | `(tactic| k_head) => `(tactic| k_headL)
open_top hd for PySem.Challenge.rw_onestaff_k09_refusals_apart
end
open PySem PySem.W PySem.Calls PyProof.Rows HeadRun
open L2 (defArgs defBody defScope inClass)
def asH : List PySem.Addr := [2, 3, 15, 22, 24, 25, 27, 28, 29, 30, 31, 32, 35, 42, 44, 45, 47, 48, 49, 50, 51, 54, 61, 63, 64, 66, 67, 68, 69, 70, 73, 80, 82, 83, 85, 86, 87, 88, 89, 92, 99, 101, 102, 104, 105, 106, 107, 108, 111, 118, 120, 121, 123, 124, 125, 126, 127, 130, 137, 139, 140, 142, 143, 144, 145, 146, 149, 156, 158, 159, 161, 162, 163, 164, 165, 168, 175, 177, 178, 180, 181, 182, 183, 184, 187, 194, 196, 197, 199, 200, 201, 202, 203, 206, 213, 215, 216, 218, 219, 220, 221, 222, 225, 232, 234, 235, 237, 238, 239, 240, 241, 244, 251, 253, 254, 256, 257, 258, 259, 260, 263, 270, 272, 273, 275, 276, 277, 278, 279, 282, 289, 291, 292, 294, 295, 296, 297, 298, 301, 308, 310, 311, 313, 314, 315, 316, 317, 320, 327, 329, 330, 332, 333, 334, 335, 336, 339, 346, 348, 349, 351, 352, 353, 354, 355, 358, 365, 367, 368, 370, 371, 372, 373, 374, 377, 384, 386, 387, 389, 390, 391, 392, 393, 396, 403, 405, 406, 408, 409, 410, 411, 412, 415, 422, 424, 425, 427, 428, 429, 430, 431, 434, 441, 443, 444, 446, 447, 448, 449, 450, 453, 460, 462, 463, 465, 466, 467, 468, 469, 472, 479, 481, 482, 484, 485, 486, 487, 488, 491, 498, 500, 501, 503, 504, 505, 506, 507, 510, 517, 519, 520, 522, 523, 524, 525, 526, 529, 536, 538, 539, 541, 542, 543, 544, 545, 548, 555, 557, 558, 560, 561, 562, 563, 564, 567, 574, 576, 577, 579, 580, 581, 582, 583, 586, 593, 595, 596, 598, 599, 600, 601, 602, 605, 612, 614, 615, 617, 618, 619, 620, 621, 624, 631, 633, 634, 636, 637, 638, 639, 640, 643, 650, 652, 653, 655, 656, 657, 658, 659, 662, 669, 671, 672, 674, 675, 676, 677, 678, 681, 688, 690, 691, 693, 694, 695, 696, 697, 700, 707, 709, 710, 712, 713, 714, 715, 716, 719, 726, 728, 729, 731, 732, 733, 734, 735, 738, 745, 747, 748, 750, 751, 752, 753, 754, 757, 764, 766, 767, 769, 770, 771, 772, 773, 776, 783, 785, 786, 788, 789, 790, 791, 792, 795, 802, 804, 805, 807, 808, 809, 810, 811, 814, 821, 823, 824, 826, 827, 828, 829, 830, 833, 840, 842, 843, 845, 846, 847, 848, 849, 852, 859, 861, 862, 864, 865, 866, 867, 868, 871, 878, 880, 881, 883, 884, 885, 886, 887, 890, 897, 899, 900, 902, 903, 904, 905, 906, 909, 916, 918, 919, 921, 922, 923, 924, 925, 928, 930, 931, 933, 934, 935, 937, 938, 940, 941, 942, 944, 945, 947, 948, 949, 951, 952, 954, 955, 956, 958, 959, 961, 962, 963, 965, 966, 968, 969, 970, 973, 974, 975, 978, 979, 980, 982, 983, 985, 986]
abbrev looseH : List PySem.Str := []
def tp (i : Nat) : Stmt := PySem.Challenge.rw_onestaff_k09_refusals_apart.row.prog.main.body.getD i (.Pass ⟨0, 0, 0, 0⟩)
def o0 (P : Params) : Obj := ⟨(.type "dict"), none, (.dict #[⟨PyData.keyHash P (.ofString "__name__"), (.str (.ofString "__name__") 1), (.str (.ofString "builtins") 160)⟩, ⟨PyData.keyHash P (.ofString "__doc__"), (.str (.ofString "__doc__") 2), (.builtin "builtins.__doc__:str#opaque")⟩, ⟨PyData.keyHash P (.ofString "__package__"), (.str (.ofString "__package__") 3), (.builtin "builtins.__package__:str#opaque")⟩, ⟨PyData.keyHash P (.ofString "__loader__"), (.str (.ofString "__loader__") 4), (.builtin "builtins.__loader__:shared#opaque")⟩, ⟨PyData.keyHash P (.ofString "__spec__"), (.str (.ofString "__spec__") 5), (.builtin "builtins.__spec__#opaque")⟩, ⟨PyData.keyHash P (.ofString "__build_class__"), (.str (.ofString "__build_class__") 6), (.builtin "__build_class__")⟩, ⟨PyData.keyHash P (.ofString "__import__"), (.str (.ofString "__import__") 7), (.builtin "__import__")⟩, ⟨PyData.keyHash P (.ofString "abs"), (.str (.ofString "abs") 8), (.builtin "abs")⟩, ⟨PyData.keyHash P (.ofString "all"), (.str (.ofString "all") 9), (.builtin "all")⟩, ⟨PyData.keyHash P (.ofString "any"), (.str (.ofString "any") 10), (.builtin "any")⟩, ⟨PyData.keyHash P (.ofString "ascii"), (.str (.ofString "ascii") 11), (.builtin "ascii")⟩, ⟨PyData.keyHash P (.ofString "bin"), (.str (.ofString "bin") 12), (.builtin "bin")⟩, ⟨PyData.keyHash P (.ofString "breakpoint"), (.str (.ofString "breakpoint") 13), (.builtin "breakpoint")⟩, ⟨PyData.keyHash P (.ofString "callable"), (.str (.ofString "callable") 14), (.builtin "callable")⟩, ⟨PyData.keyHash P (.ofString "chr"), (.str (.ofString "chr") 15), (.builtin "chr")⟩, ⟨PyData.keyHash P (.ofString "compile"), (.str (.ofString "compile") 16), (.builtin "compile")⟩, ⟨PyData.keyHash P (.ofString "delattr"), (.str (.ofString "delattr") 17), (.builtin "delattr")⟩, ⟨PyData.keyHash P (.ofString "dir"), (.str (.ofString "dir") 18), (.builtin "dir")⟩, ⟨PyData.keyHash P (.ofString "divmod"), (.str (.ofString "divmod") 19), (.builtin "divmod")⟩, ⟨PyData.keyHash P (.ofString "eval"), (.str (.ofString "eval") 20), (.builtin "eval")⟩, ⟨PyData.keyHash P (.ofString "exec"), (.str (.ofString "exec") 21), (.builtin "exec")⟩, ⟨PyData.keyHash P (.ofString "format"), (.str (.ofString "format") 22), (.builtin "format")⟩, ⟨PyData.keyHash P (.ofString "getattr"), (.str (.ofString "getattr") 23), (.builtin "getattr")⟩, ⟨PyData.keyHash P (.ofString "globals"), (.str (.ofString "globals") 24), (.builtin "globals")⟩, ⟨PyData.keyHash P (.ofString "hasattr"), (.str (.ofString "hasattr") 25), (.builtin "hasattr")⟩, ⟨PyData.keyHash P (.ofString "hash"), (.str (.ofString "hash") 26), (.builtin "hash")⟩, ⟨PyData.keyHash P (.ofString "hex"), (.str (.ofString "hex") 27), (.builtin "hex")⟩, ⟨PyData.keyHash P (.ofString "id"), (.str (.ofString "id") 28), (.builtin "id")⟩, ⟨PyData.keyHash P (.ofString "input"), (.str (.ofString "input") 29), (.builtin "input")⟩, ⟨PyData.keyHash P (.ofString "isinstance"), (.str (.ofString "isinstance") 30), (.builtin "isinstance")⟩, ⟨PyData.keyHash P (.ofString "issubclass"), (.str (.ofString "issubclass") 31), (.builtin "issubclass")⟩, ⟨PyData.keyHash P (.ofString "iter"), (.str (.ofString "iter") 32), (.builtin "iter")⟩, ⟨PyData.keyHash P (.ofString "aiter"), (.str (.ofString "aiter") 33), (.builtin "aiter")⟩, ⟨PyData.keyHash P (.ofString "len"), (.str (.ofString "len") 34), (.builtin "len")⟩, ⟨PyData.keyHash P (.ofString "locals"), (.str (.ofString "locals") 35), (.builtin "locals")⟩, ⟨PyData.keyHash P (.ofString "max"), (.str (.ofString "max") 36), (.builtin "max")⟩, ⟨PyData.keyHash P (.ofString "min"), (.str (.ofString "min") 37), (.builtin "min")⟩, ⟨PyData.keyHash P (.ofString "next"), (.str (.ofString "next") 38), (.builtin "next")⟩, ⟨PyData.keyHash P (.ofString "anext"), (.str (.ofString "anext") 39), (.builtin "anext")⟩, ⟨PyData.keyHash P (.ofString "oct"), (.str (.ofString "oct") 40), (.builtin "oct")⟩, ⟨PyData.keyHash P (.ofString "ord"), (.str (.ofString "ord") 41), (.builtin "ord")⟩, ⟨PyData.keyHash P (.ofString "pow"), (.str (.ofString "pow") 42), (.builtin "pow")⟩, ⟨PyData.keyHash P (.ofString "print"), (.str (.ofString "print") 43), (.builtin "print")⟩, ⟨PyData.keyHash P (.ofString "repr"), (.str (.ofString "repr") 44), (.builtin "repr")⟩, ⟨PyData.keyHash P (.ofString "round"), (.str (.ofString "round") 45), (.builtin "round")⟩, ⟨PyData.keyHash P (.ofString "setattr"), (.str (.ofString "setattr") 46), (.builtin "setattr")⟩, ⟨PyData.keyHash P (.ofString "sorted"), (.str (.ofString "sorted") 47), (.builtin "sorted")⟩, ⟨PyData.keyHash P (.ofString "sum"), (.str (.ofString "sum") 48), (.builtin "sum")⟩, ⟨PyData.keyHash P (.ofString "vars"), (.str (.ofString "vars") 49), (.builtin "vars")⟩, ⟨PyData.keyHash P (.ofString "None"), (.str (.ofString "None") 50), .none⟩, ⟨PyData.keyHash P (.ofString "Ellipsis"), (.str (.ofString "Ellipsis") 51), .ellipsis⟩, ⟨PyData.keyHash P (.ofString "NotImplemented"), (.str (.ofString "NotImplemented") 52), .notImplemented⟩, ⟨PyData.keyHash P (.ofString "False"), (.str (.ofString "False") 53), (.bool false)⟩, ⟨PyData.keyHash P (.ofString "True"), (.str (.ofString "True") 54), (.bool true)⟩, ⟨PyData.keyHash P (.ofString "bool"), (.str (.ofString "bool") 55), (.type "bool")⟩, ⟨PyData.keyHash P (.ofString "memoryview"), (.str (.ofString "memoryview") 56), (.type "memoryview")⟩, ⟨PyData.keyHash P (.ofString "bytearray"), (.str (.ofString "bytearray") 57), (.type "bytearray")⟩, ⟨PyData.keyHash P (.ofString "bytes"), (.str (.ofString "bytes") 58), (.type "bytes")⟩, ⟨PyData.keyHash P (.ofString "classmethod"), (.str (.ofString "classmethod") 59), (.type "classmethod")⟩, ⟨PyData.keyHash P (.ofString "complex"), (.str (.ofString "complex") 60), (.type "complex")⟩, ⟨PyData.keyHash P (.ofString "dict"), (.str (.ofString "dict") 61), (.type "dict")⟩, ⟨PyData.keyHash P (.ofString "enumerate"), (.str (.ofString "enumerate") 62), (.type "enumerate")⟩, ⟨PyData.keyHash P (.ofString "filter"), (.str (.ofString "filter") 63), (.type "filter")⟩, ⟨PyData.keyHash P (.ofString "float"), (.str (.ofString "float") 64), (.type "float")⟩, ⟨PyData.keyHash P (.ofString "frozenset"), (.str (.ofString "frozenset") 65), (.type "frozenset")⟩, ⟨PyData.keyHash P (.ofString "property"), (.str (.ofString "property") 66), (.type "property")⟩, ⟨PyData.keyHash P (.ofString "int"), (.str (.ofString "int") 67), (.type "int")⟩, ⟨PyData.keyHash P (.ofString "list"), (.str (.ofString "list") 68), (.type "list")⟩, ⟨PyData.keyHash P (.ofString "map"), (.str (.ofString "map") 69), (.type "map")⟩, ⟨PyData.keyHash P (.ofString "object"), (.str (.ofString "object") 70), (.type "object")⟩, ⟨PyData.keyHash P (.ofString "range"), (.str (.ofString "range") 71), (.type "range")⟩, ⟨PyData.keyHash P (.ofString "reversed"), (.str (.ofString "reversed") 72), (.type "reversed")⟩, ⟨PyData.keyHash P (.ofString "set"), (.str (.ofString "set") 73), (.type "set")⟩, ⟨PyData.keyHash P (.ofString "slice"), (.str (.ofString "slice") 74), (.type "slice")⟩, ⟨PyData.keyHash P (.ofString "staticmethod"), (.str (.ofString "staticmethod") 75), (.type "staticmethod")⟩, ⟨PyData.keyHash P (.ofString "str"), (.str (.ofString "str") 76), (.type "str")⟩, ⟨PyData.keyHash P (.ofString "super"), (.str (.ofString "super") 77), (.type "super")⟩, ⟨PyData.keyHash P (.ofString "tuple"), (.str (.ofString "tuple") 78), (.type "tuple")⟩, ⟨PyData.keyHash P (.ofString "type"), (.str (.ofString "type") 79), (.type "type")⟩, ⟨PyData.keyHash P (.ofString "zip"), (.str (.ofString "zip") 80), (.type "zip")⟩, ⟨PyData.keyHash P (.ofString "__debug__"), (.str (.ofString "__debug__") 81), (.bool true)⟩, ⟨PyData.keyHash P (.ofString "BaseException"), (.str (.ofString "BaseException") 82), (.type "BaseException")⟩, ⟨PyData.keyHash P (.ofString "BaseExceptionGroup"), (.str (.ofString "BaseExceptionGroup") 83), (.type "BaseExceptionGroup")⟩, ⟨PyData.keyHash P (.ofString "Exception"), (.str (.ofString "Exception") 84), (.type "Exception")⟩, ⟨PyData.keyHash P (.ofString "GeneratorExit"), (.str (.ofString "GeneratorExit") 85), (.type "GeneratorExit")⟩, ⟨PyData.keyHash P (.ofString "KeyboardInterrupt"), (.str (.ofString "KeyboardInterrupt") 86), (.type "KeyboardInterrupt")⟩, ⟨PyData.keyHash P (.ofString "SystemExit"), (.str (.ofString "SystemExit") 87), (.type "SystemExit")⟩, ⟨PyData.keyHash P (.ofString "ArithmeticError"), (.str (.ofString "ArithmeticError") 88), (.type "ArithmeticError")⟩, ⟨PyData.keyHash P (.ofString "AssertionError"), (.str (.ofString "AssertionError") 89), (.type "AssertionError")⟩, ⟨PyData.keyHash P (.ofString "AttributeError"), (.str (.ofString "AttributeError") 90), (.type "AttributeError")⟩, ⟨PyData.keyHash P (.ofString "BufferError"), (.str (.ofString "BufferError") 91), (.type "BufferError")⟩, ⟨PyData.keyHash P (.ofString "EOFError"), (.str (.ofString "EOFError") 92), (.type "EOFError")⟩, ⟨PyData.keyHash P (.ofString "ImportError"), (.str (.ofString "ImportError") 93), (.type "ImportError")⟩, ⟨PyData.keyHash P (.ofString "LookupError"), (.str (.ofString "LookupError") 94), (.type "LookupError")⟩, ⟨PyData.keyHash P (.ofString "MemoryError"), (.str (.ofString "MemoryError") 95), (.type "MemoryError")⟩, ⟨PyData.keyHash P (.ofString "NameError"), (.str (.ofString "NameError") 96), (.type "NameError")⟩, ⟨PyData.keyHash P (.ofString "OSError"), (.str (.ofString "OSError") 97), (.type "OSError")⟩, ⟨PyData.keyHash P (.ofString "ReferenceError"), (.str (.ofString "ReferenceError") 98), (.type "ReferenceError")⟩, ⟨PyData.keyHash P (.ofString "RuntimeError"), (.str (.ofString "RuntimeError") 99), (.type "RuntimeError")⟩, ⟨PyData.keyHash P (.ofString "StopAsyncIteration"), (.str (.ofString "StopAsyncIteration") 100), (.type "StopAsyncIteration")⟩, ⟨PyData.keyHash P (.ofString "StopIteration"), (.str (.ofString "StopIteration") 101), (.type "StopIteration")⟩, ⟨PyData.keyHash P (.ofString "SyntaxError"), (.str (.ofString "SyntaxError") 102), (.type "SyntaxError")⟩, ⟨PyData.keyHash P (.ofString "SystemError"), (.str (.ofString "SystemError") 103), (.type "SystemError")⟩, ⟨PyData.keyHash P (.ofString "TypeError"), (.str (.ofString "TypeError") 104), (.type "TypeError")⟩, ⟨PyData.keyHash P (.ofString "ValueError"), (.str (.ofString "ValueError") 105), (.type "ValueError")⟩, ⟨PyData.keyHash P (.ofString "Warning"), (.str (.ofString "Warning") 106), (.type "Warning")⟩, ⟨PyData.keyHash P (.ofString "FloatingPointError"), (.str (.ofString "FloatingPointError") 107), (.type "FloatingPointError")⟩, ⟨PyData.keyHash P (.ofString "OverflowError"), (.str (.ofString "OverflowError") 108), (.type "OverflowError")⟩, ⟨PyData.keyHash P (.ofString "ZeroDivisionError"), (.str (.ofString "ZeroDivisionError") 109), (.type "ZeroDivisionError")⟩, ⟨PyData.keyHash P (.ofString "BytesWarning"), (.str (.ofString "BytesWarning") 110), (.type "BytesWarning")⟩, ⟨PyData.keyHash P (.ofString "DeprecationWarning"), (.str (.ofString "DeprecationWarning") 111), (.type "DeprecationWarning")⟩, ⟨PyData.keyHash P (.ofString "EncodingWarning"), (.str (.ofString "EncodingWarning") 112), (.type "EncodingWarning")⟩, ⟨PyData.keyHash P (.ofString "FutureWarning"), (.str (.ofString "FutureWarning") 113), (.type "FutureWarning")⟩, ⟨PyData.keyHash P (.ofString "ImportWarning"), (.str (.ofString "ImportWarning") 114), (.type "ImportWarning")⟩, ⟨PyData.keyHash P (.ofString "PendingDeprecationWarning"), (.str (.ofString "PendingDeprecationWarning") 115), (.type "PendingDeprecationWarning")⟩, ⟨PyData.keyHash P (.ofString "ResourceWarning"), (.str (.ofString "ResourceWarning") 116), (.type "ResourceWarning")⟩, ⟨PyData.keyHash P (.ofString "RuntimeWarning"), (.str (.ofString "RuntimeWarning") 117), (.type "RuntimeWarning")⟩, ⟨PyData.keyHash P (.ofString "SyntaxWarning"), (.str (.ofString "SyntaxWarning") 118), (.type "SyntaxWarning")⟩, ⟨PyData.keyHash P (.ofString "UnicodeWarning"), (.str (.ofString "UnicodeWarning") 119), (.type "UnicodeWarning")⟩, ⟨PyData.keyHash P (.ofString "UserWarning"), (.str (.ofString "UserWarning") 120), (.type "UserWarning")⟩, ⟨PyData.keyHash P (.ofString "BlockingIOError"), (.str (.ofString "BlockingIOError") 121), (.type "BlockingIOError")⟩, ⟨PyData.keyHash P (.ofString "ChildProcessError"), (.str (.ofString "ChildProcessError") 122), (.type "ChildProcessError")⟩, ⟨PyData.keyHash P (.ofString "ConnectionError"), (.str (.ofString "ConnectionError") 123), (.type "ConnectionError")⟩, ⟨PyData.keyHash P (.ofString "FileExistsError"), (.str (.ofString "FileExistsError") 124), (.type "FileExistsError")⟩, ⟨PyData.keyHash P (.ofString "FileNotFoundError"), (.str (.ofString "FileNotFoundError") 125), (.type "FileNotFoundError")⟩, ⟨PyData.keyHash P (.ofString "InterruptedError"), (.str (.ofString "InterruptedError") 126), (.type "InterruptedError")⟩, ⟨PyData.keyHash P (.ofString "IsADirectoryError"), (.str (.ofString "IsADirectoryError") 127), (.type "IsADirectoryError")⟩, ⟨PyData.keyHash P (.ofString "NotADirectoryError"), (.str (.ofString "NotADirectoryError") 128), (.type "NotADirectoryError")⟩, ⟨PyData.keyHash P (.ofString "PermissionError"), (.str (.ofString "PermissionError") 129), (.type "PermissionError")⟩, ⟨PyData.keyHash P (.ofString "ProcessLookupError"), (.str (.ofString "ProcessLookupError") 130), (.type "ProcessLookupError")⟩, ⟨PyData.keyHash P (.ofString "TimeoutError"), (.str (.ofString "TimeoutError") 131), (.type "TimeoutError")⟩, ⟨PyData.keyHash P (.ofString "IndentationError"), (.str (.ofString "IndentationError") 132), (.type "IndentationError")⟩, ⟨PyData.keyHash P (.ofString "_IncompleteInputError"), (.str (.ofString "_IncompleteInputError") 133), (.type "_IncompleteInputError")⟩, ⟨PyData.keyHash P (.ofString "IndexError"), (.str (.ofString "IndexError") 134), (.type "IndexError")⟩, ⟨PyData.keyHash P (.ofString "KeyError"), (.str (.ofString "KeyError") 135), (.type "KeyError")⟩, ⟨PyData.keyHash P (.ofString "ModuleNotFoundError"), (.str (.ofString "ModuleNotFoundError") 136), (.type "ModuleNotFoundError")⟩, ⟨PyData.keyHash P (.ofString "NotImplementedError"), (.str (.ofString "NotImplementedError") 137), (.type "NotImplementedError")⟩, ⟨PyData.keyHash P (.ofString "PythonFinalizationError"), (.str (.ofString "PythonFinalizationError") 138), (.type "PythonFinalizationError")⟩, ⟨PyData.keyHash P (.ofString "RecursionError"), (.str (.ofString "RecursionError") 139), (.type "RecursionError")⟩, ⟨PyData.keyHash P (.ofString "UnboundLocalError"), (.str (.ofString "UnboundLocalError") 140), (.type "UnboundLocalError")⟩, ⟨PyData.keyHash P (.ofString "UnicodeError"), (.str (.ofString "UnicodeError") 141), (.type "UnicodeError")⟩, ⟨PyData.keyHash P (.ofString "BrokenPipeError"), (.str (.ofString "BrokenPipeError") 142), (.type "BrokenPipeError")⟩, ⟨PyData.keyHash P (.ofString "ConnectionAbortedError"), (.str (.ofString "ConnectionAbortedError") 143), (.type "ConnectionAbortedError")⟩, ⟨PyData.keyHash P (.ofString "ConnectionRefusedError"), (.str (.ofString "ConnectionRefusedError") 144), (.type "ConnectionRefusedError")⟩, ⟨PyData.keyHash P (.ofString "ConnectionResetError"), (.str (.ofString "ConnectionResetError") 145), (.type "ConnectionResetError")⟩, ⟨PyData.keyHash P (.ofString "TabError"), (.str (.ofString "TabError") 146), (.type "TabError")⟩, ⟨PyData.keyHash P (.ofString "UnicodeDecodeError"), (.str (.ofString "UnicodeDecodeError") 147), (.type "UnicodeDecodeError")⟩, ⟨PyData.keyHash P (.ofString "UnicodeEncodeError"), (.str (.ofString "UnicodeEncodeError") 148), (.type "UnicodeEncodeError")⟩, ⟨PyData.keyHash P (.ofString "UnicodeTranslateError"), (.str (.ofString "UnicodeTranslateError") 149), (.type "UnicodeTranslateError")⟩, ⟨PyData.keyHash P (.ofString "ExceptionGroup"), (.str (.ofString "ExceptionGroup") 150), (.type "ExceptionGroup")⟩, ⟨PyData.keyHash P (.ofString "EnvironmentError"), (.str (.ofString "EnvironmentError") 151), (.type "OSError")⟩, ⟨PyData.keyHash P (.ofString "IOError"), (.str (.ofString "IOError") 152), (.type "OSError")⟩, ⟨PyData.keyHash P (.ofString "open"), (.str (.ofString "open") 153), (.builtin "open")⟩, ⟨PyData.keyHash P (.ofString "quit"), (.str (.ofString "quit") 154), (.builtin "builtins.quit#opaque")⟩, ⟨PyData.keyHash P (.ofString "exit"), (.str (.ofString "exit") 155), (.builtin "builtins.exit#opaque")⟩, ⟨PyData.keyHash P (.ofString "copyright"), (.str (.ofString "copyright") 156), (.builtin "builtins.copyright#opaque")⟩, ⟨PyData.keyHash P (.ofString "credits"), (.str (.ofString "credits") 157), (.builtin "builtins.credits#opaque")⟩, ⟨PyData.keyHash P (.ofString "license"), (.str (.ofString "license") 158), (.builtin "builtins.license#opaque")⟩, ⟨PyData.keyHash P (.ofString "help"), (.str (.ofString "help") 159), (.builtin "builtins.help#opaque")⟩] 159), #[]⟩
def o1 (P : Params) : Obj := ⟨(.type "dict"), none, (.dict #[⟨PyData.keyHash P (.ofString "builtins"), (.str (.ofString "builtins") 162), (.ref 4)⟩, ⟨PyData.keyHash P (.ofString "__main__"), (.str (.ofString "__main__") 163), (.ref 5)⟩] 2), #[]⟩
def o2 (P : Params) : Obj := ⟨.none, none, (.dict #[] 0), #[]⟩
def o3 (P : Params) : Obj := ⟨(.type "dict"), none, (.dict #[⟨PyData.keyHash P (.ofString "__name__"), (.str (.ofString "__name__") 165), (.str (.ofString "__main__") 164)⟩, ⟨PyData.keyHash P (.ofString "__doc__"), (.str (.ofString "__doc__") 166), .none⟩, ⟨PyData.keyHash P (.ofString "__package__"), (.str (.ofString "__package__") 167), .none⟩, ⟨PyData.keyHash P (.ofString "__loader__"), (.str (.ofString "__loader__") 168), (.builtin "__main__.__loader__#opaque")⟩, ⟨PyData.keyHash P (.ofString "__spec__"), (.str (.ofString "__spec__") 169), .none⟩, ⟨PyData.keyHash P (.ofString "__annotations__"), (.str (.ofString "__annotations__") 170), (.ref 6)⟩, ⟨PyData.keyHash P (.ofString "__builtins__"), (.str (.ofString "__builtins__") 171), (.ref 4)⟩, ⟨PyData.keyHash P (.ofString "__file__"), (.str (.ofString "__file__") 173), (.str (.ofString "/claim/cut.py") 172)⟩, ⟨PyData.keyHash P (.ofString "__cached__"), (.str (.ofString "__cached__") 174), .none⟩] 9), #[]⟩
def o4 (P : Params) : Obj := ⟨(.type "module"), (some 0), .plain, #[]⟩
def o5 (P : Params) : Obj := ⟨(.type "module"), (some 3), .plain, #[]⟩
def o6 (P : Params) : Obj := ⟨(.type "dict"), none, (.dict #[] 0), #[]⟩
def o7 (P : Params) : Obj := ⟨(.type "tuple"), none, (.seq #[] 0), #[]⟩
def o8 (P : Params) : Obj := ⟨.none, none, (.fields #[]), #[]⟩
def o9 (P : Params) : Obj := ⟨(.type "code"), none, (.fields #[(.str (.ofString "<module>") 176), (.str (.ofString "<module>") 177), (.str (.ofString "/claim/cut.py") 178), (.int 1 0), (.int 0 0), (.int 0 0), (.int 0 0), (.int 0 0), (.ref 7), (.bool false), (.int 175 0), (.ref 8), .none, .none, .none, .none, (.int 179 0), (.int 1 0), (.str (.ofString "/claim/cut.py") 180)]), #[]⟩
def o10 (P : Params) : Obj := ⟨(.type "frame"), none, .plain, #[(some (.ref 9)), (some (.ref 3)), (some (.ref 3)), none, (some (.str (.ofString "__main__") 164)), none, (some (.ref 0))]⟩
def o11 (P : Params) : Obj := ⟨(.type "tuple"), none, (.seq #[] 0), #[]⟩
def o12 (P : Params) : Obj := ⟨.none, none, (.fields #[]), #[]⟩
def o13 (P : Params) : Obj := ⟨(.type "code"), none, (.fields #[(.str (.ofString "<module>") 182), (.str (.ofString "<module>") 183), (.str (.ofString "/claim/cut.py") 184), (.int 1 0), (.int 0 0), (.int 0 0), (.int 0 0), (.int 0 0), (.ref 11), (.bool false), (.int 181 0), (.ref 12), .none, .none, .none, .none, (.int 185 0), (.int 1 0), (.str (.ofString "/claim/cut.py") 186)]), #[]⟩
def o14 (P : Params) : Obj := ⟨(.type "frame"), none, .plain, #[(some (.ref 13)), (some (.ref 3)), (some (.ref 3)), none, (some (.str (.ofString "__main__") 164)), none, (some (.ref 0))]⟩
def o3v1 (P : Params) : Obj := ⟨(.type "dict"), none, (.dict #[⟨PyData.keyHash P (.ofString "__name__"), (.str (.ofString "__name__") 165), (.str (.ofString "onestaff.errors") 187)⟩, ⟨PyData.keyHash P (.ofString "__doc__"), (.str (.ofString "__doc__") 166), .none⟩, ⟨PyData.keyHash P (.ofString "__package__"), (.str (.ofString "__package__") 167), .none⟩, ⟨PyData.keyHash P (.ofString "__loader__"), (.str (.ofString "__loader__") 168), (.builtin "__main__.__loader__#opaque")⟩, ⟨PyData.keyHash P (.ofString "__spec__"), (.str (.ofString "__spec__") 169), .none⟩, ⟨PyData.keyHash P (.ofString "__annotations__"), (.str (.ofString "__annotations__") 170), (.ref 6)⟩, ⟨PyData.keyHash P (.ofString "__builtins__"), (.str (.ofString "__builtins__") 171), (.ref 4)⟩, ⟨PyData.keyHash P (.ofString "__file__"), (.str (.ofString "__file__") 173), (.str (.ofString "/claim/cut.py") 172)⟩, ⟨PyData.keyHash P (.ofString "__cached__"), (.str (.ofString "__cached__") 174), .none⟩, ⟨PyData.keyHash P (.ofString "StaffError"), (.str (.ofString "StaffError") 214), (.ref 31)⟩, ⟨PyData.keyHash P (.ofString "NoName"), (.str (.ofString "NoName") 239), (.ref 51)⟩, ⟨PyData.keyHash P (.ofString "NoPlace"), (.str (.ofString "NoPlace") 264), (.ref 70)⟩, ⟨PyData.keyHash P (.ofString "NoTrain"), (.str (.ofString "NoTrain") 289), (.ref 89)⟩, ⟨PyData.keyHash P (.ofString "NoTrains"), (.str (.ofString "NoTrains") 314), (.ref 108)⟩, ⟨PyData.keyHash P (.ofString "NoEnds"), (.str (.ofString "NoEnds") 339), (.ref 127)⟩, ⟨PyData.keyHash P (.ofString "NoStretch"), (.str (.ofString "NoStretch") 364), (.ref 146)⟩, ⟨PyData.keyHash P (.ofString "NoLong"), (.str (.ofString "NoLong") 389), (.ref 165)⟩, ⟨PyData.keyHash P (.ofString "NoPlaces"), (.str (.ofString "NoPlaces") 414), (.ref 184)⟩, ⟨PyData.keyHash P (.ofString "NoStretches"), (.str (.ofString "NoStretches") 439), (.ref 203)⟩, ⟨PyData.keyHash P (.ofString "NoLongs"), (.str (.ofString "NoLongs") 464), (.ref 222)⟩, ⟨PyData.keyHash P (.ofString "NoNumber"), (.str (.ofString "NoNumber") 489), (.ref 241)⟩, ⟨PyData.keyHash P (.ofString "NoThing"), (.str (.ofString "NoThing") 514), (.ref 260)⟩, ⟨PyData.keyHash P (.ofString "NoKind"), (.str (.ofString "NoKind") 539), (.ref 279)⟩, ⟨PyData.keyHash P (.ofString "NoWord"), (.str (.ofString "NoWord") 564), (.ref 298)⟩, ⟨PyData.keyHash P (.ofString "NoDeed"), (.str (.ofString "NoDeed") 589), (.ref 317)⟩, ⟨PyData.keyHash P (.ofString "NoWay"), (.str (.ofString "NoWay") 614), (.ref 336)⟩] 26), #[]⟩
def o12v1 (P : Params) : Obj := ⟨.none, none, (.fields #[(.int 2 0), (.int 0 0), (.ref 20), (.int 6 0), (.int 0 0), (.ref 40), (.int 11 0), (.int 0 0), (.ref 59), (.int 16 0), (.int 0 0), (.ref 78), (.int 21 0), (.int 0 0), (.ref 97), (.int 26 0), (.int 0 0), (.ref 116), (.int 31 0), (.int 0 0), (.ref 135), (.int 36 0), (.int 0 0), (.ref 154), (.int 41 0), (.int 0 0), (.ref 173), (.int 46 0), (.int 0 0), (.ref 192), (.int 51 0), (.int 0 0), (.ref 211), (.int 56 0), (.int 0 0), (.ref 230), (.int 61 0), (.int 0 0), (.ref 249), (.int 66 0), (.int 0 0), (.ref 268), (.int 71 0), (.int 0 0), (.ref 287), (.int 76 0), (.int 0 0), (.ref 306), (.int 81 0), (.int 0 0), (.ref 325)]), #[]⟩
def o15v1 (P : Params) : Obj := ⟨(.type "tuple"), none, (.seq #[(.type "ValueError")] 0), #[]⟩
def o16v1 (P : Params) : Obj := ⟨(.type "builtin_function_or_method"), none, (.fields #[(.builtin "type.__prepare__"), (.type "type")]), #[]⟩
def o17v1 (P : Params) : Obj := ⟨(.type "dict"), none, (.dict #[⟨PyData.keyHash P (.ofString "__module__"), (.str (.ofString "__module__") 196), (.str (.ofString "onestaff.errors") 187)⟩, ⟨PyData.keyHash P (.ofString "__qualname__"), (.str (.ofString "__qualname__") 198), (.str (.ofString "StaffError") 197)⟩, ⟨PyData.keyHash P (.ofString "__firstlineno__"), (.str (.ofString "__firstlineno__") 200), (.int 2 199)⟩, ⟨PyData.keyHash P (.ofString "__init__"), (.str (.ofString "__init__") 208), (.ref 28)⟩, ⟨PyData.keyHash P (.ofString "__static_attributes__"), (.str (.ofString "__static_attributes__") 209), (.ref 29)⟩] 5), #[]⟩
def o18v1 (P : Params) : Obj := ⟨(.type "tuple"), none, (.seq #[] 0), #[]⟩
def o19v1 (P : Params) : Obj := ⟨.none, none, (.fields #[(.int 4 0), (.int 4 0), (.ref 27)]), #[]⟩
def o20v1 (P : Params) : Obj := ⟨(.type "code"), none, (.fields #[(.str (.ofString "StaffError") 191), (.str (.ofString "StaffError") 192), (.str (.ofString "/claim/cut.py") 193), (.int 2 0), (.int 0 0), (.int 0 0), (.int 0 0), (.int 0 0), (.ref 18), (.bool false), (.int 181 0), (.ref 19), .none, .none, .none, .none, (.int 194 0), (.int 2 0), (.str (.ofString "/claim/cut.py") 195)]), #[]⟩
def o21v1 (P : Params) : Obj := ⟨(.type "frame"), none, .plain, #[(some (.ref 20)), (some (.ref 3)), (some (.ref 17)), none, (some (.str (.ofString "onestaff.errors") 187)), none, (some (.ref 0))]⟩
def o22v1 (P : Params) : Obj := ⟨(.type "tuple"), none, (.seq #[] 0), #[]⟩
def o23v1 (P : Params) : Obj := ⟨.none, none, (.fields #[]), #[]⟩
def o24v1 (P : Params) : Obj := ⟨(.type "tuple"), none, (.seq #[(.str (.ofString "self") 204), (.str (.ofString "text") 205)] 0), #[]⟩
def o25v1 (P : Params) : Obj := ⟨(.type "tuple"), none, (.seq #[] 0), #[]⟩
def o26v1 (P : Params) : Obj := ⟨.none, none, (.func { name := (.ofString "__init__"), qualname := (.ofString "StaffError.__init__"), params := defArgs (inClass (tp 1) 0), body := .stmts (defBody (inClass (tp 1) 0)), scope := defScope (inClass (tp 1) 0), globals := 0, closure := [], defaults := .none, kwdefaults := .none }), #[]⟩
def o27v1 (P : Params) : Obj := ⟨(.type "code"), none, (.fields #[(.str (.ofString "__init__") 201), (.str (.ofString "StaffError.__init__") 202), (.str (.ofString "/claim/cut.py") 203), (.int 4 0), (.int 2 0), (.int 0 0), (.int 0 0), (.int 3 0), (.ref 22), (.bool true), (.int 181 0), (.ref 23), .none, (.ref 24), (.ref 25), (.ref 26), (.int 206 0), (.int 4 0), (.str (.ofString "/claim/cut.py") 207)]), #[]⟩
def o28v1 (P : Params) : Obj := ⟨(.type "function"), none, (.func { name := (.ofString "__init__"), qualname := (.ofString "StaffError.__init__"), params := defArgs (inClass (tp 1) 0), body := .stmts (defBody (inClass (tp 1) 0)), scope := defScope (inClass (tp 1) 0), globals := 3, closure := [], defaults := .none, kwdefaults := .none, pyModule := (.str (.ofString "onestaff.errors") 187), code := (.ref 27) }), #[]⟩
def o29v1 (P : Params) : Obj := ⟨(.type "tuple"), none, (.seq #[] 0), #[]⟩
def o30v1 (P : Params) : Obj := ⟨(.type "dict"), none, (.dict #[⟨PyData.keyHash P (.ofString "__module__"), (.str (.ofString "__module__") 196), (.str (.ofString "onestaff.errors") 187)⟩, ⟨PyData.keyHash P (.ofString "__firstlineno__"), (.str (.ofString "__firstlineno__") 200), (.int 2 199)⟩, ⟨PyData.keyHash P (.ofString "__init__"), (.str (.ofString "__init__") 208), (.ref 28)⟩, ⟨PyData.keyHash P (.ofString "__static_attributes__"), (.str (.ofString "__static_attributes__") 209), (.ref 29)⟩, ⟨PyData.keyHash P (.ofString "__weakref__"), (.str (.ofString "__weakref__") 211), (.ref 32)⟩, ⟨PyData.keyHash P (.ofString "__doc__"), (.str (.ofString "__doc__") 212), .none⟩] 3), #[]⟩
def o31v1 (P : Params) : Obj := ⟨(.type "type"), none, (.cls { name := (.ofString "StaffError"), bases := [(.type "ValueError")], mro := [(.ref 31), (.type "ValueError"), (.type "Exception"), (.type "BaseException"), (.type "object")], ns := 30, qualname := (.ofString "StaffError"), subclasses := [(.ref 51), (.ref 70), (.ref 89), (.ref 108), (.ref 127), (.ref 146), (.ref 165), (.ref 184), (.ref 203), (.ref 222), (.ref 241), (.ref 260), (.ref 279), (.ref 298), (.ref 317), (.ref 336)] }), #[(some (.ref 15)), none, (some (.str (.ofString "StaffError") 189)), (some (.str (.ofString "StaffError") 197)), (some (.builtin "ValueError.__new__")), (some (.bool true))]⟩
def o32v1 (P : Params) : Obj := ⟨(.type "getset_descriptor"), none, (.fields #[(.str (.ofString "__weakref__") 210), (.ref 31), (.builtin "ExceptionGroup.__weakref__"), .none]), #[]⟩
def o33v1 (P : Params) : Obj := ⟨(.type "super"), none, (.fields #[(.ref 31), (.ref 31), (.ref 31)]), #[]⟩
def o34v1 (P : Params) : Obj := ⟨(.type "builtin_function_or_method"), none, (.fields #[(.builtin "object.__init_subclass__"), (.ref 31)]), #[]⟩
def o35v1 (P : Params) : Obj := ⟨(.type "tuple"), none, (.seq #[(.ref 31)] 0), #[]⟩
def o36v1 (P : Params) : Obj := ⟨(.type "builtin_function_or_method"), none, (.fields #[(.builtin "type.__prepare__"), (.type "type")]), #[]⟩
def o37v1 (P : Params) : Obj := ⟨(.type "dict"), none, (.dict #[⟨PyData.keyHash P (.ofString "__module__"), (.str (.ofString "__module__") 222), (.str (.ofString "onestaff.errors") 187)⟩, ⟨PyData.keyHash P (.ofString "__qualname__"), (.str (.ofString "__qualname__") 224), (.str (.ofString "NoName") 223)⟩, ⟨PyData.keyHash P (.ofString "__firstlineno__"), (.str (.ofString "__firstlineno__") 226), (.int 6 225)⟩, ⟨PyData.keyHash P (.ofString "__init__"), (.str (.ofString "__init__") 234), (.ref 48)⟩, ⟨PyData.keyHash P (.ofString "__static_attributes__"), (.str (.ofString "__static_attributes__") 236), (.ref 49)⟩] 5), #[]⟩
def o38v1 (P : Params) : Obj := ⟨(.type "tuple"), none, (.seq #[] 0), #[]⟩
def o39v1 (P : Params) : Obj := ⟨.none, none, (.fields #[(.int 8 0), (.int 4 0), (.ref 47)]), #[]⟩
def o40v1 (P : Params) : Obj := ⟨(.type "code"), none, (.fields #[(.str (.ofString "NoName") 217), (.str (.ofString "NoName") 218), (.str (.ofString "/claim/cut.py") 219), (.int 6 0), (.int 0 0), (.int 0 0), (.int 0 0), (.int 0 0), (.ref 38), (.bool false), (.int 181 0), (.ref 39), .none, .none, .none, .none, (.int 220 0), (.int 6 0), (.str (.ofString "/claim/cut.py") 221)]), #[]⟩
def o41v1 (P : Params) : Obj := ⟨(.type "frame"), none, .plain, #[(some (.ref 40)), (some (.ref 3)), (some (.ref 37)), none, (some (.str (.ofString "onestaff.errors") 187)), none, (some (.ref 0))]⟩
def o42v1 (P : Params) : Obj := ⟨(.type "tuple"), none, (.seq #[] 0), #[]⟩
def o43v1 (P : Params) : Obj := ⟨.none, none, (.fields #[]), #[]⟩
def o44v1 (P : Params) : Obj := ⟨(.type "tuple"), none, (.seq #[(.str (.ofString "self") 230), (.str (.ofString "found") 231)] 0), #[]⟩
def o45v1 (P : Params) : Obj := ⟨(.type "tuple"), none, (.seq #[] 0), #[]⟩
def o46v1 (P : Params) : Obj := ⟨.none, none, (.func { name := (.ofString "__init__"), qualname := (.ofString "NoName.__init__"), params := defArgs (inClass (tp 2) 0), body := .stmts (defBody (inClass (tp 2) 0)), scope := defScope (inClass (tp 2) 0), globals := 0, closure := [], defaults := .none, kwdefaults := .none }), #[]⟩
def o47v1 (P : Params) : Obj := ⟨(.type "code"), none, (.fields #[(.str (.ofString "__init__") 227), (.str (.ofString "NoName.__init__") 228), (.str (.ofString "/claim/cut.py") 229), (.int 8 0), (.int 2 0), (.int 0 0), (.int 0 0), (.int 3 0), (.ref 42), (.bool true), (.int 181 0), (.ref 43), .none, (.ref 44), (.ref 45), (.ref 46), (.int 232 0), (.int 8 0), (.str (.ofString "/claim/cut.py") 233)]), #[]⟩
def o48v1 (P : Params) : Obj := ⟨(.type "function"), none, (.func { name := (.ofString "__init__"), qualname := (.ofString "NoName.__init__"), params := defArgs (inClass (tp 2) 0), body := .stmts (defBody (inClass (tp 2) 0)), scope := defScope (inClass (tp 2) 0), globals := 3, closure := [], defaults := .none, kwdefaults := .none, pyModule := (.str (.ofString "onestaff.errors") 187), code := (.ref 47) }), #[]⟩
def o49v1 (P : Params) : Obj := ⟨(.type "tuple"), none, (.seq #[(.str (.ofString "found") 235)] 0), #[]⟩
def o50v1 (P : Params) : Obj := ⟨(.type "dict"), none, (.dict #[⟨PyData.keyHash P (.ofString "__module__"), (.str (.ofString "__module__") 222), (.str (.ofString "onestaff.errors") 187)⟩, ⟨PyData.keyHash P (.ofString "__firstlineno__"), (.str (.ofString "__firstlineno__") 226), (.int 6 225)⟩, ⟨PyData.keyHash P (.ofString "__init__"), (.str (.ofString "__init__") 234), (.ref 48)⟩, ⟨PyData.keyHash P (.ofString "__static_attributes__"), (.str (.ofString "__static_attributes__") 236), (.ref 49)⟩, ⟨PyData.keyHash P (.ofString "__doc__"), (.str (.ofString "__doc__") 237), .none⟩] 2), #[]⟩
def o51v1 (P : Params) : Obj := ⟨(.type "type"), none, (.cls { name := (.ofString "NoName"), bases := [(.ref 31)], mro := [(.ref 51), (.ref 31), (.type "ValueError"), (.type "Exception"), (.type "BaseException"), (.type "object")], ns := 50, qualname := (.ofString "NoName") }), #[(some (.ref 35)), none, (some (.str (.ofString "NoName") 215)), (some (.str (.ofString "NoName") 223)), (some (.builtin "ValueError.__new__")), (some (.bool true))]⟩
def o52v1 (P : Params) : Obj := ⟨(.type "super"), none, (.fields #[(.ref 51), (.ref 51), (.ref 51)]), #[]⟩
def o53v1 (P : Params) : Obj := ⟨(.type "builtin_function_or_method"), none, (.fields #[(.builtin "object.__init_subclass__"), (.ref 51)]), #[]⟩
def o54v1 (P : Params) : Obj := ⟨(.type "tuple"), none, (.seq #[(.ref 31)] 0), #[]⟩
def o55v1 (P : Params) : Obj := ⟨(.type "builtin_function_or_method"), none, (.fields #[(.builtin "type.__prepare__"), (.type "type")]), #[]⟩
def o56v1 (P : Params) : Obj := ⟨(.type "dict"), none, (.dict #[⟨PyData.keyHash P (.ofString "__module__"), (.str (.ofString "__module__") 247), (.str (.ofString "onestaff.errors") 187)⟩, ⟨PyData.keyHash P (.ofString "__qualname__"), (.str (.ofString "__qualname__") 249), (.str (.ofString "NoPlace") 248)⟩, ⟨PyData.keyHash P (.ofString "__firstlineno__"), (.str (.ofString "__firstlineno__") 251), (.int 11 250)⟩, ⟨PyData.keyHash P (.ofString "__init__"), (.str (.ofString "__init__") 259), (.ref 67)⟩, ⟨PyData.keyHash P (.ofString "__static_attributes__"), (.str (.ofString "__static_attributes__") 261), (.ref 68)⟩] 5), #[]⟩
def o57v1 (P : Params) : Obj := ⟨(.type "tuple"), none, (.seq #[] 0), #[]⟩
def o58v1 (P : Params) : Obj := ⟨.none, none, (.fields #[(.int 13 0), (.int 4 0), (.ref 66)]), #[]⟩
def o59v1 (P : Params) : Obj := ⟨(.type "code"), none, (.fields #[(.str (.ofString "NoPlace") 242), (.str (.ofString "NoPlace") 243), (.str (.ofString "/claim/cut.py") 244), (.int 11 0), (.int 0 0), (.int 0 0), (.int 0 0), (.int 0 0), (.ref 57), (.bool false), (.int 181 0), (.ref 58), .none, .none, .none, .none, (.int 245 0), (.int 11 0), (.str (.ofString "/claim/cut.py") 246)]), #[]⟩
def o60v1 (P : Params) : Obj := ⟨(.type "frame"), none, .plain, #[(some (.ref 59)), (some (.ref 3)), (some (.ref 56)), none, (some (.str (.ofString "onestaff.errors") 187)), none, (some (.ref 0))]⟩
def o61v1 (P : Params) : Obj := ⟨(.type "tuple"), none, (.seq #[] 0), #[]⟩
def o62v1 (P : Params) : Obj := ⟨.none, none, (.fields #[]), #[]⟩
def o63v1 (P : Params) : Obj := ⟨(.type "tuple"), none, (.seq #[(.str (.ofString "self") 255), (.str (.ofString "found") 256)] 0), #[]⟩
def o64v1 (P : Params) : Obj := ⟨(.type "tuple"), none, (.seq #[] 0), #[]⟩
def o65v1 (P : Params) : Obj := ⟨.none, none, (.func { name := (.ofString "__init__"), qualname := (.ofString "NoPlace.__init__"), params := defArgs (inClass (tp 3) 0), body := .stmts (defBody (inClass (tp 3) 0)), scope := defScope (inClass (tp 3) 0), globals := 0, closure := [], defaults := .none, kwdefaults := .none }), #[]⟩
def o66v1 (P : Params) : Obj := ⟨(.type "code"), none, (.fields #[(.str (.ofString "__init__") 252), (.str (.ofString "NoPlace.__init__") 253), (.str (.ofString "/claim/cut.py") 254), (.int 13 0), (.int 2 0), (.int 0 0), (.int 0 0), (.int 3 0), (.ref 61), (.bool true), (.int 181 0), (.ref 62), .none, (.ref 63), (.ref 64), (.ref 65), (.int 257 0), (.int 13 0), (.str (.ofString "/claim/cut.py") 258)]), #[]⟩
def o67v1 (P : Params) : Obj := ⟨(.type "function"), none, (.func { name := (.ofString "__init__"), qualname := (.ofString "NoPlace.__init__"), params := defArgs (inClass (tp 3) 0), body := .stmts (defBody (inClass (tp 3) 0)), scope := defScope (inClass (tp 3) 0), globals := 3, closure := [], defaults := .none, kwdefaults := .none, pyModule := (.str (.ofString "onestaff.errors") 187), code := (.ref 66) }), #[]⟩
def o68v1 (P : Params) : Obj := ⟨(.type "tuple"), none, (.seq #[(.str (.ofString "found") 260)] 0), #[]⟩
def o69v1 (P : Params) : Obj := ⟨(.type "dict"), none, (.dict #[⟨PyData.keyHash P (.ofString "__module__"), (.str (.ofString "__module__") 247), (.str (.ofString "onestaff.errors") 187)⟩, ⟨PyData.keyHash P (.ofString "__firstlineno__"), (.str (.ofString "__firstlineno__") 251), (.int 11 250)⟩, ⟨PyData.keyHash P (.ofString "__init__"), (.str (.ofString "__init__") 259), (.ref 67)⟩, ⟨PyData.keyHash P (.ofString "__static_attributes__"), (.str (.ofString "__static_attributes__") 261), (.ref 68)⟩, ⟨PyData.keyHash P (.ofString "__doc__"), (.str (.ofString "__doc__") 262), .none⟩] 2), #[]⟩
def o70v1 (P : Params) : Obj := ⟨(.type "type"), none, (.cls { name := (.ofString "NoPlace"), bases := [(.ref 31)], mro := [(.ref 70), (.ref 31), (.type "ValueError"), (.type "Exception"), (.type "BaseException"), (.type "object")], ns := 69, qualname := (.ofString "NoPlace") }), #[(some (.ref 54)), none, (some (.str (.ofString "NoPlace") 240)), (some (.str (.ofString "NoPlace") 248)), (some (.builtin "ValueError.__new__")), (some (.bool true))]⟩
def o71v1 (P : Params) : Obj := ⟨(.type "super"), none, (.fields #[(.ref 70), (.ref 70), (.ref 70)]), #[]⟩
def o72v1 (P : Params) : Obj := ⟨(.type "builtin_function_or_method"), none, (.fields #[(.builtin "object.__init_subclass__"), (.ref 70)]), #[]⟩
def o73v1 (P : Params) : Obj := ⟨(.type "tuple"), none, (.seq #[(.ref 31)] 0), #[]⟩
def o74v1 (P : Params) : Obj := ⟨(.type "builtin_function_or_method"), none, (.fields #[(.builtin "type.__prepare__"), (.type "type")]), #[]⟩
def o75v1 (P : Params) : Obj := ⟨(.type "dict"), none, (.dict #[⟨PyData.keyHash P (.ofString "__module__"), (.str (.ofString "__module__") 272), (.str (.ofString "onestaff.errors") 187)⟩, ⟨PyData.keyHash P (.ofString "__qualname__"), (.str (.ofString "__qualname__") 274), (.str (.ofString "NoTrain") 273)⟩, ⟨PyData.keyHash P (.ofString "__firstlineno__"), (.str (.ofString "__firstlineno__") 276), (.int 16 275)⟩, ⟨PyData.keyHash P (.ofString "__init__"), (.str (.ofString "__init__") 284), (.ref 86)⟩, ⟨PyData.keyHash P (.ofString "__static_attributes__"), (.str (.ofString "__static_attributes__") 286), (.ref 87)⟩] 5), #[]⟩
def o76v1 (P : Params) : Obj := ⟨(.type "tuple"), none, (.seq #[] 0), #[]⟩
def o77v1 (P : Params) : Obj := ⟨.none, none, (.fields #[(.int 18 0), (.int 4 0), (.ref 85)]), #[]⟩
def o78v1 (P : Params) : Obj := ⟨(.type "code"), none, (.fields #[(.str (.ofString "NoTrain") 267), (.str (.ofString "NoTrain") 268), (.str (.ofString "/claim/cut.py") 269), (.int 16 0), (.int 0 0), (.int 0 0), (.int 0 0), (.int 0 0), (.ref 76), (.bool false), (.int 181 0), (.ref 77), .none, .none, .none, .none, (.int 270 0), (.int 16 0), (.str (.ofString "/claim/cut.py") 271)]), #[]⟩
def o79v1 (P : Params) : Obj := ⟨(.type "frame"), none, .plain, #[(some (.ref 78)), (some (.ref 3)), (some (.ref 75)), none, (some (.str (.ofString "onestaff.errors") 187)), none, (some (.ref 0))]⟩
def o80v1 (P : Params) : Obj := ⟨(.type "tuple"), none, (.seq #[] 0), #[]⟩
def o81v1 (P : Params) : Obj := ⟨.none, none, (.fields #[]), #[]⟩
def o82v1 (P : Params) : Obj := ⟨(.type "tuple"), none, (.seq #[(.str (.ofString "self") 280), (.str (.ofString "found") 281)] 0), #[]⟩
def o83v1 (P : Params) : Obj := ⟨(.type "tuple"), none, (.seq #[] 0), #[]⟩
def o84v1 (P : Params) : Obj := ⟨.none, none, (.func { name := (.ofString "__init__"), qualname := (.ofString "NoTrain.__init__"), params := defArgs (inClass (tp 4) 0), body := .stmts (defBody (inClass (tp 4) 0)), scope := defScope (inClass (tp 4) 0), globals := 0, closure := [], defaults := .none, kwdefaults := .none }), #[]⟩
def o85v1 (P : Params) : Obj := ⟨(.type "code"), none, (.fields #[(.str (.ofString "__init__") 277), (.str (.ofString "NoTrain.__init__") 278), (.str (.ofString "/claim/cut.py") 279), (.int 18 0), (.int 2 0), (.int 0 0), (.int 0 0), (.int 3 0), (.ref 80), (.bool true), (.int 181 0), (.ref 81), .none, (.ref 82), (.ref 83), (.ref 84), (.int 282 0), (.int 18 0), (.str (.ofString "/claim/cut.py") 283)]), #[]⟩
def o86v1 (P : Params) : Obj := ⟨(.type "function"), none, (.func { name := (.ofString "__init__"), qualname := (.ofString "NoTrain.__init__"), params := defArgs (inClass (tp 4) 0), body := .stmts (defBody (inClass (tp 4) 0)), scope := defScope (inClass (tp 4) 0), globals := 3, closure := [], defaults := .none, kwdefaults := .none, pyModule := (.str (.ofString "onestaff.errors") 187), code := (.ref 85) }), #[]⟩
def o87v1 (P : Params) : Obj := ⟨(.type "tuple"), none, (.seq #[(.str (.ofString "found") 285)] 0), #[]⟩
def o88v1 (P : Params) : Obj := ⟨(.type "dict"), none, (.dict #[⟨PyData.keyHash P (.ofString "__module__"), (.str (.ofString "__module__") 272), (.str (.ofString "onestaff.errors") 187)⟩, ⟨PyData.keyHash P (.ofString "__firstlineno__"), (.str (.ofString "__firstlineno__") 276), (.int 16 275)⟩, ⟨PyData.keyHash P (.ofString "__init__"), (.str (.ofString "__init__") 284), (.ref 86)⟩, ⟨PyData.keyHash P (.ofString "__static_attributes__"), (.str (.ofString "__static_attributes__") 286), (.ref 87)⟩, ⟨PyData.keyHash P (.ofString "__doc__"), (.str (.ofString "__doc__") 287), .none⟩] 2), #[]⟩
def o89v1 (P : Params) : Obj := ⟨(.type "type"), none, (.cls { name := (.ofString "NoTrain"), bases := [(.ref 31)], mro := [(.ref 89), (.ref 31), (.type "ValueError"), (.type "Exception"), (.type "BaseException"), (.type "object")], ns := 88, qualname := (.ofString "NoTrain") }), #[(some (.ref 73)), none, (some (.str (.ofString "NoTrain") 265)), (some (.str (.ofString "NoTrain") 273)), (some (.builtin "ValueError.__new__")), (some (.bool true))]⟩
def o90v1 (P : Params) : Obj := ⟨(.type "super"), none, (.fields #[(.ref 89), (.ref 89), (.ref 89)]), #[]⟩
def o91v1 (P : Params) : Obj := ⟨(.type "builtin_function_or_method"), none, (.fields #[(.builtin "object.__init_subclass__"), (.ref 89)]), #[]⟩
def o92v1 (P : Params) : Obj := ⟨(.type "tuple"), none, (.seq #[(.ref 31)] 0), #[]⟩
def o93v1 (P : Params) : Obj := ⟨(.type "builtin_function_or_method"), none, (.fields #[(.builtin "type.__prepare__"), (.type "type")]), #[]⟩
def o94v1 (P : Params) : Obj := ⟨(.type "dict"), none, (.dict #[⟨PyData.keyHash P (.ofString "__module__"), (.str (.ofString "__module__") 297), (.str (.ofString "onestaff.errors") 187)⟩, ⟨PyData.keyHash P (.ofString "__qualname__"), (.str (.ofString "__qualname__") 299), (.str (.ofString "NoTrains") 298)⟩, ⟨PyData.keyHash P (.ofString "__firstlineno__"), (.str (.ofString "__firstlineno__") 301), (.int 21 300)⟩, ⟨PyData.keyHash P (.ofString "__init__"), (.str (.ofString "__init__") 309), (.ref 105)⟩, ⟨PyData.keyHash P (.ofString "__static_attributes__"), (.str (.ofString "__static_attributes__") 311), (.ref 106)⟩] 5), #[]⟩
def o95v1 (P : Params) : Obj := ⟨(.type "tuple"), none, (.seq #[] 0), #[]⟩
def o96v1 (P : Params) : Obj := ⟨.none, none, (.fields #[(.int 23 0), (.int 4 0), (.ref 104)]), #[]⟩
def o97v1 (P : Params) : Obj := ⟨(.type "code"), none, (.fields #[(.str (.ofString "NoTrains") 292), (.str (.ofString "NoTrains") 293), (.str (.ofString "/claim/cut.py") 294), (.int 21 0), (.int 0 0), (.int 0 0), (.int 0 0), (.int 0 0), (.ref 95), (.bool false), (.int 181 0), (.ref 96), .none, .none, .none, .none, (.int 295 0), (.int 21 0), (.str (.ofString "/claim/cut.py") 296)]), #[]⟩
def o98v1 (P : Params) : Obj := ⟨(.type "frame"), none, .plain, #[(some (.ref 97)), (some (.ref 3)), (some (.ref 94)), none, (some (.str (.ofString "onestaff.errors") 187)), none, (some (.ref 0))]⟩
def o99v1 (P : Params) : Obj := ⟨(.type "tuple"), none, (.seq #[] 0), #[]⟩
def o100v1 (P : Params) : Obj := ⟨.none, none, (.fields #[]), #[]⟩
def o101v1 (P : Params) : Obj := ⟨(.type "tuple"), none, (.seq #[(.str (.ofString "self") 305), (.str (.ofString "found") 306)] 0), #[]⟩
def o102v1 (P : Params) : Obj := ⟨(.type "tuple"), none, (.seq #[] 0), #[]⟩
def o103v1 (P : Params) : Obj := ⟨.none, none, (.func { name := (.ofString "__init__"), qualname := (.ofString "NoTrains.__init__"), params := defArgs (inClass (tp 5) 0), body := .stmts (defBody (inClass (tp 5) 0)), scope := defScope (inClass (tp 5) 0), globals := 0, closure := [], defaults := .none, kwdefaults := .none }), #[]⟩
def o104v1 (P : Params) : Obj := ⟨(.type "code"), none, (.fields #[(.str (.ofString "__init__") 302), (.str (.ofString "NoTrains.__init__") 303), (.str (.ofString "/claim/cut.py") 304), (.int 23 0), (.int 2 0), (.int 0 0), (.int 0 0), (.int 3 0), (.ref 99), (.bool true), (.int 181 0), (.ref 100), .none, (.ref 101), (.ref 102), (.ref 103), (.int 307 0), (.int 23 0), (.str (.ofString "/claim/cut.py") 308)]), #[]⟩
def o105v1 (P : Params) : Obj := ⟨(.type "function"), none, (.func { name := (.ofString "__init__"), qualname := (.ofString "NoTrains.__init__"), params := defArgs (inClass (tp 5) 0), body := .stmts (defBody (inClass (tp 5) 0)), scope := defScope (inClass (tp 5) 0), globals := 3, closure := [], defaults := .none, kwdefaults := .none, pyModule := (.str (.ofString "onestaff.errors") 187), code := (.ref 104) }), #[]⟩
def o106v1 (P : Params) : Obj := ⟨(.type "tuple"), none, (.seq #[(.str (.ofString "found") 310)] 0), #[]⟩
def o107v1 (P : Params) : Obj := ⟨(.type "dict"), none, (.dict #[⟨PyData.keyHash P (.ofString "__module__"), (.str (.ofString "__module__") 297), (.str (.ofString "onestaff.errors") 187)⟩, ⟨PyData.keyHash P (.ofString "__firstlineno__"), (.str (.ofString "__firstlineno__") 301), (.int 21 300)⟩, ⟨PyData.keyHash P (.ofString "__init__"), (.str (.ofString "__init__") 309), (.ref 105)⟩, ⟨PyData.keyHash P (.ofString "__static_attributes__"), (.str (.ofString "__static_attributes__") 311), (.ref 106)⟩, ⟨PyData.keyHash P (.ofString "__doc__"), (.str (.ofString "__doc__") 312), .none⟩] 2), #[]⟩
def o108v1 (P : Params) : Obj := ⟨(.type "type"), none, (.cls { name := (.ofString "NoTrains"), bases := [(.ref 31)], mro := [(.ref 108), (.ref 31), (.type "ValueError"), (.type "Exception"), (.type "BaseException"), (.type "object")], ns := 107, qualname := (.ofString "NoTrains") }), #[(some (.ref 92)), none, (some (.str (.ofString "NoTrains") 290)), (some (.str (.ofString "NoTrains") 298)), (some (.builtin "ValueError.__new__")), (some (.bool true))]⟩
def o109v1 (P : Params) : Obj := ⟨(.type "super"), none, (.fields #[(.ref 108), (.ref 108), (.ref 108)]), #[]⟩
def o110v1 (P : Params) : Obj := ⟨(.type "builtin_function_or_method"), none, (.fields #[(.builtin "object.__init_subclass__"), (.ref 108)]), #[]⟩
def o111v1 (P : Params) : Obj := ⟨(.type "tuple"), none, (.seq #[(.ref 31)] 0), #[]⟩
def o112v1 (P : Params) : Obj := ⟨(.type "builtin_function_or_method"), none, (.fields #[(.builtin "type.__prepare__"), (.type "type")]), #[]⟩
def o113v1 (P : Params) : Obj := ⟨(.type "dict"), none, (.dict #[⟨PyData.keyHash P (.ofString "__module__"), (.str (.ofString "__module__") 322), (.str (.ofString "onestaff.errors") 187)⟩, ⟨PyData.keyHash P (.ofString "__qualname__"), (.str (.ofString "__qualname__") 324), (.str (.ofString "NoEnds") 323)⟩, ⟨PyData.keyHash P (.ofString "__firstlineno__"), (.str (.ofString "__firstlineno__") 326), (.int 26 325)⟩, ⟨PyData.keyHash P (.ofString "__init__"), (.str (.ofString "__init__") 334), (.ref 124)⟩, ⟨PyData.keyHash P (.ofString "__static_attributes__"), (.str (.ofString "__static_attributes__") 336), (.ref 125)⟩] 5), #[]⟩
def o114v1 (P : Params) : Obj := ⟨(.type "tuple"), none, (.seq #[] 0), #[]⟩
def o115v1 (P : Params) : Obj := ⟨.none, none, (.fields #[(.int 28 0), (.int 4 0), (.ref 123)]), #[]⟩
def o116v1 (P : Params) : Obj := ⟨(.type "code"), none, (.fields #[(.str (.ofString "NoEnds") 317), (.str (.ofString "NoEnds") 318), (.str (.ofString "/claim/cut.py") 319), (.int 26 0), (.int 0 0), (.int 0 0), (.int 0 0), (.int 0 0), (.ref 114), (.bool false), (.int 181 0), (.ref 115), .none, .none, .none, .none, (.int 320 0), (.int 26 0), (.str (.ofString "/claim/cut.py") 321)]), #[]⟩
def o117v1 (P : Params) : Obj := ⟨(.type "frame"), none, .plain, #[(some (.ref 116)), (some (.ref 3)), (some (.ref 113)), none, (some (.str (.ofString "onestaff.errors") 187)), none, (some (.ref 0))]⟩
def o118v1 (P : Params) : Obj := ⟨(.type "tuple"), none, (.seq #[] 0), #[]⟩
def o119v1 (P : Params) : Obj := ⟨.none, none, (.fields #[]), #[]⟩
def o120v1 (P : Params) : Obj := ⟨(.type "tuple"), none, (.seq #[(.str (.ofString "self") 330), (.str (.ofString "found") 331)] 0), #[]⟩
def o121v1 (P : Params) : Obj := ⟨(.type "tuple"), none, (.seq #[] 0), #[]⟩
def o122v1 (P : Params) : Obj := ⟨.none, none, (.func { name := (.ofString "__init__"), qualname := (.ofString "NoEnds.__init__"), params := defArgs (inClass (tp 6) 0), body := .stmts (defBody (inClass (tp 6) 0)), scope := defScope (inClass (tp 6) 0), globals := 0, closure := [], defaults := .none, kwdefaults := .none }), #[]⟩
def o123v1 (P : Params) : Obj := ⟨(.type "code"), none, (.fields #[(.str (.ofString "__init__") 327), (.str (.ofString "NoEnds.__init__") 328), (.str (.ofString "/claim/cut.py") 329), (.int 28 0), (.int 2 0), (.int 0 0), (.int 0 0), (.int 3 0), (.ref 118), (.bool true), (.int 181 0), (.ref 119), .none, (.ref 120), (.ref 121), (.ref 122), (.int 332 0), (.int 28 0), (.str (.ofString "/claim/cut.py") 333)]), #[]⟩
def o124v1 (P : Params) : Obj := ⟨(.type "function"), none, (.func { name := (.ofString "__init__"), qualname := (.ofString "NoEnds.__init__"), params := defArgs (inClass (tp 6) 0), body := .stmts (defBody (inClass (tp 6) 0)), scope := defScope (inClass (tp 6) 0), globals := 3, closure := [], defaults := .none, kwdefaults := .none, pyModule := (.str (.ofString "onestaff.errors") 187), code := (.ref 123) }), #[]⟩
def o125v1 (P : Params) : Obj := ⟨(.type "tuple"), none, (.seq #[(.str (.ofString "found") 335)] 0), #[]⟩
def o126v1 (P : Params) : Obj := ⟨(.type "dict"), none, (.dict #[⟨PyData.keyHash P (.ofString "__module__"), (.str (.ofString "__module__") 322), (.str (.ofString "onestaff.errors") 187)⟩, ⟨PyData.keyHash P (.ofString "__firstlineno__"), (.str (.ofString "__firstlineno__") 326), (.int 26 325)⟩, ⟨PyData.keyHash P (.ofString "__init__"), (.str (.ofString "__init__") 334), (.ref 124)⟩, ⟨PyData.keyHash P (.ofString "__static_attributes__"), (.str (.ofString "__static_attributes__") 336), (.ref 125)⟩, ⟨PyData.keyHash P (.ofString "__doc__"), (.str (.ofString "__doc__") 337), .none⟩] 2), #[]⟩
def o127v1 (P : Params) : Obj := ⟨(.type "type"), none, (.cls { name := (.ofString "NoEnds"), bases := [(.ref 31)], mro := [(.ref 127), (.ref 31), (.type "ValueError"), (.type "Exception"), (.type "BaseException"), (.type "object")], ns := 126, qualname := (.ofString "NoEnds") }), #[(some (.ref 111)), none, (some (.str (.ofString "NoEnds") 315)), (some (.str (.ofString "NoEnds") 323)), (some (.builtin "ValueError.__new__")), (some (.bool true))]⟩
def o128v1 (P : Params) : Obj := ⟨(.type "super"), none, (.fields #[(.ref 127), (.ref 127), (.ref 127)]), #[]⟩
def o129v1 (P : Params) : Obj := ⟨(.type "builtin_function_or_method"), none, (.fields #[(.builtin "object.__init_subclass__"), (.ref 127)]), #[]⟩
def o130v1 (P : Params) : Obj := ⟨(.type "tuple"), none, (.seq #[(.ref 31)] 0), #[]⟩
def o131v1 (P : Params) : Obj := ⟨(.type "builtin_function_or_method"), none, (.fields #[(.builtin "type.__prepare__"), (.type "type")]), #[]⟩
def o132v1 (P : Params) : Obj := ⟨(.type "dict"), none, (.dict #[⟨PyData.keyHash P (.ofString "__module__"), (.str (.ofString "__module__") 347), (.str (.ofString "onestaff.errors") 187)⟩, ⟨PyData.keyHash P (.ofString "__qualname__"), (.str (.ofString "__qualname__") 349), (.str (.ofString "NoStretch") 348)⟩, ⟨PyData.keyHash P (.ofString "__firstlineno__"), (.str (.ofString "__firstlineno__") 351), (.int 31 350)⟩, ⟨PyData.keyHash P (.ofString "__init__"), (.str (.ofString "__init__") 359), (.ref 143)⟩, ⟨PyData.keyHash P (.ofString "__static_attributes__"), (.str (.ofString "__static_attributes__") 361), (.ref 144)⟩] 5), #[]⟩
def o133v1 (P : Params) : Obj := ⟨(.type "tuple"), none, (.seq #[] 0), #[]⟩
def o134v1 (P : Params) : Obj := ⟨.none, none, (.fields #[(.int 33 0), (.int 4 0), (.ref 142)]), #[]⟩
def o135v1 (P : Params) : Obj := ⟨(.type "code"), none, (.fields #[(.str (.ofString "NoStretch") 342), (.str (.ofString "NoStretch") 343), (.str (.ofString "/claim/cut.py") 344), (.int 31 0), (.int 0 0), (.int 0 0), (.int 0 0), (.int 0 0), (.ref 133), (.bool false), (.int 181 0), (.ref 134), .none, .none, .none, .none, (.int 345 0), (.int 31 0), (.str (.ofString "/claim/cut.py") 346)]), #[]⟩
def o136v1 (P : Params) : Obj := ⟨(.type "frame"), none, .plain, #[(some (.ref 135)), (some (.ref 3)), (some (.ref 132)), none, (some (.str (.ofString "onestaff.errors") 187)), none, (some (.ref 0))]⟩
def o137v1 (P : Params) : Obj := ⟨(.type "tuple"), none, (.seq #[] 0), #[]⟩
def o138v1 (P : Params) : Obj := ⟨.none, none, (.fields #[]), #[]⟩
def o139v1 (P : Params) : Obj := ⟨(.type "tuple"), none, (.seq #[(.str (.ofString "self") 355), (.str (.ofString "found") 356)] 0), #[]⟩
def o140v1 (P : Params) : Obj := ⟨(.type "tuple"), none, (.seq #[] 0), #[]⟩
def o141v1 (P : Params) : Obj := ⟨.none, none, (.func { name := (.ofString "__init__"), qualname := (.ofString "NoStretch.__init__"), params := defArgs (inClass (tp 7) 0), body := .stmts (defBody (inClass (tp 7) 0)), scope := defScope (inClass (tp 7) 0), globals := 0, closure := [], defaults := .none, kwdefaults := .none }), #[]⟩
def o142v1 (P : Params) : Obj := ⟨(.type "code"), none, (.fields #[(.str (.ofString "__init__") 352), (.str (.ofString "NoStretch.__init__") 353), (.str (.ofString "/claim/cut.py") 354), (.int 33 0), (.int 2 0), (.int 0 0), (.int 0 0), (.int 3 0), (.ref 137), (.bool true), (.int 181 0), (.ref 138), .none, (.ref 139), (.ref 140), (.ref 141), (.int 357 0), (.int 33 0), (.str (.ofString "/claim/cut.py") 358)]), #[]⟩
def o143v1 (P : Params) : Obj := ⟨(.type "function"), none, (.func { name := (.ofString "__init__"), qualname := (.ofString "NoStretch.__init__"), params := defArgs (inClass (tp 7) 0), body := .stmts (defBody (inClass (tp 7) 0)), scope := defScope (inClass (tp 7) 0), globals := 3, closure := [], defaults := .none, kwdefaults := .none, pyModule := (.str (.ofString "onestaff.errors") 187), code := (.ref 142) }), #[]⟩
def o144v1 (P : Params) : Obj := ⟨(.type "tuple"), none, (.seq #[(.str (.ofString "found") 360)] 0), #[]⟩
def o145v1 (P : Params) : Obj := ⟨(.type "dict"), none, (.dict #[⟨PyData.keyHash P (.ofString "__module__"), (.str (.ofString "__module__") 347), (.str (.ofString "onestaff.errors") 187)⟩, ⟨PyData.keyHash P (.ofString "__firstlineno__"), (.str (.ofString "__firstlineno__") 351), (.int 31 350)⟩, ⟨PyData.keyHash P (.ofString "__init__"), (.str (.ofString "__init__") 359), (.ref 143)⟩, ⟨PyData.keyHash P (.ofString "__static_attributes__"), (.str (.ofString "__static_attributes__") 361), (.ref 144)⟩, ⟨PyData.keyHash P (.ofString "__doc__"), (.str (.ofString "__doc__") 362), .none⟩] 2), #[]⟩
def o146v1 (P : Params) : Obj := ⟨(.type "type"), none, (.cls { name := (.ofString "NoStretch"), bases := [(.ref 31)], mro := [(.ref 146), (.ref 31), (.type "ValueError"), (.type "Exception"), (.type "BaseException"), (.type "object")], ns := 145, qualname := (.ofString "NoStretch") }), #[(some (.ref 130)), none, (some (.str (.ofString "NoStretch") 340)), (some (.str (.ofString "NoStretch") 348)), (some (.builtin "ValueError.__new__")), (some (.bool true))]⟩
def o147v1 (P : Params) : Obj := ⟨(.type "super"), none, (.fields #[(.ref 146), (.ref 146), (.ref 146)]), #[]⟩
def o148v1 (P : Params) : Obj := ⟨(.type "builtin_function_or_method"), none, (.fields #[(.builtin "object.__init_subclass__"), (.ref 146)]), #[]⟩
def o149v1 (P : Params) : Obj := ⟨(.type "tuple"), none, (.seq #[(.ref 31)] 0), #[]⟩
def o150v1 (P : Params) : Obj := ⟨(.type "builtin_function_or_method"), none, (.fields #[(.builtin "type.__prepare__"), (.type "type")]), #[]⟩
def o151v1 (P : Params) : Obj := ⟨(.type "dict"), none, (.dict #[⟨PyData.keyHash P (.ofString "__module__"), (.str (.ofString "__module__") 372), (.str (.ofString "onestaff.errors") 187)⟩, ⟨PyData.keyHash P (.ofString "__qualname__"), (.str (.ofString "__qualname__") 374), (.str (.ofString "NoLong") 373)⟩, ⟨PyData.keyHash P (.ofString "__firstlineno__"), (.str (.ofString "__firstlineno__") 376), (.int 36 375)⟩, ⟨PyData.keyHash P (.ofString "__init__"), (.str (.ofString "__init__") 384), (.ref 162)⟩, ⟨PyData.keyHash P (.ofString "__static_attributes__"), (.str (.ofString "__static_attributes__") 386), (.ref 163)⟩] 5), #[]⟩
def o152v1 (P : Params) : Obj := ⟨(.type "tuple"), none, (.seq #[] 0), #[]⟩
def o153v1 (P : Params) : Obj := ⟨.none, none, (.fields #[(.int 38 0), (.int 4 0), (.ref 161)]), #[]⟩
def o154v1 (P : Params) : Obj := ⟨(.type "code"), none, (.fields #[(.str (.ofString "NoLong") 367), (.str (.ofString "NoLong") 368), (.str (.ofString "/claim/cut.py") 369), (.int 36 0), (.int 0 0), (.int 0 0), (.int 0 0), (.int 0 0), (.ref 152), (.bool false), (.int 181 0), (.ref 153), .none, .none, .none, .none, (.int 370 0), (.int 36 0), (.str (.ofString "/claim/cut.py") 371)]), #[]⟩
def o155v1 (P : Params) : Obj := ⟨(.type "frame"), none, .plain, #[(some (.ref 154)), (some (.ref 3)), (some (.ref 151)), none, (some (.str (.ofString "onestaff.errors") 187)), none, (some (.ref 0))]⟩
def o156v1 (P : Params) : Obj := ⟨(.type "tuple"), none, (.seq #[] 0), #[]⟩
def o157v1 (P : Params) : Obj := ⟨.none, none, (.fields #[]), #[]⟩
def o158v1 (P : Params) : Obj := ⟨(.type "tuple"), none, (.seq #[(.str (.ofString "self") 380), (.str (.ofString "found") 381)] 0), #[]⟩
def o159v1 (P : Params) : Obj := ⟨(.type "tuple"), none, (.seq #[] 0), #[]⟩
def o160v1 (P : Params) : Obj := ⟨.none, none, (.func { name := (.ofString "__init__"), qualname := (.ofString "NoLong.__init__"), params := defArgs (inClass (tp 8) 0), body := .stmts (defBody (inClass (tp 8) 0)), scope := defScope (inClass (tp 8) 0), globals := 0, closure := [], defaults := .none, kwdefaults := .none }), #[]⟩
def o161v1 (P : Params) : Obj := ⟨(.type "code"), none, (.fields #[(.str (.ofString "__init__") 377), (.str (.ofString "NoLong.__init__") 378), (.str (.ofString "/claim/cut.py") 379), (.int 38 0), (.int 2 0), (.int 0 0), (.int 0 0), (.int 3 0), (.ref 156), (.bool true), (.int 181 0), (.ref 157), .none, (.ref 158), (.ref 159), (.ref 160), (.int 382 0), (.int 38 0), (.str (.ofString "/claim/cut.py") 383)]), #[]⟩
def o162v1 (P : Params) : Obj := ⟨(.type "function"), none, (.func { name := (.ofString "__init__"), qualname := (.ofString "NoLong.__init__"), params := defArgs (inClass (tp 8) 0), body := .stmts (defBody (inClass (tp 8) 0)), scope := defScope (inClass (tp 8) 0), globals := 3, closure := [], defaults := .none, kwdefaults := .none, pyModule := (.str (.ofString "onestaff.errors") 187), code := (.ref 161) }), #[]⟩
def o163v1 (P : Params) : Obj := ⟨(.type "tuple"), none, (.seq #[(.str (.ofString "found") 385)] 0), #[]⟩
def o164v1 (P : Params) : Obj := ⟨(.type "dict"), none, (.dict #[⟨PyData.keyHash P (.ofString "__module__"), (.str (.ofString "__module__") 372), (.str (.ofString "onestaff.errors") 187)⟩, ⟨PyData.keyHash P (.ofString "__firstlineno__"), (.str (.ofString "__firstlineno__") 376), (.int 36 375)⟩, ⟨PyData.keyHash P (.ofString "__init__"), (.str (.ofString "__init__") 384), (.ref 162)⟩, ⟨PyData.keyHash P (.ofString "__static_attributes__"), (.str (.ofString "__static_attributes__") 386), (.ref 163)⟩, ⟨PyData.keyHash P (.ofString "__doc__"), (.str (.ofString "__doc__") 387), .none⟩] 2), #[]⟩
def o165v1 (P : Params) : Obj := ⟨(.type "type"), none, (.cls { name := (.ofString "NoLong"), bases := [(.ref 31)], mro := [(.ref 165), (.ref 31), (.type "ValueError"), (.type "Exception"), (.type "BaseException"), (.type "object")], ns := 164, qualname := (.ofString "NoLong") }), #[(some (.ref 149)), none, (some (.str (.ofString "NoLong") 365)), (some (.str (.ofString "NoLong") 373)), (some (.builtin "ValueError.__new__")), (some (.bool true))]⟩
def o166v1 (P : Params) : Obj := ⟨(.type "super"), none, (.fields #[(.ref 165), (.ref 165), (.ref 165)]), #[]⟩
def o167v1 (P : Params) : Obj := ⟨(.type "builtin_function_or_method"), none, (.fields #[(.builtin "object.__init_subclass__"), (.ref 165)]), #[]⟩
def o168v1 (P : Params) : Obj := ⟨(.type "tuple"), none, (.seq #[(.ref 31)] 0), #[]⟩
def o169v1 (P : Params) : Obj := ⟨(.type "builtin_function_or_method"), none, (.fields #[(.builtin "type.__prepare__"), (.type "type")]), #[]⟩
def o170v1 (P : Params) : Obj := ⟨(.type "dict"), none, (.dict #[⟨PyData.keyHash P (.ofString "__module__"), (.str (.ofString "__module__") 397), (.str (.ofString "onestaff.errors") 187)⟩, ⟨PyData.keyHash P (.ofString "__qualname__"), (.str (.ofString "__qualname__") 399), (.str (.ofString "NoPlaces") 398)⟩, ⟨PyData.keyHash P (.ofString "__firstlineno__"), (.str (.ofString "__firstlineno__") 401), (.int 41 400)⟩, ⟨PyData.keyHash P (.ofString "__init__"), (.str (.ofString "__init__") 409), (.ref 181)⟩, ⟨PyData.keyHash P (.ofString "__static_attributes__"), (.str (.ofString "__static_attributes__") 411), (.ref 182)⟩] 5), #[]⟩
def o171v1 (P : Params) : Obj := ⟨(.type "tuple"), none, (.seq #[] 0), #[]⟩
def o172v1 (P : Params) : Obj := ⟨.none, none, (.fields #[(.int 43 0), (.int 4 0), (.ref 180)]), #[]⟩
def o173v1 (P : Params) : Obj := ⟨(.type "code"), none, (.fields #[(.str (.ofString "NoPlaces") 392), (.str (.ofString "NoPlaces") 393), (.str (.ofString "/claim/cut.py") 394), (.int 41 0), (.int 0 0), (.int 0 0), (.int 0 0), (.int 0 0), (.ref 171), (.bool false), (.int 181 0), (.ref 172), .none, .none, .none, .none, (.int 395 0), (.int 41 0), (.str (.ofString "/claim/cut.py") 396)]), #[]⟩
def o174v1 (P : Params) : Obj := ⟨(.type "frame"), none, .plain, #[(some (.ref 173)), (some (.ref 3)), (some (.ref 170)), none, (some (.str (.ofString "onestaff.errors") 187)), none, (some (.ref 0))]⟩
def o175v1 (P : Params) : Obj := ⟨(.type "tuple"), none, (.seq #[] 0), #[]⟩
def o176v1 (P : Params) : Obj := ⟨.none, none, (.fields #[]), #[]⟩
def o177v1 (P : Params) : Obj := ⟨(.type "tuple"), none, (.seq #[(.str (.ofString "self") 405), (.str (.ofString "found") 406)] 0), #[]⟩
def o178v1 (P : Params) : Obj := ⟨(.type "tuple"), none, (.seq #[] 0), #[]⟩
def o179v1 (P : Params) : Obj := ⟨.none, none, (.func { name := (.ofString "__init__"), qualname := (.ofString "NoPlaces.__init__"), params := defArgs (inClass (tp 9) 0), body := .stmts (defBody (inClass (tp 9) 0)), scope := defScope (inClass (tp 9) 0), globals := 0, closure := [], defaults := .none, kwdefaults := .none }), #[]⟩
def o180v1 (P : Params) : Obj := ⟨(.type "code"), none, (.fields #[(.str (.ofString "__init__") 402), (.str (.ofString "NoPlaces.__init__") 403), (.str (.ofString "/claim/cut.py") 404), (.int 43 0), (.int 2 0), (.int 0 0), (.int 0 0), (.int 3 0), (.ref 175), (.bool true), (.int 181 0), (.ref 176), .none, (.ref 177), (.ref 178), (.ref 179), (.int 407 0), (.int 43 0), (.str (.ofString "/claim/cut.py") 408)]), #[]⟩
def o181v1 (P : Params) : Obj := ⟨(.type "function"), none, (.func { name := (.ofString "__init__"), qualname := (.ofString "NoPlaces.__init__"), params := defArgs (inClass (tp 9) 0), body := .stmts (defBody (inClass (tp 9) 0)), scope := defScope (inClass (tp 9) 0), globals := 3, closure := [], defaults := .none, kwdefaults := .none, pyModule := (.str (.ofString "onestaff.errors") 187), code := (.ref 180) }), #[]⟩
def o182v1 (P : Params) : Obj := ⟨(.type "tuple"), none, (.seq #[(.str (.ofString "found") 410)] 0), #[]⟩
def o183v1 (P : Params) : Obj := ⟨(.type "dict"), none, (.dict #[⟨PyData.keyHash P (.ofString "__module__"), (.str (.ofString "__module__") 397), (.str (.ofString "onestaff.errors") 187)⟩, ⟨PyData.keyHash P (.ofString "__firstlineno__"), (.str (.ofString "__firstlineno__") 401), (.int 41 400)⟩, ⟨PyData.keyHash P (.ofString "__init__"), (.str (.ofString "__init__") 409), (.ref 181)⟩, ⟨PyData.keyHash P (.ofString "__static_attributes__"), (.str (.ofString "__static_attributes__") 411), (.ref 182)⟩, ⟨PyData.keyHash P (.ofString "__doc__"), (.str (.ofString "__doc__") 412), .none⟩] 2), #[]⟩
def o184v1 (P : Params) : Obj := ⟨(.type "type"), none, (.cls { name := (.ofString "NoPlaces"), bases := [(.ref 31)], mro := [(.ref 184), (.ref 31), (.type "ValueError"), (.type "Exception"), (.type "BaseException"), (.type "object")], ns := 183, qualname := (.ofString "NoPlaces") }), #[(some (.ref 168)), none, (some (.str (.ofString "NoPlaces") 390)), (some (.str (.ofString "NoPlaces") 398)), (some (.builtin "ValueError.__new__")), (some (.bool true))]⟩
def o185v1 (P : Params) : Obj := ⟨(.type "super"), none, (.fields #[(.ref 184), (.ref 184), (.ref 184)]), #[]⟩
def o186v1 (P : Params) : Obj := ⟨(.type "builtin_function_or_method"), none, (.fields #[(.builtin "object.__init_subclass__"), (.ref 184)]), #[]⟩
def o187v1 (P : Params) : Obj := ⟨(.type "tuple"), none, (.seq #[(.ref 31)] 0), #[]⟩
def o188v1 (P : Params) : Obj := ⟨(.type "builtin_function_or_method"), none, (.fields #[(.builtin "type.__prepare__"), (.type "type")]), #[]⟩
def o189v1 (P : Params) : Obj := ⟨(.type "dict"), none, (.dict #[⟨PyData.keyHash P (.ofString "__module__"), (.str (.ofString "__module__") 422), (.str (.ofString "onestaff.errors") 187)⟩, ⟨PyData.keyHash P (.ofString "__qualname__"), (.str (.ofString "__qualname__") 424), (.str (.ofString "NoStretches") 423)⟩, ⟨PyData.keyHash P (.ofString "__firstlineno__"), (.str (.ofString "__firstlineno__") 426), (.int 46 425)⟩, ⟨PyData.keyHash P (.ofString "__init__"), (.str (.ofString "__init__") 434), (.ref 200)⟩, ⟨PyData.keyHash P (.ofString "__static_attributes__"), (.str (.ofString "__static_attributes__") 436), (.ref 201)⟩] 5), #[]⟩
def o190v1 (P : Params) : Obj := ⟨(.type "tuple"), none, (.seq #[] 0), #[]⟩
def o191v1 (P : Params) : Obj := ⟨.none, none, (.fields #[(.int 48 0), (.int 4 0), (.ref 199)]), #[]⟩
def o192v1 (P : Params) : Obj := ⟨(.type "code"), none, (.fields #[(.str (.ofString "NoStretches") 417), (.str (.ofString "NoStretches") 418), (.str (.ofString "/claim/cut.py") 419), (.int 46 0), (.int 0 0), (.int 0 0), (.int 0 0), (.int 0 0), (.ref 190), (.bool false), (.int 181 0), (.ref 191), .none, .none, .none, .none, (.int 420 0), (.int 46 0), (.str (.ofString "/claim/cut.py") 421)]), #[]⟩
def o193v1 (P : Params) : Obj := ⟨(.type "frame"), none, .plain, #[(some (.ref 192)), (some (.ref 3)), (some (.ref 189)), none, (some (.str (.ofString "onestaff.errors") 187)), none, (some (.ref 0))]⟩
def o194v1 (P : Params) : Obj := ⟨(.type "tuple"), none, (.seq #[] 0), #[]⟩
def o195v1 (P : Params) : Obj := ⟨.none, none, (.fields #[]), #[]⟩
def o196v1 (P : Params) : Obj := ⟨(.type "tuple"), none, (.seq #[(.str (.ofString "self") 430), (.str (.ofString "found") 431)] 0), #[]⟩
def o197v1 (P : Params) : Obj := ⟨(.type "tuple"), none, (.seq #[] 0), #[]⟩
def o198v1 (P : Params) : Obj := ⟨.none, none, (.func { name := (.ofString "__init__"), qualname := (.ofString "NoStretches.__init__"), params := defArgs (inClass (tp 10) 0), body := .stmts (defBody (inClass (tp 10) 0)), scope := defScope (inClass (tp 10) 0), globals := 0, closure := [], defaults := .none, kwdefaults := .none }), #[]⟩
def o199v1 (P : Params) : Obj := ⟨(.type "code"), none, (.fields #[(.str (.ofString "__init__") 427), (.str (.ofString "NoStretches.__init__") 428), (.str (.ofString "/claim/cut.py") 429), (.int 48 0), (.int 2 0), (.int 0 0), (.int 0 0), (.int 3 0), (.ref 194), (.bool true), (.int 181 0), (.ref 195), .none, (.ref 196), (.ref 197), (.ref 198), (.int 432 0), (.int 48 0), (.str (.ofString "/claim/cut.py") 433)]), #[]⟩
def o200v1 (P : Params) : Obj := ⟨(.type "function"), none, (.func { name := (.ofString "__init__"), qualname := (.ofString "NoStretches.__init__"), params := defArgs (inClass (tp 10) 0), body := .stmts (defBody (inClass (tp 10) 0)), scope := defScope (inClass (tp 10) 0), globals := 3, closure := [], defaults := .none, kwdefaults := .none, pyModule := (.str (.ofString "onestaff.errors") 187), code := (.ref 199) }), #[]⟩
def o201v1 (P : Params) : Obj := ⟨(.type "tuple"), none, (.seq #[(.str (.ofString "found") 435)] 0), #[]⟩
def o202v1 (P : Params) : Obj := ⟨(.type "dict"), none, (.dict #[⟨PyData.keyHash P (.ofString "__module__"), (.str (.ofString "__module__") 422), (.str (.ofString "onestaff.errors") 187)⟩, ⟨PyData.keyHash P (.ofString "__firstlineno__"), (.str (.ofString "__firstlineno__") 426), (.int 46 425)⟩, ⟨PyData.keyHash P (.ofString "__init__"), (.str (.ofString "__init__") 434), (.ref 200)⟩, ⟨PyData.keyHash P (.ofString "__static_attributes__"), (.str (.ofString "__static_attributes__") 436), (.ref 201)⟩, ⟨PyData.keyHash P (.ofString "__doc__"), (.str (.ofString "__doc__") 437), .none⟩] 2), #[]⟩
def o203v1 (P : Params) : Obj := ⟨(.type "type"), none, (.cls { name := (.ofString "NoStretches"), bases := [(.ref 31)], mro := [(.ref 203), (.ref 31), (.type "ValueError"), (.type "Exception"), (.type "BaseException"), (.type "object")], ns := 202, qualname := (.ofString "NoStretches") }), #[(some (.ref 187)), none, (some (.str (.ofString "NoStretches") 415)), (some (.str (.ofString "NoStretches") 423)), (some (.builtin "ValueError.__new__")), (some (.bool true))]⟩
def o204v1 (P : Params) : Obj := ⟨(.type "super"), none, (.fields #[(.ref 203), (.ref 203), (.ref 203)]), #[]⟩
def o205v1 (P : Params) : Obj := ⟨(.type "builtin_function_or_method"), none, (.fields #[(.builtin "object.__init_subclass__"), (.ref 203)]), #[]⟩
def o206v1 (P : Params) : Obj := ⟨(.type "tuple"), none, (.seq #[(.ref 31)] 0), #[]⟩
def o207v1 (P : Params) : Obj := ⟨(.type "builtin_function_or_method"), none, (.fields #[(.builtin "type.__prepare__"), (.type "type")]), #[]⟩
def o208v1 (P : Params) : Obj := ⟨(.type "dict"), none, (.dict #[⟨PyData.keyHash P (.ofString "__module__"), (.str (.ofString "__module__") 447), (.str (.ofString "onestaff.errors") 187)⟩, ⟨PyData.keyHash P (.ofString "__qualname__"), (.str (.ofString "__qualname__") 449), (.str (.ofString "NoLongs") 448)⟩, ⟨PyData.keyHash P (.ofString "__firstlineno__"), (.str (.ofString "__firstlineno__") 451), (.int 51 450)⟩, ⟨PyData.keyHash P (.ofString "__init__"), (.str (.ofString "__init__") 459), (.ref 219)⟩, ⟨PyData.keyHash P (.ofString "__static_attributes__"), (.str (.ofString "__static_attributes__") 461), (.ref 220)⟩] 5), #[]⟩
def o209v1 (P : Params) : Obj := ⟨(.type "tuple"), none, (.seq #[] 0), #[]⟩
def o210v1 (P : Params) : Obj := ⟨.none, none, (.fields #[(.int 53 0), (.int 4 0), (.ref 218)]), #[]⟩
def o211v1 (P : Params) : Obj := ⟨(.type "code"), none, (.fields #[(.str (.ofString "NoLongs") 442), (.str (.ofString "NoLongs") 443), (.str (.ofString "/claim/cut.py") 444), (.int 51 0), (.int 0 0), (.int 0 0), (.int 0 0), (.int 0 0), (.ref 209), (.bool false), (.int 181 0), (.ref 210), .none, .none, .none, .none, (.int 445 0), (.int 51 0), (.str (.ofString "/claim/cut.py") 446)]), #[]⟩
def o212v1 (P : Params) : Obj := ⟨(.type "frame"), none, .plain, #[(some (.ref 211)), (some (.ref 3)), (some (.ref 208)), none, (some (.str (.ofString "onestaff.errors") 187)), none, (some (.ref 0))]⟩
def o213v1 (P : Params) : Obj := ⟨(.type "tuple"), none, (.seq #[] 0), #[]⟩
def o214v1 (P : Params) : Obj := ⟨.none, none, (.fields #[]), #[]⟩
def o215v1 (P : Params) : Obj := ⟨(.type "tuple"), none, (.seq #[(.str (.ofString "self") 455), (.str (.ofString "found") 456)] 0), #[]⟩
def o216v1 (P : Params) : Obj := ⟨(.type "tuple"), none, (.seq #[] 0), #[]⟩
def o217v1 (P : Params) : Obj := ⟨.none, none, (.func { name := (.ofString "__init__"), qualname := (.ofString "NoLongs.__init__"), params := defArgs (inClass (tp 11) 0), body := .stmts (defBody (inClass (tp 11) 0)), scope := defScope (inClass (tp 11) 0), globals := 0, closure := [], defaults := .none, kwdefaults := .none }), #[]⟩
def o218v1 (P : Params) : Obj := ⟨(.type "code"), none, (.fields #[(.str (.ofString "__init__") 452), (.str (.ofString "NoLongs.__init__") 453), (.str (.ofString "/claim/cut.py") 454), (.int 53 0), (.int 2 0), (.int 0 0), (.int 0 0), (.int 3 0), (.ref 213), (.bool true), (.int 181 0), (.ref 214), .none, (.ref 215), (.ref 216), (.ref 217), (.int 457 0), (.int 53 0), (.str (.ofString "/claim/cut.py") 458)]), #[]⟩
def o219v1 (P : Params) : Obj := ⟨(.type "function"), none, (.func { name := (.ofString "__init__"), qualname := (.ofString "NoLongs.__init__"), params := defArgs (inClass (tp 11) 0), body := .stmts (defBody (inClass (tp 11) 0)), scope := defScope (inClass (tp 11) 0), globals := 3, closure := [], defaults := .none, kwdefaults := .none, pyModule := (.str (.ofString "onestaff.errors") 187), code := (.ref 218) }), #[]⟩
def o220v1 (P : Params) : Obj := ⟨(.type "tuple"), none, (.seq #[(.str (.ofString "found") 460)] 0), #[]⟩
def o221v1 (P : Params) : Obj := ⟨(.type "dict"), none, (.dict #[⟨PyData.keyHash P (.ofString "__module__"), (.str (.ofString "__module__") 447), (.str (.ofString "onestaff.errors") 187)⟩, ⟨PyData.keyHash P (.ofString "__firstlineno__"), (.str (.ofString "__firstlineno__") 451), (.int 51 450)⟩, ⟨PyData.keyHash P (.ofString "__init__"), (.str (.ofString "__init__") 459), (.ref 219)⟩, ⟨PyData.keyHash P (.ofString "__static_attributes__"), (.str (.ofString "__static_attributes__") 461), (.ref 220)⟩, ⟨PyData.keyHash P (.ofString "__doc__"), (.str (.ofString "__doc__") 462), .none⟩] 2), #[]⟩
def o222v1 (P : Params) : Obj := ⟨(.type "type"), none, (.cls { name := (.ofString "NoLongs"), bases := [(.ref 31)], mro := [(.ref 222), (.ref 31), (.type "ValueError"), (.type "Exception"), (.type "BaseException"), (.type "object")], ns := 221, qualname := (.ofString "NoLongs") }), #[(some (.ref 206)), none, (some (.str (.ofString "NoLongs") 440)), (some (.str (.ofString "NoLongs") 448)), (some (.builtin "ValueError.__new__")), (some (.bool true))]⟩
def o223v1 (P : Params) : Obj := ⟨(.type "super"), none, (.fields #[(.ref 222), (.ref 222), (.ref 222)]), #[]⟩
def o224v1 (P : Params) : Obj := ⟨(.type "builtin_function_or_method"), none, (.fields #[(.builtin "object.__init_subclass__"), (.ref 222)]), #[]⟩
def o225v1 (P : Params) : Obj := ⟨(.type "tuple"), none, (.seq #[(.ref 31)] 0), #[]⟩
def o226v1 (P : Params) : Obj := ⟨(.type "builtin_function_or_method"), none, (.fields #[(.builtin "type.__prepare__"), (.type "type")]), #[]⟩
def o227v1 (P : Params) : Obj := ⟨(.type "dict"), none, (.dict #[⟨PyData.keyHash P (.ofString "__module__"), (.str (.ofString "__module__") 472), (.str (.ofString "onestaff.errors") 187)⟩, ⟨PyData.keyHash P (.ofString "__qualname__"), (.str (.ofString "__qualname__") 474), (.str (.ofString "NoNumber") 473)⟩, ⟨PyData.keyHash P (.ofString "__firstlineno__"), (.str (.ofString "__firstlineno__") 476), (.int 56 475)⟩, ⟨PyData.keyHash P (.ofString "__init__"), (.str (.ofString "__init__") 484), (.ref 238)⟩, ⟨PyData.keyHash P (.ofString "__static_attributes__"), (.str (.ofString "__static_attributes__") 486), (.ref 239)⟩] 5), #[]⟩
def o228v1 (P : Params) : Obj := ⟨(.type "tuple"), none, (.seq #[] 0), #[]⟩
def o229v1 (P : Params) : Obj := ⟨.none, none, (.fields #[(.int 58 0), (.int 4 0), (.ref 237)]), #[]⟩
def o230v1 (P : Params) : Obj := ⟨(.type "code"), none, (.fields #[(.str (.ofString "NoNumber") 467), (.str (.ofString "NoNumber") 468), (.str (.ofString "/claim/cut.py") 469), (.int 56 0), (.int 0 0), (.int 0 0), (.int 0 0), (.int 0 0), (.ref 228), (.bool false), (.int 181 0), (.ref 229), .none, .none, .none, .none, (.int 470 0), (.int 56 0), (.str (.ofString "/claim/cut.py") 471)]), #[]⟩
def o231v1 (P : Params) : Obj := ⟨(.type "frame"), none, .plain, #[(some (.ref 230)), (some (.ref 3)), (some (.ref 227)), none, (some (.str (.ofString "onestaff.errors") 187)), none, (some (.ref 0))]⟩
def o232v1 (P : Params) : Obj := ⟨(.type "tuple"), none, (.seq #[] 0), #[]⟩
def o233v1 (P : Params) : Obj := ⟨.none, none, (.fields #[]), #[]⟩
def o234v1 (P : Params) : Obj := ⟨(.type "tuple"), none, (.seq #[(.str (.ofString "self") 480), (.str (.ofString "found") 481)] 0), #[]⟩
def o235v1 (P : Params) : Obj := ⟨(.type "tuple"), none, (.seq #[] 0), #[]⟩
def o236v1 (P : Params) : Obj := ⟨.none, none, (.func { name := (.ofString "__init__"), qualname := (.ofString "NoNumber.__init__"), params := defArgs (inClass (tp 12) 0), body := .stmts (defBody (inClass (tp 12) 0)), scope := defScope (inClass (tp 12) 0), globals := 0, closure := [], defaults := .none, kwdefaults := .none }), #[]⟩
def o237v1 (P : Params) : Obj := ⟨(.type "code"), none, (.fields #[(.str (.ofString "__init__") 477), (.str (.ofString "NoNumber.__init__") 478), (.str (.ofString "/claim/cut.py") 479), (.int 58 0), (.int 2 0), (.int 0 0), (.int 0 0), (.int 3 0), (.ref 232), (.bool true), (.int 181 0), (.ref 233), .none, (.ref 234), (.ref 235), (.ref 236), (.int 482 0), (.int 58 0), (.str (.ofString "/claim/cut.py") 483)]), #[]⟩
def o238v1 (P : Params) : Obj := ⟨(.type "function"), none, (.func { name := (.ofString "__init__"), qualname := (.ofString "NoNumber.__init__"), params := defArgs (inClass (tp 12) 0), body := .stmts (defBody (inClass (tp 12) 0)), scope := defScope (inClass (tp 12) 0), globals := 3, closure := [], defaults := .none, kwdefaults := .none, pyModule := (.str (.ofString "onestaff.errors") 187), code := (.ref 237) }), #[]⟩
def o239v1 (P : Params) : Obj := ⟨(.type "tuple"), none, (.seq #[(.str (.ofString "found") 485)] 0), #[]⟩
def o240v1 (P : Params) : Obj := ⟨(.type "dict"), none, (.dict #[⟨PyData.keyHash P (.ofString "__module__"), (.str (.ofString "__module__") 472), (.str (.ofString "onestaff.errors") 187)⟩, ⟨PyData.keyHash P (.ofString "__firstlineno__"), (.str (.ofString "__firstlineno__") 476), (.int 56 475)⟩, ⟨PyData.keyHash P (.ofString "__init__"), (.str (.ofString "__init__") 484), (.ref 238)⟩, ⟨PyData.keyHash P (.ofString "__static_attributes__"), (.str (.ofString "__static_attributes__") 486), (.ref 239)⟩, ⟨PyData.keyHash P (.ofString "__doc__"), (.str (.ofString "__doc__") 487), .none⟩] 2), #[]⟩
def o241v1 (P : Params) : Obj := ⟨(.type "type"), none, (.cls { name := (.ofString "NoNumber"), bases := [(.ref 31)], mro := [(.ref 241), (.ref 31), (.type "ValueError"), (.type "Exception"), (.type "BaseException"), (.type "object")], ns := 240, qualname := (.ofString "NoNumber") }), #[(some (.ref 225)), none, (some (.str (.ofString "NoNumber") 465)), (some (.str (.ofString "NoNumber") 473)), (some (.builtin "ValueError.__new__")), (some (.bool true))]⟩
def o242v1 (P : Params) : Obj := ⟨(.type "super"), none, (.fields #[(.ref 241), (.ref 241), (.ref 241)]), #[]⟩
def o243v1 (P : Params) : Obj := ⟨(.type "builtin_function_or_method"), none, (.fields #[(.builtin "object.__init_subclass__"), (.ref 241)]), #[]⟩
def o244v1 (P : Params) : Obj := ⟨(.type "tuple"), none, (.seq #[(.ref 31)] 0), #[]⟩
def o245v1 (P : Params) : Obj := ⟨(.type "builtin_function_or_method"), none, (.fields #[(.builtin "type.__prepare__"), (.type "type")]), #[]⟩
def o246v1 (P : Params) : Obj := ⟨(.type "dict"), none, (.dict #[⟨PyData.keyHash P (.ofString "__module__"), (.str (.ofString "__module__") 497), (.str (.ofString "onestaff.errors") 187)⟩, ⟨PyData.keyHash P (.ofString "__qualname__"), (.str (.ofString "__qualname__") 499), (.str (.ofString "NoThing") 498)⟩, ⟨PyData.keyHash P (.ofString "__firstlineno__"), (.str (.ofString "__firstlineno__") 501), (.int 61 500)⟩, ⟨PyData.keyHash P (.ofString "__init__"), (.str (.ofString "__init__") 509), (.ref 257)⟩, ⟨PyData.keyHash P (.ofString "__static_attributes__"), (.str (.ofString "__static_attributes__") 511), (.ref 258)⟩] 5), #[]⟩
def o247v1 (P : Params) : Obj := ⟨(.type "tuple"), none, (.seq #[] 0), #[]⟩
def o248v1 (P : Params) : Obj := ⟨.none, none, (.fields #[(.int 63 0), (.int 4 0), (.ref 256)]), #[]⟩
def o249v1 (P : Params) : Obj := ⟨(.type "code"), none, (.fields #[(.str (.ofString "NoThing") 492), (.str (.ofString "NoThing") 493), (.str (.ofString "/claim/cut.py") 494), (.int 61 0), (.int 0 0), (.int 0 0), (.int 0 0), (.int 0 0), (.ref 247), (.bool false), (.int 181 0), (.ref 248), .none, .none, .none, .none, (.int 495 0), (.int 61 0), (.str (.ofString "/claim/cut.py") 496)]), #[]⟩
def o250v1 (P : Params) : Obj := ⟨(.type "frame"), none, .plain, #[(some (.ref 249)), (some (.ref 3)), (some (.ref 246)), none, (some (.str (.ofString "onestaff.errors") 187)), none, (some (.ref 0))]⟩
def o251v1 (P : Params) : Obj := ⟨(.type "tuple"), none, (.seq #[] 0), #[]⟩
def o252v1 (P : Params) : Obj := ⟨.none, none, (.fields #[]), #[]⟩
def o253v1 (P : Params) : Obj := ⟨(.type "tuple"), none, (.seq #[(.str (.ofString "self") 505), (.str (.ofString "found") 506)] 0), #[]⟩
def o254v1 (P : Params) : Obj := ⟨(.type "tuple"), none, (.seq #[] 0), #[]⟩
def o255v1 (P : Params) : Obj := ⟨.none, none, (.func { name := (.ofString "__init__"), qualname := (.ofString "NoThing.__init__"), params := defArgs (inClass (tp 13) 0), body := .stmts (defBody (inClass (tp 13) 0)), scope := defScope (inClass (tp 13) 0), globals := 0, closure := [], defaults := .none, kwdefaults := .none }), #[]⟩
def o256v1 (P : Params) : Obj := ⟨(.type "code"), none, (.fields #[(.str (.ofString "__init__") 502), (.str (.ofString "NoThing.__init__") 503), (.str (.ofString "/claim/cut.py") 504), (.int 63 0), (.int 2 0), (.int 0 0), (.int 0 0), (.int 3 0), (.ref 251), (.bool true), (.int 181 0), (.ref 252), .none, (.ref 253), (.ref 254), (.ref 255), (.int 507 0), (.int 63 0), (.str (.ofString "/claim/cut.py") 508)]), #[]⟩
def o257v1 (P : Params) : Obj := ⟨(.type "function"), none, (.func { name := (.ofString "__init__"), qualname := (.ofString "NoThing.__init__"), params := defArgs (inClass (tp 13) 0), body := .stmts (defBody (inClass (tp 13) 0)), scope := defScope (inClass (tp 13) 0), globals := 3, closure := [], defaults := .none, kwdefaults := .none, pyModule := (.str (.ofString "onestaff.errors") 187), code := (.ref 256) }), #[]⟩
def o258v1 (P : Params) : Obj := ⟨(.type "tuple"), none, (.seq #[(.str (.ofString "found") 510)] 0), #[]⟩
def o259v1 (P : Params) : Obj := ⟨(.type "dict"), none, (.dict #[⟨PyData.keyHash P (.ofString "__module__"), (.str (.ofString "__module__") 497), (.str (.ofString "onestaff.errors") 187)⟩, ⟨PyData.keyHash P (.ofString "__firstlineno__"), (.str (.ofString "__firstlineno__") 501), (.int 61 500)⟩, ⟨PyData.keyHash P (.ofString "__init__"), (.str (.ofString "__init__") 509), (.ref 257)⟩, ⟨PyData.keyHash P (.ofString "__static_attributes__"), (.str (.ofString "__static_attributes__") 511), (.ref 258)⟩, ⟨PyData.keyHash P (.ofString "__doc__"), (.str (.ofString "__doc__") 512), .none⟩] 2), #[]⟩
def o260v1 (P : Params) : Obj := ⟨(.type "type"), none, (.cls { name := (.ofString "NoThing"), bases := [(.ref 31)], mro := [(.ref 260), (.ref 31), (.type "ValueError"), (.type "Exception"), (.type "BaseException"), (.type "object")], ns := 259, qualname := (.ofString "NoThing") }), #[(some (.ref 244)), none, (some (.str (.ofString "NoThing") 490)), (some (.str (.ofString "NoThing") 498)), (some (.builtin "ValueError.__new__")), (some (.bool true))]⟩
def o261v1 (P : Params) : Obj := ⟨(.type "super"), none, (.fields #[(.ref 260), (.ref 260), (.ref 260)]), #[]⟩
def o262v1 (P : Params) : Obj := ⟨(.type "builtin_function_or_method"), none, (.fields #[(.builtin "object.__init_subclass__"), (.ref 260)]), #[]⟩
def o263v1 (P : Params) : Obj := ⟨(.type "tuple"), none, (.seq #[(.ref 31)] 0), #[]⟩
def o264v1 (P : Params) : Obj := ⟨(.type "builtin_function_or_method"), none, (.fields #[(.builtin "type.__prepare__"), (.type "type")]), #[]⟩
def o265v1 (P : Params) : Obj := ⟨(.type "dict"), none, (.dict #[⟨PyData.keyHash P (.ofString "__module__"), (.str (.ofString "__module__") 522), (.str (.ofString "onestaff.errors") 187)⟩, ⟨PyData.keyHash P (.ofString "__qualname__"), (.str (.ofString "__qualname__") 524), (.str (.ofString "NoKind") 523)⟩, ⟨PyData.keyHash P (.ofString "__firstlineno__"), (.str (.ofString "__firstlineno__") 526), (.int 66 525)⟩, ⟨PyData.keyHash P (.ofString "__init__"), (.str (.ofString "__init__") 534), (.ref 276)⟩, ⟨PyData.keyHash P (.ofString "__static_attributes__"), (.str (.ofString "__static_attributes__") 536), (.ref 277)⟩] 5), #[]⟩
def o266v1 (P : Params) : Obj := ⟨(.type "tuple"), none, (.seq #[] 0), #[]⟩
def o267v1 (P : Params) : Obj := ⟨.none, none, (.fields #[(.int 68 0), (.int 4 0), (.ref 275)]), #[]⟩
def o268v1 (P : Params) : Obj := ⟨(.type "code"), none, (.fields #[(.str (.ofString "NoKind") 517), (.str (.ofString "NoKind") 518), (.str (.ofString "/claim/cut.py") 519), (.int 66 0), (.int 0 0), (.int 0 0), (.int 0 0), (.int 0 0), (.ref 266), (.bool false), (.int 181 0), (.ref 267), .none, .none, .none, .none, (.int 520 0), (.int 66 0), (.str (.ofString "/claim/cut.py") 521)]), #[]⟩
def o269v1 (P : Params) : Obj := ⟨(.type "frame"), none, .plain, #[(some (.ref 268)), (some (.ref 3)), (some (.ref 265)), none, (some (.str (.ofString "onestaff.errors") 187)), none, (some (.ref 0))]⟩
def o270v1 (P : Params) : Obj := ⟨(.type "tuple"), none, (.seq #[] 0), #[]⟩
def o271v1 (P : Params) : Obj := ⟨.none, none, (.fields #[]), #[]⟩
def o272v1 (P : Params) : Obj := ⟨(.type "tuple"), none, (.seq #[(.str (.ofString "self") 530), (.str (.ofString "found") 531)] 0), #[]⟩
def o273v1 (P : Params) : Obj := ⟨(.type "tuple"), none, (.seq #[] 0), #[]⟩
def o274v1 (P : Params) : Obj := ⟨.none, none, (.func { name := (.ofString "__init__"), qualname := (.ofString "NoKind.__init__"), params := defArgs (inClass (tp 14) 0), body := .stmts (defBody (inClass (tp 14) 0)), scope := defScope (inClass (tp 14) 0), globals := 0, closure := [], defaults := .none, kwdefaults := .none }), #[]⟩
def o275v1 (P : Params) : Obj := ⟨(.type "code"), none, (.fields #[(.str (.ofString "__init__") 527), (.str (.ofString "NoKind.__init__") 528), (.str (.ofString "/claim/cut.py") 529), (.int 68 0), (.int 2 0), (.int 0 0), (.int 0 0), (.int 3 0), (.ref 270), (.bool true), (.int 181 0), (.ref 271), .none, (.ref 272), (.ref 273), (.ref 274), (.int 532 0), (.int 68 0), (.str (.ofString "/claim/cut.py") 533)]), #[]⟩
def o276v1 (P : Params) : Obj := ⟨(.type "function"), none, (.func { name := (.ofString "__init__"), qualname := (.ofString "NoKind.__init__"), params := defArgs (inClass (tp 14) 0), body := .stmts (defBody (inClass (tp 14) 0)), scope := defScope (inClass (tp 14) 0), globals := 3, closure := [], defaults := .none, kwdefaults := .none, pyModule := (.str (.ofString "onestaff.errors") 187), code := (.ref 275) }), #[]⟩
def o277v1 (P : Params) : Obj := ⟨(.type "tuple"), none, (.seq #[(.str (.ofString "found") 535)] 0), #[]⟩
def o278v1 (P : Params) : Obj := ⟨(.type "dict"), none, (.dict #[⟨PyData.keyHash P (.ofString "__module__"), (.str (.ofString "__module__") 522), (.str (.ofString "onestaff.errors") 187)⟩, ⟨PyData.keyHash P (.ofString "__firstlineno__"), (.str (.ofString "__firstlineno__") 526), (.int 66 525)⟩, ⟨PyData.keyHash P (.ofString "__init__"), (.str (.ofString "__init__") 534), (.ref 276)⟩, ⟨PyData.keyHash P (.ofString "__static_attributes__"), (.str (.ofString "__static_attributes__") 536), (.ref 277)⟩, ⟨PyData.keyHash P (.ofString "__doc__"), (.str (.ofString "__doc__") 537), .none⟩] 2), #[]⟩
def o279v1 (P : Params) : Obj := ⟨(.type "type"), none, (.cls { name := (.ofString "NoKind"), bases := [(.ref 31)], mro := [(.ref 279), (.ref 31), (.type "ValueError"), (.type "Exception"), (.type "BaseException"), (.type "object")], ns := 278, qualname := (.ofString "NoKind") }), #[(some (.ref 263)), none, (some (.str (.ofString "NoKind") 515)), (some (.str (.ofString "NoKind") 523)), (some (.builtin "ValueError.__new__")), (some (.bool true))]⟩
def o280v1 (P : Params) : Obj := ⟨(.type "super"), none, (.fields #[(.ref 279), (.ref 279), (.ref 279)]), #[]⟩
def o281v1 (P : Params) : Obj := ⟨(.type "builtin_function_or_method"), none, (.fields #[(.builtin "object.__init_subclass__"), (.ref 279)]), #[]⟩
def o282v1 (P : Params) : Obj := ⟨(.type "tuple"), none, (.seq #[(.ref 31)] 0), #[]⟩
def o283v1 (P : Params) : Obj := ⟨(.type "builtin_function_or_method"), none, (.fields #[(.builtin "type.__prepare__"), (.type "type")]), #[]⟩
def o284v1 (P : Params) : Obj := ⟨(.type "dict"), none, (.dict #[⟨PyData.keyHash P (.ofString "__module__"), (.str (.ofString "__module__") 547), (.str (.ofString "onestaff.errors") 187)⟩, ⟨PyData.keyHash P (.ofString "__qualname__"), (.str (.ofString "__qualname__") 549), (.str (.ofString "NoWord") 548)⟩, ⟨PyData.keyHash P (.ofString "__firstlineno__"), (.str (.ofString "__firstlineno__") 551), (.int 71 550)⟩, ⟨PyData.keyHash P (.ofString "__init__"), (.str (.ofString "__init__") 559), (.ref 295)⟩, ⟨PyData.keyHash P (.ofString "__static_attributes__"), (.str (.ofString "__static_attributes__") 561), (.ref 296)⟩] 5), #[]⟩
def o285v1 (P : Params) : Obj := ⟨(.type "tuple"), none, (.seq #[] 0), #[]⟩
def o286v1 (P : Params) : Obj := ⟨.none, none, (.fields #[(.int 73 0), (.int 4 0), (.ref 294)]), #[]⟩
def o287v1 (P : Params) : Obj := ⟨(.type "code"), none, (.fields #[(.str (.ofString "NoWord") 542), (.str (.ofString "NoWord") 543), (.str (.ofString "/claim/cut.py") 544), (.int 71 0), (.int 0 0), (.int 0 0), (.int 0 0), (.int 0 0), (.ref 285), (.bool false), (.int 181 0), (.ref 286), .none, .none, .none, .none, (.int 545 0), (.int 71 0), (.str (.ofString "/claim/cut.py") 546)]), #[]⟩
def o288v1 (P : Params) : Obj := ⟨(.type "frame"), none, .plain, #[(some (.ref 287)), (some (.ref 3)), (some (.ref 284)), none, (some (.str (.ofString "onestaff.errors") 187)), none, (some (.ref 0))]⟩
def o289v1 (P : Params) : Obj := ⟨(.type "tuple"), none, (.seq #[] 0), #[]⟩
def o290v1 (P : Params) : Obj := ⟨.none, none, (.fields #[]), #[]⟩
def o291v1 (P : Params) : Obj := ⟨(.type "tuple"), none, (.seq #[(.str (.ofString "self") 555), (.str (.ofString "found") 556)] 0), #[]⟩
def o292v1 (P : Params) : Obj := ⟨(.type "tuple"), none, (.seq #[] 0), #[]⟩
def o293v1 (P : Params) : Obj := ⟨.none, none, (.func { name := (.ofString "__init__"), qualname := (.ofString "NoWord.__init__"), params := defArgs (inClass (tp 15) 0), body := .stmts (defBody (inClass (tp 15) 0)), scope := defScope (inClass (tp 15) 0), globals := 0, closure := [], defaults := .none, kwdefaults := .none }), #[]⟩
def o294v1 (P : Params) : Obj := ⟨(.type "code"), none, (.fields #[(.str (.ofString "__init__") 552), (.str (.ofString "NoWord.__init__") 553), (.str (.ofString "/claim/cut.py") 554), (.int 73 0), (.int 2 0), (.int 0 0), (.int 0 0), (.int 3 0), (.ref 289), (.bool true), (.int 181 0), (.ref 290), .none, (.ref 291), (.ref 292), (.ref 293), (.int 557 0), (.int 73 0), (.str (.ofString "/claim/cut.py") 558)]), #[]⟩
def o295v1 (P : Params) : Obj := ⟨(.type "function"), none, (.func { name := (.ofString "__init__"), qualname := (.ofString "NoWord.__init__"), params := defArgs (inClass (tp 15) 0), body := .stmts (defBody (inClass (tp 15) 0)), scope := defScope (inClass (tp 15) 0), globals := 3, closure := [], defaults := .none, kwdefaults := .none, pyModule := (.str (.ofString "onestaff.errors") 187), code := (.ref 294) }), #[]⟩
def o296v1 (P : Params) : Obj := ⟨(.type "tuple"), none, (.seq #[(.str (.ofString "found") 560)] 0), #[]⟩
def o297v1 (P : Params) : Obj := ⟨(.type "dict"), none, (.dict #[⟨PyData.keyHash P (.ofString "__module__"), (.str (.ofString "__module__") 547), (.str (.ofString "onestaff.errors") 187)⟩, ⟨PyData.keyHash P (.ofString "__firstlineno__"), (.str (.ofString "__firstlineno__") 551), (.int 71 550)⟩, ⟨PyData.keyHash P (.ofString "__init__"), (.str (.ofString "__init__") 559), (.ref 295)⟩, ⟨PyData.keyHash P (.ofString "__static_attributes__"), (.str (.ofString "__static_attributes__") 561), (.ref 296)⟩, ⟨PyData.keyHash P (.ofString "__doc__"), (.str (.ofString "__doc__") 562), .none⟩] 2), #[]⟩
def o298v1 (P : Params) : Obj := ⟨(.type "type"), none, (.cls { name := (.ofString "NoWord"), bases := [(.ref 31)], mro := [(.ref 298), (.ref 31), (.type "ValueError"), (.type "Exception"), (.type "BaseException"), (.type "object")], ns := 297, qualname := (.ofString "NoWord") }), #[(some (.ref 282)), none, (some (.str (.ofString "NoWord") 540)), (some (.str (.ofString "NoWord") 548)), (some (.builtin "ValueError.__new__")), (some (.bool true))]⟩
def o299v1 (P : Params) : Obj := ⟨(.type "super"), none, (.fields #[(.ref 298), (.ref 298), (.ref 298)]), #[]⟩
def o300v1 (P : Params) : Obj := ⟨(.type "builtin_function_or_method"), none, (.fields #[(.builtin "object.__init_subclass__"), (.ref 298)]), #[]⟩
def o301v1 (P : Params) : Obj := ⟨(.type "tuple"), none, (.seq #[(.ref 31)] 0), #[]⟩
def o302v1 (P : Params) : Obj := ⟨(.type "builtin_function_or_method"), none, (.fields #[(.builtin "type.__prepare__"), (.type "type")]), #[]⟩
def o303v1 (P : Params) : Obj := ⟨(.type "dict"), none, (.dict #[⟨PyData.keyHash P (.ofString "__module__"), (.str (.ofString "__module__") 572), (.str (.ofString "onestaff.errors") 187)⟩, ⟨PyData.keyHash P (.ofString "__qualname__"), (.str (.ofString "__qualname__") 574), (.str (.ofString "NoDeed") 573)⟩, ⟨PyData.keyHash P (.ofString "__firstlineno__"), (.str (.ofString "__firstlineno__") 576), (.int 76 575)⟩, ⟨PyData.keyHash P (.ofString "__init__"), (.str (.ofString "__init__") 584), (.ref 314)⟩, ⟨PyData.keyHash P (.ofString "__static_attributes__"), (.str (.ofString "__static_attributes__") 586), (.ref 315)⟩] 5), #[]⟩
def o304v1 (P : Params) : Obj := ⟨(.type "tuple"), none, (.seq #[] 0), #[]⟩
def o305v1 (P : Params) : Obj := ⟨.none, none, (.fields #[(.int 78 0), (.int 4 0), (.ref 313)]), #[]⟩
def o306v1 (P : Params) : Obj := ⟨(.type "code"), none, (.fields #[(.str (.ofString "NoDeed") 567), (.str (.ofString "NoDeed") 568), (.str (.ofString "/claim/cut.py") 569), (.int 76 0), (.int 0 0), (.int 0 0), (.int 0 0), (.int 0 0), (.ref 304), (.bool false), (.int 181 0), (.ref 305), .none, .none, .none, .none, (.int 570 0), (.int 76 0), (.str (.ofString "/claim/cut.py") 571)]), #[]⟩
def o307v1 (P : Params) : Obj := ⟨(.type "frame"), none, .plain, #[(some (.ref 306)), (some (.ref 3)), (some (.ref 303)), none, (some (.str (.ofString "onestaff.errors") 187)), none, (some (.ref 0))]⟩
def o308v1 (P : Params) : Obj := ⟨(.type "tuple"), none, (.seq #[] 0), #[]⟩
def o309v1 (P : Params) : Obj := ⟨.none, none, (.fields #[]), #[]⟩
def o310v1 (P : Params) : Obj := ⟨(.type "tuple"), none, (.seq #[(.str (.ofString "self") 580), (.str (.ofString "found") 581)] 0), #[]⟩
def o311v1 (P : Params) : Obj := ⟨(.type "tuple"), none, (.seq #[] 0), #[]⟩
def o312v1 (P : Params) : Obj := ⟨.none, none, (.func { name := (.ofString "__init__"), qualname := (.ofString "NoDeed.__init__"), params := defArgs (inClass (tp 16) 0), body := .stmts (defBody (inClass (tp 16) 0)), scope := defScope (inClass (tp 16) 0), globals := 0, closure := [], defaults := .none, kwdefaults := .none }), #[]⟩
def o313v1 (P : Params) : Obj := ⟨(.type "code"), none, (.fields #[(.str (.ofString "__init__") 577), (.str (.ofString "NoDeed.__init__") 578), (.str (.ofString "/claim/cut.py") 579), (.int 78 0), (.int 2 0), (.int 0 0), (.int 0 0), (.int 3 0), (.ref 308), (.bool true), (.int 181 0), (.ref 309), .none, (.ref 310), (.ref 311), (.ref 312), (.int 582 0), (.int 78 0), (.str (.ofString "/claim/cut.py") 583)]), #[]⟩
def o314v1 (P : Params) : Obj := ⟨(.type "function"), none, (.func { name := (.ofString "__init__"), qualname := (.ofString "NoDeed.__init__"), params := defArgs (inClass (tp 16) 0), body := .stmts (defBody (inClass (tp 16) 0)), scope := defScope (inClass (tp 16) 0), globals := 3, closure := [], defaults := .none, kwdefaults := .none, pyModule := (.str (.ofString "onestaff.errors") 187), code := (.ref 313) }), #[]⟩
def o315v1 (P : Params) : Obj := ⟨(.type "tuple"), none, (.seq #[(.str (.ofString "found") 585)] 0), #[]⟩
def o316v1 (P : Params) : Obj := ⟨(.type "dict"), none, (.dict #[⟨PyData.keyHash P (.ofString "__module__"), (.str (.ofString "__module__") 572), (.str (.ofString "onestaff.errors") 187)⟩, ⟨PyData.keyHash P (.ofString "__firstlineno__"), (.str (.ofString "__firstlineno__") 576), (.int 76 575)⟩, ⟨PyData.keyHash P (.ofString "__init__"), (.str (.ofString "__init__") 584), (.ref 314)⟩, ⟨PyData.keyHash P (.ofString "__static_attributes__"), (.str (.ofString "__static_attributes__") 586), (.ref 315)⟩, ⟨PyData.keyHash P (.ofString "__doc__"), (.str (.ofString "__doc__") 587), .none⟩] 2), #[]⟩
def o317v1 (P : Params) : Obj := ⟨(.type "type"), none, (.cls { name := (.ofString "NoDeed"), bases := [(.ref 31)], mro := [(.ref 317), (.ref 31), (.type "ValueError"), (.type "Exception"), (.type "BaseException"), (.type "object")], ns := 316, qualname := (.ofString "NoDeed") }), #[(some (.ref 301)), none, (some (.str (.ofString "NoDeed") 565)), (some (.str (.ofString "NoDeed") 573)), (some (.builtin "ValueError.__new__")), (some (.bool true))]⟩
def o318v1 (P : Params) : Obj := ⟨(.type "super"), none, (.fields #[(.ref 317), (.ref 317), (.ref 317)]), #[]⟩
def o319v1 (P : Params) : Obj := ⟨(.type "builtin_function_or_method"), none, (.fields #[(.builtin "object.__init_subclass__"), (.ref 317)]), #[]⟩
def o320v1 (P : Params) : Obj := ⟨(.type "tuple"), none, (.seq #[(.ref 31)] 0), #[]⟩
def o321v1 (P : Params) : Obj := ⟨(.type "builtin_function_or_method"), none, (.fields #[(.builtin "type.__prepare__"), (.type "type")]), #[]⟩
def o322v1 (P : Params) : Obj := ⟨(.type "dict"), none, (.dict #[⟨PyData.keyHash P (.ofString "__module__"), (.str (.ofString "__module__") 597), (.str (.ofString "onestaff.errors") 187)⟩, ⟨PyData.keyHash P (.ofString "__qualname__"), (.str (.ofString "__qualname__") 599), (.str (.ofString "NoWay") 598)⟩, ⟨PyData.keyHash P (.ofString "__firstlineno__"), (.str (.ofString "__firstlineno__") 601), (.int 81 600)⟩, ⟨PyData.keyHash P (.ofString "__init__"), (.str (.ofString "__init__") 609), (.ref 333)⟩, ⟨PyData.keyHash P (.ofString "__static_attributes__"), (.str (.ofString "__static_attributes__") 611), (.ref 334)⟩] 5), #[]⟩
def o323v1 (P : Params) : Obj := ⟨(.type "tuple"), none, (.seq #[] 0), #[]⟩
def o324v1 (P : Params) : Obj := ⟨.none, none, (.fields #[(.int 83 0), (.int 4 0), (.ref 332)]), #[]⟩
def o325v1 (P : Params) : Obj := ⟨(.type "code"), none, (.fields #[(.str (.ofString "NoWay") 592), (.str (.ofString "NoWay") 593), (.str (.ofString "/claim/cut.py") 594), (.int 81 0), (.int 0 0), (.int 0 0), (.int 0 0), (.int 0 0), (.ref 323), (.bool false), (.int 181 0), (.ref 324), .none, .none, .none, .none, (.int 595 0), (.int 81 0), (.str (.ofString "/claim/cut.py") 596)]), #[]⟩
def o326v1 (P : Params) : Obj := ⟨(.type "frame"), none, .plain, #[(some (.ref 325)), (some (.ref 3)), (some (.ref 322)), none, (some (.str (.ofString "onestaff.errors") 187)), none, (some (.ref 0))]⟩
def o327v1 (P : Params) : Obj := ⟨(.type "tuple"), none, (.seq #[] 0), #[]⟩
def o328v1 (P : Params) : Obj := ⟨.none, none, (.fields #[]), #[]⟩
def o329v1 (P : Params) : Obj := ⟨(.type "tuple"), none, (.seq #[(.str (.ofString "self") 605), (.str (.ofString "found") 606)] 0), #[]⟩
def o330v1 (P : Params) : Obj := ⟨(.type "tuple"), none, (.seq #[] 0), #[]⟩
def o331v1 (P : Params) : Obj := ⟨.none, none, (.func { name := (.ofString "__init__"), qualname := (.ofString "NoWay.__init__"), params := defArgs (inClass (tp 17) 0), body := .stmts (defBody (inClass (tp 17) 0)), scope := defScope (inClass (tp 17) 0), globals := 0, closure := [], defaults := .none, kwdefaults := .none }), #[]⟩
def o332v1 (P : Params) : Obj := ⟨(.type "code"), none, (.fields #[(.str (.ofString "__init__") 602), (.str (.ofString "NoWay.__init__") 603), (.str (.ofString "/claim/cut.py") 604), (.int 83 0), (.int 2 0), (.int 0 0), (.int 0 0), (.int 3 0), (.ref 327), (.bool true), (.int 181 0), (.ref 328), .none, (.ref 329), (.ref 330), (.ref 331), (.int 607 0), (.int 83 0), (.str (.ofString "/claim/cut.py") 608)]), #[]⟩
def o333v1 (P : Params) : Obj := ⟨(.type "function"), none, (.func { name := (.ofString "__init__"), qualname := (.ofString "NoWay.__init__"), params := defArgs (inClass (tp 17) 0), body := .stmts (defBody (inClass (tp 17) 0)), scope := defScope (inClass (tp 17) 0), globals := 3, closure := [], defaults := .none, kwdefaults := .none, pyModule := (.str (.ofString "onestaff.errors") 187), code := (.ref 332) }), #[]⟩
def o334v1 (P : Params) : Obj := ⟨(.type "tuple"), none, (.seq #[(.str (.ofString "found") 610)] 0), #[]⟩
def o335v1 (P : Params) : Obj := ⟨(.type "dict"), none, (.dict #[⟨PyData.keyHash P (.ofString "__module__"), (.str (.ofString "__module__") 597), (.str (.ofString "onestaff.errors") 187)⟩, ⟨PyData.keyHash P (.ofString "__firstlineno__"), (.str (.ofString "__firstlineno__") 601), (.int 81 600)⟩, ⟨PyData.keyHash P (.ofString "__init__"), (.str (.ofString "__init__") 609), (.ref 333)⟩, ⟨PyData.keyHash P (.ofString "__static_attributes__"), (.str (.ofString "__static_attributes__") 611), (.ref 334)⟩, ⟨PyData.keyHash P (.ofString "__doc__"), (.str (.ofString "__doc__") 612), .none⟩] 2), #[]⟩
def o336v1 (P : Params) : Obj := ⟨(.type "type"), none, (.cls { name := (.ofString "NoWay"), bases := [(.ref 31)], mro := [(.ref 336), (.ref 31), (.type "ValueError"), (.type "Exception"), (.type "BaseException"), (.type "object")], ns := 335, qualname := (.ofString "NoWay") }), #[(some (.ref 320)), none, (some (.str (.ofString "NoWay") 590)), (some (.str (.ofString "NoWay") 598)), (some (.builtin "ValueError.__new__")), (some (.bool true))]⟩
def o337v1 (P : Params) : Obj := ⟨(.type "super"), none, (.fields #[(.ref 336), (.ref 336), (.ref 336)]), #[]⟩
def o338v1 (P : Params) : Obj := ⟨(.type "builtin_function_or_method"), none, (.fields #[(.builtin "object.__init_subclass__"), (.ref 336)]), #[]⟩
def o3v2 (P : Params) : Obj := ⟨(.type "dict"), none, (.dict #[⟨PyData.keyHash P (.ofString "__name__"), (.str (.ofString "__name__") 165), (.str (.ofString "onestaff.errors") 187)⟩, ⟨PyData.keyHash P (.ofString "__doc__"), (.str (.ofString "__doc__") 166), .none⟩, ⟨PyData.keyHash P (.ofString "__package__"), (.str (.ofString "__package__") 167), .none⟩, ⟨PyData.keyHash P (.ofString "__loader__"), (.str (.ofString "__loader__") 168), (.builtin "__main__.__loader__#opaque")⟩, ⟨PyData.keyHash P (.ofString "__spec__"), (.str (.ofString "__spec__") 169), .none⟩, ⟨PyData.keyHash P (.ofString "__annotations__"), (.str (.ofString "__annotations__") 170), (.ref 6)⟩, ⟨PyData.keyHash P (.ofString "__builtins__"), (.str (.ofString "__builtins__") 171), (.ref 4)⟩, ⟨PyData.keyHash P (.ofString "__file__"), (.str (.ofString "__file__") 173), (.str (.ofString "/claim/cut.py") 172)⟩, ⟨PyData.keyHash P (.ofString "__cached__"), (.str (.ofString "__cached__") 174), .none⟩, ⟨PyData.keyHash P (.ofString "StaffError"), (.str (.ofString "StaffError") 214), (.ref 31)⟩, ⟨PyData.keyHash P (.ofString "NoName"), (.str (.ofString "NoName") 239), (.ref 51)⟩, ⟨PyData.keyHash P (.ofString "NoPlace"), (.str (.ofString "NoPlace") 264), (.ref 70)⟩, ⟨PyData.keyHash P (.ofString "NoTrain"), (.str (.ofString "NoTrain") 289), (.ref 89)⟩, ⟨PyData.keyHash P (.ofString "NoTrains"), (.str (.ofString "NoTrains") 314), (.ref 108)⟩, ⟨PyData.keyHash P (.ofString "NoEnds"), (.str (.ofString "NoEnds") 339), (.ref 127)⟩, ⟨PyData.keyHash P (.ofString "NoStretch"), (.str (.ofString "NoStretch") 364), (.ref 146)⟩, ⟨PyData.keyHash P (.ofString "NoLong"), (.str (.ofString "NoLong") 389), (.ref 165)⟩, ⟨PyData.keyHash P (.ofString "NoPlaces"), (.str (.ofString "NoPlaces") 414), (.ref 184)⟩, ⟨PyData.keyHash P (.ofString "NoStretches"), (.str (.ofString "NoStretches") 439), (.ref 203)⟩, ⟨PyData.keyHash P (.ofString "NoLongs"), (.str (.ofString "NoLongs") 464), (.ref 222)⟩, ⟨PyData.keyHash P (.ofString "NoNumber"), (.str (.ofString "NoNumber") 489), (.ref 241)⟩, ⟨PyData.keyHash P (.ofString "NoThing"), (.str (.ofString "NoThing") 514), (.ref 260)⟩, ⟨PyData.keyHash P (.ofString "NoKind"), (.str (.ofString "NoKind") 539), (.ref 279)⟩, ⟨PyData.keyHash P (.ofString "NoWord"), (.str (.ofString "NoWord") 564), (.ref 298)⟩, ⟨PyData.keyHash P (.ofString "NoDeed"), (.str (.ofString "NoDeed") 589), (.ref 317)⟩, ⟨PyData.keyHash P (.ofString "NoWay"), (.str (.ofString "NoWay") 614), (.ref 336)⟩, ⟨PyData.keyHash P (.ofString "NoUse"), (.str (.ofString "NoUse") 639), (.ref 355)⟩, ⟨PyData.keyHash P (.ofString "NoBooks"), (.str (.ofString "NoBooks") 664), (.ref 374)⟩, ⟨PyData.keyHash P (.ofString "NoRows"), (.str (.ofString "NoRows") 689), (.ref 393)⟩, ⟨PyData.keyHash P (.ofString "NoMove"), (.str (.ofString "NoMove") 714), (.ref 412)⟩, ⟨PyData.keyHash P (.ofString "NoRuns"), (.str (.ofString "NoRuns") 739), (.ref 431)⟩, ⟨PyData.keyHash P (.ofString "NoRun"), (.str (.ofString "NoRun") 764), (.ref 450)⟩, ⟨PyData.keyHash P (.ofString "NoLine"), (.str (.ofString "NoLine") 789), (.ref 469)⟩, ⟨PyData.keyHash P (.ofString "NoState"), (.str (.ofString "NoState") 814), (.ref 488)⟩, ⟨PyData.keyHash P (.ofString "Twice"), (.str (.ofString "Twice") 839), (.ref 507)⟩, ⟨PyData.keyHash P (.ofString "NotHere"), (.str (.ofString "NotHere") 864), (.ref 526)⟩, ⟨PyData.keyHash P (.ofString "NotIn"), (.str (.ofString "NotIn") 889), (.ref 545)⟩, ⟨PyData.keyHash P (.ofString "NotHeld"), (.str (.ofString "NotHeld") 914), (.ref 564)⟩, ⟨PyData.keyHash P (.ofString "NotHelped"), (.str (.ofString "NotHelped") 939), (.ref 583)⟩, ⟨PyData.keyHash P (.ofString "Full"), (.str (.ofString "Full") 964), (.ref 602)⟩, ⟨PyData.keyHash P (.ofString "Lacks"), (.str (.ofString "Lacks") 989), (.ref 621)⟩, ⟨PyData.keyHash P (.ofString "Shut"), (.str (.ofString "Shut") 1014), (.ref 640)⟩, ⟨PyData.keyHash P (.ofString "Held"), (.str (.ofString "Held") 1039), (.ref 659)⟩] 43), #[]⟩
def o12v2 (P : Params) : Obj := ⟨.none, none, (.fields #[(.int 2 0), (.int 0 0), (.ref 20), (.int 6 0), (.int 0 0), (.ref 40), (.int 11 0), (.int 0 0), (.ref 59), (.int 16 0), (.int 0 0), (.ref 78), (.int 21 0), (.int 0 0), (.ref 97), (.int 26 0), (.int 0 0), (.ref 116), (.int 31 0), (.int 0 0), (.ref 135), (.int 36 0), (.int 0 0), (.ref 154), (.int 41 0), (.int 0 0), (.ref 173), (.int 46 0), (.int 0 0), (.ref 192), (.int 51 0), (.int 0 0), (.ref 211), (.int 56 0), (.int 0 0), (.ref 230), (.int 61 0), (.int 0 0), (.ref 249), (.int 66 0), (.int 0 0), (.ref 268), (.int 71 0), (.int 0 0), (.ref 287), (.int 76 0), (.int 0 0), (.ref 306), (.int 81 0), (.int 0 0), (.ref 325), (.int 86 0), (.int 0 0), (.ref 344), (.int 91 0), (.int 0 0), (.ref 363), (.int 96 0), (.int 0 0), (.ref 382), (.int 101 0), (.int 0 0), (.ref 401), (.int 106 0), (.int 0 0), (.ref 420), (.int 111 0), (.int 0 0), (.ref 439), (.int 116 0), (.int 0 0), (.ref 458), (.int 121 0), (.int 0 0), (.ref 477), (.int 126 0), (.int 0 0), (.ref 496), (.int 131 0), (.int 0 0), (.ref 515), (.int 136 0), (.int 0 0), (.ref 534), (.int 141 0), (.int 0 0), (.ref 553), (.int 146 0), (.int 0 0), (.ref 572), (.int 151 0), (.int 0 0), (.ref 591), (.int 156 0), (.int 0 0), (.ref 610), (.int 161 0), (.int 0 0), (.ref 629), (.int 166 0), (.int 0 0), (.ref 648)]), #[]⟩
def o31v2 (P : Params) : Obj := ⟨(.type "type"), none, (.cls { name := (.ofString "StaffError"), bases := [(.type "ValueError")], mro := [(.ref 31), (.type "ValueError"), (.type "Exception"), (.type "BaseException"), (.type "object")], ns := 30, qualname := (.ofString "StaffError"), subclasses := [(.ref 51), (.ref 70), (.ref 89), (.ref 108), (.ref 127), (.ref 146), (.ref 165), (.ref 184), (.ref 203), (.ref 222), (.ref 241), (.ref 260), (.ref 279), (.ref 298), (.ref 317), (.ref 336), (.ref 355), (.ref 374), (.ref 393), (.ref 412), (.ref 431), (.ref 450), (.ref 469), (.ref 488), (.ref 507), (.ref 526), (.ref 545), (.ref 564), (.ref 583), (.ref 602), (.ref 621), (.ref 640), (.ref 659)] }), #[(some (.ref 15)), none, (some (.str (.ofString "StaffError") 189)), (some (.str (.ofString "StaffError") 197)), (some (.builtin "ValueError.__new__")), (some (.bool true))]⟩
def o339v2 (P : Params) : Obj := ⟨(.type "tuple"), none, (.seq #[(.ref 31)] 0), #[]⟩
def o340v2 (P : Params) : Obj := ⟨(.type "builtin_function_or_method"), none, (.fields #[(.builtin "type.__prepare__"), (.type "type")]), #[]⟩
def o341v2 (P : Params) : Obj := ⟨(.type "dict"), none, (.dict #[⟨PyData.keyHash P (.ofString "__module__"), (.str (.ofString "__module__") 622), (.str (.ofString "onestaff.errors") 187)⟩, ⟨PyData.keyHash P (.ofString "__qualname__"), (.str (.ofString "__qualname__") 624), (.str (.ofString "NoUse") 623)⟩, ⟨PyData.keyHash P (.ofString "__firstlineno__"), (.str (.ofString "__firstlineno__") 626), (.int 86 625)⟩, ⟨PyData.keyHash P (.ofString "__init__"), (.str (.ofString "__init__") 634), (.ref 352)⟩, ⟨PyData.keyHash P (.ofString "__static_attributes__"), (.str (.ofString "__static_attributes__") 636), (.ref 353)⟩] 5), #[]⟩
def o342v2 (P : Params) : Obj := ⟨(.type "tuple"), none, (.seq #[] 0), #[]⟩
def o343v2 (P : Params) : Obj := ⟨.none, none, (.fields #[(.int 88 0), (.int 4 0), (.ref 351)]), #[]⟩
def o344v2 (P : Params) : Obj := ⟨(.type "code"), none, (.fields #[(.str (.ofString "NoUse") 617), (.str (.ofString "NoUse") 618), (.str (.ofString "/claim/cut.py") 619), (.int 86 0), (.int 0 0), (.int 0 0), (.int 0 0), (.int 0 0), (.ref 342), (.bool false), (.int 181 0), (.ref 343), .none, .none, .none, .none, (.int 620 0), (.int 86 0), (.str (.ofString "/claim/cut.py") 621)]), #[]⟩
def o345v2 (P : Params) : Obj := ⟨(.type "frame"), none, .plain, #[(some (.ref 344)), (some (.ref 3)), (some (.ref 341)), none, (some (.str (.ofString "onestaff.errors") 187)), none, (some (.ref 0))]⟩
def o346v2 (P : Params) : Obj := ⟨(.type "tuple"), none, (.seq #[] 0), #[]⟩
def o347v2 (P : Params) : Obj := ⟨.none, none, (.fields #[]), #[]⟩
def o348v2 (P : Params) : Obj := ⟨(.type "tuple"), none, (.seq #[(.str (.ofString "self") 630), (.str (.ofString "found") 631)] 0), #[]⟩
def o349v2 (P : Params) : Obj := ⟨(.type "tuple"), none, (.seq #[] 0), #[]⟩
def o350v2 (P : Params) : Obj := ⟨.none, none, (.func { name := (.ofString "__init__"), qualname := (.ofString "NoUse.__init__"), params := defArgs (inClass (tp 18) 0), body := .stmts (defBody (inClass (tp 18) 0)), scope := defScope (inClass (tp 18) 0), globals := 0, closure := [], defaults := .none, kwdefaults := .none }), #[]⟩
def o351v2 (P : Params) : Obj := ⟨(.type "code"), none, (.fields #[(.str (.ofString "__init__") 627), (.str (.ofString "NoUse.__init__") 628), (.str (.ofString "/claim/cut.py") 629), (.int 88 0), (.int 2 0), (.int 0 0), (.int 0 0), (.int 3 0), (.ref 346), (.bool true), (.int 181 0), (.ref 347), .none, (.ref 348), (.ref 349), (.ref 350), (.int 632 0), (.int 88 0), (.str (.ofString "/claim/cut.py") 633)]), #[]⟩
def o352v2 (P : Params) : Obj := ⟨(.type "function"), none, (.func { name := (.ofString "__init__"), qualname := (.ofString "NoUse.__init__"), params := defArgs (inClass (tp 18) 0), body := .stmts (defBody (inClass (tp 18) 0)), scope := defScope (inClass (tp 18) 0), globals := 3, closure := [], defaults := .none, kwdefaults := .none, pyModule := (.str (.ofString "onestaff.errors") 187), code := (.ref 351) }), #[]⟩
def o353v2 (P : Params) : Obj := ⟨(.type "tuple"), none, (.seq #[(.str (.ofString "found") 635)] 0), #[]⟩
def o354v2 (P : Params) : Obj := ⟨(.type "dict"), none, (.dict #[⟨PyData.keyHash P (.ofString "__module__"), (.str (.ofString "__module__") 622), (.str (.ofString "onestaff.errors") 187)⟩, ⟨PyData.keyHash P (.ofString "__firstlineno__"), (.str (.ofString "__firstlineno__") 626), (.int 86 625)⟩, ⟨PyData.keyHash P (.ofString "__init__"), (.str (.ofString "__init__") 634), (.ref 352)⟩, ⟨PyData.keyHash P (.ofString "__static_attributes__"), (.str (.ofString "__static_attributes__") 636), (.ref 353)⟩, ⟨PyData.keyHash P (.ofString "__doc__"), (.str (.ofString "__doc__") 637), .none⟩] 2), #[]⟩
def o355v2 (P : Params) : Obj := ⟨(.type "type"), none, (.cls { name := (.ofString "NoUse"), bases := [(.ref 31)], mro := [(.ref 355), (.ref 31), (.type "ValueError"), (.type "Exception"), (.type "BaseException"), (.type "object")], ns := 354, qualname := (.ofString "NoUse") }), #[(some (.ref 339)), none, (some (.str (.ofString "NoUse") 615)), (some (.str (.ofString "NoUse") 623)), (some (.builtin "ValueError.__new__")), (some (.bool true))]⟩
def o356v2 (P : Params) : Obj := ⟨(.type "super"), none, (.fields #[(.ref 355), (.ref 355), (.ref 355)]), #[]⟩
def o357v2 (P : Params) : Obj := ⟨(.type "builtin_function_or_method"), none, (.fields #[(.builtin "object.__init_subclass__"), (.ref 355)]), #[]⟩
def o358v2 (P : Params) : Obj := ⟨(.type "tuple"), none, (.seq #[(.ref 31)] 0), #[]⟩
def o359v2 (P : Params) : Obj := ⟨(.type "builtin_function_or_method"), none, (.fields #[(.builtin "type.__prepare__"), (.type "type")]), #[]⟩
def o360v2 (P : Params) : Obj := ⟨(.type "dict"), none, (.dict #[⟨PyData.keyHash P (.ofString "__module__"), (.str (.ofString "__module__") 647), (.str (.ofString "onestaff.errors") 187)⟩, ⟨PyData.keyHash P (.ofString "__qualname__"), (.str (.ofString "__qualname__") 649), (.str (.ofString "NoBooks") 648)⟩, ⟨PyData.keyHash P (.ofString "__firstlineno__"), (.str (.ofString "__firstlineno__") 651), (.int 91 650)⟩, ⟨PyData.keyHash P (.ofString "__init__"), (.str (.ofString "__init__") 659), (.ref 371)⟩, ⟨PyData.keyHash P (.ofString "__static_attributes__"), (.str (.ofString "__static_attributes__") 661), (.ref 372)⟩] 5), #[]⟩
def o361v2 (P : Params) : Obj := ⟨(.type "tuple"), none, (.seq #[] 0), #[]⟩
def o362v2 (P : Params) : Obj := ⟨.none, none, (.fields #[(.int 93 0), (.int 4 0), (.ref 370)]), #[]⟩
def o363v2 (P : Params) : Obj := ⟨(.type "code"), none, (.fields #[(.str (.ofString "NoBooks") 642), (.str (.ofString "NoBooks") 643), (.str (.ofString "/claim/cut.py") 644), (.int 91 0), (.int 0 0), (.int 0 0), (.int 0 0), (.int 0 0), (.ref 361), (.bool false), (.int 181 0), (.ref 362), .none, .none, .none, .none, (.int 645 0), (.int 91 0), (.str (.ofString "/claim/cut.py") 646)]), #[]⟩
def o364v2 (P : Params) : Obj := ⟨(.type "frame"), none, .plain, #[(some (.ref 363)), (some (.ref 3)), (some (.ref 360)), none, (some (.str (.ofString "onestaff.errors") 187)), none, (some (.ref 0))]⟩
def o365v2 (P : Params) : Obj := ⟨(.type "tuple"), none, (.seq #[] 0), #[]⟩
def o366v2 (P : Params) : Obj := ⟨.none, none, (.fields #[]), #[]⟩
def o367v2 (P : Params) : Obj := ⟨(.type "tuple"), none, (.seq #[(.str (.ofString "self") 655), (.str (.ofString "found") 656)] 0), #[]⟩
def o368v2 (P : Params) : Obj := ⟨(.type "tuple"), none, (.seq #[] 0), #[]⟩
def o369v2 (P : Params) : Obj := ⟨.none, none, (.func { name := (.ofString "__init__"), qualname := (.ofString "NoBooks.__init__"), params := defArgs (inClass (tp 19) 0), body := .stmts (defBody (inClass (tp 19) 0)), scope := defScope (inClass (tp 19) 0), globals := 0, closure := [], defaults := .none, kwdefaults := .none }), #[]⟩
def o370v2 (P : Params) : Obj := ⟨(.type "code"), none, (.fields #[(.str (.ofString "__init__") 652), (.str (.ofString "NoBooks.__init__") 653), (.str (.ofString "/claim/cut.py") 654), (.int 93 0), (.int 2 0), (.int 0 0), (.int 0 0), (.int 3 0), (.ref 365), (.bool true), (.int 181 0), (.ref 366), .none, (.ref 367), (.ref 368), (.ref 369), (.int 657 0), (.int 93 0), (.str (.ofString "/claim/cut.py") 658)]), #[]⟩
def o371v2 (P : Params) : Obj := ⟨(.type "function"), none, (.func { name := (.ofString "__init__"), qualname := (.ofString "NoBooks.__init__"), params := defArgs (inClass (tp 19) 0), body := .stmts (defBody (inClass (tp 19) 0)), scope := defScope (inClass (tp 19) 0), globals := 3, closure := [], defaults := .none, kwdefaults := .none, pyModule := (.str (.ofString "onestaff.errors") 187), code := (.ref 370) }), #[]⟩
def o372v2 (P : Params) : Obj := ⟨(.type "tuple"), none, (.seq #[(.str (.ofString "found") 660)] 0), #[]⟩
def o373v2 (P : Params) : Obj := ⟨(.type "dict"), none, (.dict #[⟨PyData.keyHash P (.ofString "__module__"), (.str (.ofString "__module__") 647), (.str (.ofString "onestaff.errors") 187)⟩, ⟨PyData.keyHash P (.ofString "__firstlineno__"), (.str (.ofString "__firstlineno__") 651), (.int 91 650)⟩, ⟨PyData.keyHash P (.ofString "__init__"), (.str (.ofString "__init__") 659), (.ref 371)⟩, ⟨PyData.keyHash P (.ofString "__static_attributes__"), (.str (.ofString "__static_attributes__") 661), (.ref 372)⟩, ⟨PyData.keyHash P (.ofString "__doc__"), (.str (.ofString "__doc__") 662), .none⟩] 2), #[]⟩
def o374v2 (P : Params) : Obj := ⟨(.type "type"), none, (.cls { name := (.ofString "NoBooks"), bases := [(.ref 31)], mro := [(.ref 374), (.ref 31), (.type "ValueError"), (.type "Exception"), (.type "BaseException"), (.type "object")], ns := 373, qualname := (.ofString "NoBooks") }), #[(some (.ref 358)), none, (some (.str (.ofString "NoBooks") 640)), (some (.str (.ofString "NoBooks") 648)), (some (.builtin "ValueError.__new__")), (some (.bool true))]⟩
def o375v2 (P : Params) : Obj := ⟨(.type "super"), none, (.fields #[(.ref 374), (.ref 374), (.ref 374)]), #[]⟩
def o376v2 (P : Params) : Obj := ⟨(.type "builtin_function_or_method"), none, (.fields #[(.builtin "object.__init_subclass__"), (.ref 374)]), #[]⟩
def o377v2 (P : Params) : Obj := ⟨(.type "tuple"), none, (.seq #[(.ref 31)] 0), #[]⟩
def o378v2 (P : Params) : Obj := ⟨(.type "builtin_function_or_method"), none, (.fields #[(.builtin "type.__prepare__"), (.type "type")]), #[]⟩
def o379v2 (P : Params) : Obj := ⟨(.type "dict"), none, (.dict #[⟨PyData.keyHash P (.ofString "__module__"), (.str (.ofString "__module__") 672), (.str (.ofString "onestaff.errors") 187)⟩, ⟨PyData.keyHash P (.ofString "__qualname__"), (.str (.ofString "__qualname__") 674), (.str (.ofString "NoRows") 673)⟩, ⟨PyData.keyHash P (.ofString "__firstlineno__"), (.str (.ofString "__firstlineno__") 676), (.int 96 675)⟩, ⟨PyData.keyHash P (.ofString "__init__"), (.str (.ofString "__init__") 684), (.ref 390)⟩, ⟨PyData.keyHash P (.ofString "__static_attributes__"), (.str (.ofString "__static_attributes__") 686), (.ref 391)⟩] 5), #[]⟩
def o380v2 (P : Params) : Obj := ⟨(.type "tuple"), none, (.seq #[] 0), #[]⟩
def o381v2 (P : Params) : Obj := ⟨.none, none, (.fields #[(.int 98 0), (.int 4 0), (.ref 389)]), #[]⟩
def o382v2 (P : Params) : Obj := ⟨(.type "code"), none, (.fields #[(.str (.ofString "NoRows") 667), (.str (.ofString "NoRows") 668), (.str (.ofString "/claim/cut.py") 669), (.int 96 0), (.int 0 0), (.int 0 0), (.int 0 0), (.int 0 0), (.ref 380), (.bool false), (.int 181 0), (.ref 381), .none, .none, .none, .none, (.int 670 0), (.int 96 0), (.str (.ofString "/claim/cut.py") 671)]), #[]⟩
def o383v2 (P : Params) : Obj := ⟨(.type "frame"), none, .plain, #[(some (.ref 382)), (some (.ref 3)), (some (.ref 379)), none, (some (.str (.ofString "onestaff.errors") 187)), none, (some (.ref 0))]⟩
def o384v2 (P : Params) : Obj := ⟨(.type "tuple"), none, (.seq #[] 0), #[]⟩
def o385v2 (P : Params) : Obj := ⟨.none, none, (.fields #[]), #[]⟩
def o386v2 (P : Params) : Obj := ⟨(.type "tuple"), none, (.seq #[(.str (.ofString "self") 680), (.str (.ofString "found") 681)] 0), #[]⟩
def o387v2 (P : Params) : Obj := ⟨(.type "tuple"), none, (.seq #[] 0), #[]⟩
def o388v2 (P : Params) : Obj := ⟨.none, none, (.func { name := (.ofString "__init__"), qualname := (.ofString "NoRows.__init__"), params := defArgs (inClass (tp 20) 0), body := .stmts (defBody (inClass (tp 20) 0)), scope := defScope (inClass (tp 20) 0), globals := 0, closure := [], defaults := .none, kwdefaults := .none }), #[]⟩
def o389v2 (P : Params) : Obj := ⟨(.type "code"), none, (.fields #[(.str (.ofString "__init__") 677), (.str (.ofString "NoRows.__init__") 678), (.str (.ofString "/claim/cut.py") 679), (.int 98 0), (.int 2 0), (.int 0 0), (.int 0 0), (.int 3 0), (.ref 384), (.bool true), (.int 181 0), (.ref 385), .none, (.ref 386), (.ref 387), (.ref 388), (.int 682 0), (.int 98 0), (.str (.ofString "/claim/cut.py") 683)]), #[]⟩
def o390v2 (P : Params) : Obj := ⟨(.type "function"), none, (.func { name := (.ofString "__init__"), qualname := (.ofString "NoRows.__init__"), params := defArgs (inClass (tp 20) 0), body := .stmts (defBody (inClass (tp 20) 0)), scope := defScope (inClass (tp 20) 0), globals := 3, closure := [], defaults := .none, kwdefaults := .none, pyModule := (.str (.ofString "onestaff.errors") 187), code := (.ref 389) }), #[]⟩
def o391v2 (P : Params) : Obj := ⟨(.type "tuple"), none, (.seq #[(.str (.ofString "found") 685)] 0), #[]⟩
def o392v2 (P : Params) : Obj := ⟨(.type "dict"), none, (.dict #[⟨PyData.keyHash P (.ofString "__module__"), (.str (.ofString "__module__") 672), (.str (.ofString "onestaff.errors") 187)⟩, ⟨PyData.keyHash P (.ofString "__firstlineno__"), (.str (.ofString "__firstlineno__") 676), (.int 96 675)⟩, ⟨PyData.keyHash P (.ofString "__init__"), (.str (.ofString "__init__") 684), (.ref 390)⟩, ⟨PyData.keyHash P (.ofString "__static_attributes__"), (.str (.ofString "__static_attributes__") 686), (.ref 391)⟩, ⟨PyData.keyHash P (.ofString "__doc__"), (.str (.ofString "__doc__") 687), .none⟩] 2), #[]⟩
def o393v2 (P : Params) : Obj := ⟨(.type "type"), none, (.cls { name := (.ofString "NoRows"), bases := [(.ref 31)], mro := [(.ref 393), (.ref 31), (.type "ValueError"), (.type "Exception"), (.type "BaseException"), (.type "object")], ns := 392, qualname := (.ofString "NoRows") }), #[(some (.ref 377)), none, (some (.str (.ofString "NoRows") 665)), (some (.str (.ofString "NoRows") 673)), (some (.builtin "ValueError.__new__")), (some (.bool true))]⟩
def o394v2 (P : Params) : Obj := ⟨(.type "super"), none, (.fields #[(.ref 393), (.ref 393), (.ref 393)]), #[]⟩
def o395v2 (P : Params) : Obj := ⟨(.type "builtin_function_or_method"), none, (.fields #[(.builtin "object.__init_subclass__"), (.ref 393)]), #[]⟩
def o396v2 (P : Params) : Obj := ⟨(.type "tuple"), none, (.seq #[(.ref 31)] 0), #[]⟩
def o397v2 (P : Params) : Obj := ⟨(.type "builtin_function_or_method"), none, (.fields #[(.builtin "type.__prepare__"), (.type "type")]), #[]⟩
def o398v2 (P : Params) : Obj := ⟨(.type "dict"), none, (.dict #[⟨PyData.keyHash P (.ofString "__module__"), (.str (.ofString "__module__") 697), (.str (.ofString "onestaff.errors") 187)⟩, ⟨PyData.keyHash P (.ofString "__qualname__"), (.str (.ofString "__qualname__") 699), (.str (.ofString "NoMove") 698)⟩, ⟨PyData.keyHash P (.ofString "__firstlineno__"), (.str (.ofString "__firstlineno__") 701), (.int 101 700)⟩, ⟨PyData.keyHash P (.ofString "__init__"), (.str (.ofString "__init__") 709), (.ref 409)⟩, ⟨PyData.keyHash P (.ofString "__static_attributes__"), (.str (.ofString "__static_attributes__") 711), (.ref 410)⟩] 5), #[]⟩
def o399v2 (P : Params) : Obj := ⟨(.type "tuple"), none, (.seq #[] 0), #[]⟩
def o400v2 (P : Params) : Obj := ⟨.none, none, (.fields #[(.int 103 0), (.int 4 0), (.ref 408)]), #[]⟩
def o401v2 (P : Params) : Obj := ⟨(.type "code"), none, (.fields #[(.str (.ofString "NoMove") 692), (.str (.ofString "NoMove") 693), (.str (.ofString "/claim/cut.py") 694), (.int 101 0), (.int 0 0), (.int 0 0), (.int 0 0), (.int 0 0), (.ref 399), (.bool false), (.int 181 0), (.ref 400), .none, .none, .none, .none, (.int 695 0), (.int 101 0), (.str (.ofString "/claim/cut.py") 696)]), #[]⟩
def o402v2 (P : Params) : Obj := ⟨(.type "frame"), none, .plain, #[(some (.ref 401)), (some (.ref 3)), (some (.ref 398)), none, (some (.str (.ofString "onestaff.errors") 187)), none, (some (.ref 0))]⟩
def o403v2 (P : Params) : Obj := ⟨(.type "tuple"), none, (.seq #[] 0), #[]⟩
def o404v2 (P : Params) : Obj := ⟨.none, none, (.fields #[]), #[]⟩
def o405v2 (P : Params) : Obj := ⟨(.type "tuple"), none, (.seq #[(.str (.ofString "self") 705), (.str (.ofString "found") 706)] 0), #[]⟩
def o406v2 (P : Params) : Obj := ⟨(.type "tuple"), none, (.seq #[] 0), #[]⟩
def o407v2 (P : Params) : Obj := ⟨.none, none, (.func { name := (.ofString "__init__"), qualname := (.ofString "NoMove.__init__"), params := defArgs (inClass (tp 21) 0), body := .stmts (defBody (inClass (tp 21) 0)), scope := defScope (inClass (tp 21) 0), globals := 0, closure := [], defaults := .none, kwdefaults := .none }), #[]⟩
def o408v2 (P : Params) : Obj := ⟨(.type "code"), none, (.fields #[(.str (.ofString "__init__") 702), (.str (.ofString "NoMove.__init__") 703), (.str (.ofString "/claim/cut.py") 704), (.int 103 0), (.int 2 0), (.int 0 0), (.int 0 0), (.int 3 0), (.ref 403), (.bool true), (.int 181 0), (.ref 404), .none, (.ref 405), (.ref 406), (.ref 407), (.int 707 0), (.int 103 0), (.str (.ofString "/claim/cut.py") 708)]), #[]⟩
def o409v2 (P : Params) : Obj := ⟨(.type "function"), none, (.func { name := (.ofString "__init__"), qualname := (.ofString "NoMove.__init__"), params := defArgs (inClass (tp 21) 0), body := .stmts (defBody (inClass (tp 21) 0)), scope := defScope (inClass (tp 21) 0), globals := 3, closure := [], defaults := .none, kwdefaults := .none, pyModule := (.str (.ofString "onestaff.errors") 187), code := (.ref 408) }), #[]⟩
def o410v2 (P : Params) : Obj := ⟨(.type "tuple"), none, (.seq #[(.str (.ofString "found") 710)] 0), #[]⟩
def o411v2 (P : Params) : Obj := ⟨(.type "dict"), none, (.dict #[⟨PyData.keyHash P (.ofString "__module__"), (.str (.ofString "__module__") 697), (.str (.ofString "onestaff.errors") 187)⟩, ⟨PyData.keyHash P (.ofString "__firstlineno__"), (.str (.ofString "__firstlineno__") 701), (.int 101 700)⟩, ⟨PyData.keyHash P (.ofString "__init__"), (.str (.ofString "__init__") 709), (.ref 409)⟩, ⟨PyData.keyHash P (.ofString "__static_attributes__"), (.str (.ofString "__static_attributes__") 711), (.ref 410)⟩, ⟨PyData.keyHash P (.ofString "__doc__"), (.str (.ofString "__doc__") 712), .none⟩] 2), #[]⟩
def o412v2 (P : Params) : Obj := ⟨(.type "type"), none, (.cls { name := (.ofString "NoMove"), bases := [(.ref 31)], mro := [(.ref 412), (.ref 31), (.type "ValueError"), (.type "Exception"), (.type "BaseException"), (.type "object")], ns := 411, qualname := (.ofString "NoMove") }), #[(some (.ref 396)), none, (some (.str (.ofString "NoMove") 690)), (some (.str (.ofString "NoMove") 698)), (some (.builtin "ValueError.__new__")), (some (.bool true))]⟩
def o413v2 (P : Params) : Obj := ⟨(.type "super"), none, (.fields #[(.ref 412), (.ref 412), (.ref 412)]), #[]⟩
def o414v2 (P : Params) : Obj := ⟨(.type "builtin_function_or_method"), none, (.fields #[(.builtin "object.__init_subclass__"), (.ref 412)]), #[]⟩
def o415v2 (P : Params) : Obj := ⟨(.type "tuple"), none, (.seq #[(.ref 31)] 0), #[]⟩
def o416v2 (P : Params) : Obj := ⟨(.type "builtin_function_or_method"), none, (.fields #[(.builtin "type.__prepare__"), (.type "type")]), #[]⟩
def o417v2 (P : Params) : Obj := ⟨(.type "dict"), none, (.dict #[⟨PyData.keyHash P (.ofString "__module__"), (.str (.ofString "__module__") 722), (.str (.ofString "onestaff.errors") 187)⟩, ⟨PyData.keyHash P (.ofString "__qualname__"), (.str (.ofString "__qualname__") 724), (.str (.ofString "NoRuns") 723)⟩, ⟨PyData.keyHash P (.ofString "__firstlineno__"), (.str (.ofString "__firstlineno__") 726), (.int 106 725)⟩, ⟨PyData.keyHash P (.ofString "__init__"), (.str (.ofString "__init__") 734), (.ref 428)⟩, ⟨PyData.keyHash P (.ofString "__static_attributes__"), (.str (.ofString "__static_attributes__") 736), (.ref 429)⟩] 5), #[]⟩
def o418v2 (P : Params) : Obj := ⟨(.type "tuple"), none, (.seq #[] 0), #[]⟩
def o419v2 (P : Params) : Obj := ⟨.none, none, (.fields #[(.int 108 0), (.int 4 0), (.ref 427)]), #[]⟩
def o420v2 (P : Params) : Obj := ⟨(.type "code"), none, (.fields #[(.str (.ofString "NoRuns") 717), (.str (.ofString "NoRuns") 718), (.str (.ofString "/claim/cut.py") 719), (.int 106 0), (.int 0 0), (.int 0 0), (.int 0 0), (.int 0 0), (.ref 418), (.bool false), (.int 181 0), (.ref 419), .none, .none, .none, .none, (.int 720 0), (.int 106 0), (.str (.ofString "/claim/cut.py") 721)]), #[]⟩
def o421v2 (P : Params) : Obj := ⟨(.type "frame"), none, .plain, #[(some (.ref 420)), (some (.ref 3)), (some (.ref 417)), none, (some (.str (.ofString "onestaff.errors") 187)), none, (some (.ref 0))]⟩
def o422v2 (P : Params) : Obj := ⟨(.type "tuple"), none, (.seq #[] 0), #[]⟩
def o423v2 (P : Params) : Obj := ⟨.none, none, (.fields #[]), #[]⟩
def o424v2 (P : Params) : Obj := ⟨(.type "tuple"), none, (.seq #[(.str (.ofString "self") 730), (.str (.ofString "found") 731)] 0), #[]⟩
def o425v2 (P : Params) : Obj := ⟨(.type "tuple"), none, (.seq #[] 0), #[]⟩
def o426v2 (P : Params) : Obj := ⟨.none, none, (.func { name := (.ofString "__init__"), qualname := (.ofString "NoRuns.__init__"), params := defArgs (inClass (tp 22) 0), body := .stmts (defBody (inClass (tp 22) 0)), scope := defScope (inClass (tp 22) 0), globals := 0, closure := [], defaults := .none, kwdefaults := .none }), #[]⟩
def o427v2 (P : Params) : Obj := ⟨(.type "code"), none, (.fields #[(.str (.ofString "__init__") 727), (.str (.ofString "NoRuns.__init__") 728), (.str (.ofString "/claim/cut.py") 729), (.int 108 0), (.int 2 0), (.int 0 0), (.int 0 0), (.int 3 0), (.ref 422), (.bool true), (.int 181 0), (.ref 423), .none, (.ref 424), (.ref 425), (.ref 426), (.int 732 0), (.int 108 0), (.str (.ofString "/claim/cut.py") 733)]), #[]⟩
def o428v2 (P : Params) : Obj := ⟨(.type "function"), none, (.func { name := (.ofString "__init__"), qualname := (.ofString "NoRuns.__init__"), params := defArgs (inClass (tp 22) 0), body := .stmts (defBody (inClass (tp 22) 0)), scope := defScope (inClass (tp 22) 0), globals := 3, closure := [], defaults := .none, kwdefaults := .none, pyModule := (.str (.ofString "onestaff.errors") 187), code := (.ref 427) }), #[]⟩
def o429v2 (P : Params) : Obj := ⟨(.type "tuple"), none, (.seq #[(.str (.ofString "found") 735)] 0), #[]⟩
def o430v2 (P : Params) : Obj := ⟨(.type "dict"), none, (.dict #[⟨PyData.keyHash P (.ofString "__module__"), (.str (.ofString "__module__") 722), (.str (.ofString "onestaff.errors") 187)⟩, ⟨PyData.keyHash P (.ofString "__firstlineno__"), (.str (.ofString "__firstlineno__") 726), (.int 106 725)⟩, ⟨PyData.keyHash P (.ofString "__init__"), (.str (.ofString "__init__") 734), (.ref 428)⟩, ⟨PyData.keyHash P (.ofString "__static_attributes__"), (.str (.ofString "__static_attributes__") 736), (.ref 429)⟩, ⟨PyData.keyHash P (.ofString "__doc__"), (.str (.ofString "__doc__") 737), .none⟩] 2), #[]⟩
def o431v2 (P : Params) : Obj := ⟨(.type "type"), none, (.cls { name := (.ofString "NoRuns"), bases := [(.ref 31)], mro := [(.ref 431), (.ref 31), (.type "ValueError"), (.type "Exception"), (.type "BaseException"), (.type "object")], ns := 430, qualname := (.ofString "NoRuns") }), #[(some (.ref 415)), none, (some (.str (.ofString "NoRuns") 715)), (some (.str (.ofString "NoRuns") 723)), (some (.builtin "ValueError.__new__")), (some (.bool true))]⟩
def o432v2 (P : Params) : Obj := ⟨(.type "super"), none, (.fields #[(.ref 431), (.ref 431), (.ref 431)]), #[]⟩
def o433v2 (P : Params) : Obj := ⟨(.type "builtin_function_or_method"), none, (.fields #[(.builtin "object.__init_subclass__"), (.ref 431)]), #[]⟩
def o434v2 (P : Params) : Obj := ⟨(.type "tuple"), none, (.seq #[(.ref 31)] 0), #[]⟩
def o435v2 (P : Params) : Obj := ⟨(.type "builtin_function_or_method"), none, (.fields #[(.builtin "type.__prepare__"), (.type "type")]), #[]⟩
def o436v2 (P : Params) : Obj := ⟨(.type "dict"), none, (.dict #[⟨PyData.keyHash P (.ofString "__module__"), (.str (.ofString "__module__") 747), (.str (.ofString "onestaff.errors") 187)⟩, ⟨PyData.keyHash P (.ofString "__qualname__"), (.str (.ofString "__qualname__") 749), (.str (.ofString "NoRun") 748)⟩, ⟨PyData.keyHash P (.ofString "__firstlineno__"), (.str (.ofString "__firstlineno__") 751), (.int 111 750)⟩, ⟨PyData.keyHash P (.ofString "__init__"), (.str (.ofString "__init__") 759), (.ref 447)⟩, ⟨PyData.keyHash P (.ofString "__static_attributes__"), (.str (.ofString "__static_attributes__") 761), (.ref 448)⟩] 5), #[]⟩
def o437v2 (P : Params) : Obj := ⟨(.type "tuple"), none, (.seq #[] 0), #[]⟩
def o438v2 (P : Params) : Obj := ⟨.none, none, (.fields #[(.int 113 0), (.int 4 0), (.ref 446)]), #[]⟩
def o439v2 (P : Params) : Obj := ⟨(.type "code"), none, (.fields #[(.str (.ofString "NoRun") 742), (.str (.ofString "NoRun") 743), (.str (.ofString "/claim/cut.py") 744), (.int 111 0), (.int 0 0), (.int 0 0), (.int 0 0), (.int 0 0), (.ref 437), (.bool false), (.int 181 0), (.ref 438), .none, .none, .none, .none, (.int 745 0), (.int 111 0), (.str (.ofString "/claim/cut.py") 746)]), #[]⟩
def o440v2 (P : Params) : Obj := ⟨(.type "frame"), none, .plain, #[(some (.ref 439)), (some (.ref 3)), (some (.ref 436)), none, (some (.str (.ofString "onestaff.errors") 187)), none, (some (.ref 0))]⟩
def o441v2 (P : Params) : Obj := ⟨(.type "tuple"), none, (.seq #[] 0), #[]⟩
def o442v2 (P : Params) : Obj := ⟨.none, none, (.fields #[]), #[]⟩
def o443v2 (P : Params) : Obj := ⟨(.type "tuple"), none, (.seq #[(.str (.ofString "self") 755), (.str (.ofString "found") 756)] 0), #[]⟩
def o444v2 (P : Params) : Obj := ⟨(.type "tuple"), none, (.seq #[] 0), #[]⟩
def o445v2 (P : Params) : Obj := ⟨.none, none, (.func { name := (.ofString "__init__"), qualname := (.ofString "NoRun.__init__"), params := defArgs (inClass (tp 23) 0), body := .stmts (defBody (inClass (tp 23) 0)), scope := defScope (inClass (tp 23) 0), globals := 0, closure := [], defaults := .none, kwdefaults := .none }), #[]⟩
def o446v2 (P : Params) : Obj := ⟨(.type "code"), none, (.fields #[(.str (.ofString "__init__") 752), (.str (.ofString "NoRun.__init__") 753), (.str (.ofString "/claim/cut.py") 754), (.int 113 0), (.int 2 0), (.int 0 0), (.int 0 0), (.int 3 0), (.ref 441), (.bool true), (.int 181 0), (.ref 442), .none, (.ref 443), (.ref 444), (.ref 445), (.int 757 0), (.int 113 0), (.str (.ofString "/claim/cut.py") 758)]), #[]⟩
def o447v2 (P : Params) : Obj := ⟨(.type "function"), none, (.func { name := (.ofString "__init__"), qualname := (.ofString "NoRun.__init__"), params := defArgs (inClass (tp 23) 0), body := .stmts (defBody (inClass (tp 23) 0)), scope := defScope (inClass (tp 23) 0), globals := 3, closure := [], defaults := .none, kwdefaults := .none, pyModule := (.str (.ofString "onestaff.errors") 187), code := (.ref 446) }), #[]⟩
def o448v2 (P : Params) : Obj := ⟨(.type "tuple"), none, (.seq #[(.str (.ofString "found") 760)] 0), #[]⟩
def o449v2 (P : Params) : Obj := ⟨(.type "dict"), none, (.dict #[⟨PyData.keyHash P (.ofString "__module__"), (.str (.ofString "__module__") 747), (.str (.ofString "onestaff.errors") 187)⟩, ⟨PyData.keyHash P (.ofString "__firstlineno__"), (.str (.ofString "__firstlineno__") 751), (.int 111 750)⟩, ⟨PyData.keyHash P (.ofString "__init__"), (.str (.ofString "__init__") 759), (.ref 447)⟩, ⟨PyData.keyHash P (.ofString "__static_attributes__"), (.str (.ofString "__static_attributes__") 761), (.ref 448)⟩, ⟨PyData.keyHash P (.ofString "__doc__"), (.str (.ofString "__doc__") 762), .none⟩] 2), #[]⟩
def o450v2 (P : Params) : Obj := ⟨(.type "type"), none, (.cls { name := (.ofString "NoRun"), bases := [(.ref 31)], mro := [(.ref 450), (.ref 31), (.type "ValueError"), (.type "Exception"), (.type "BaseException"), (.type "object")], ns := 449, qualname := (.ofString "NoRun") }), #[(some (.ref 434)), none, (some (.str (.ofString "NoRun") 740)), (some (.str (.ofString "NoRun") 748)), (some (.builtin "ValueError.__new__")), (some (.bool true))]⟩
def o451v2 (P : Params) : Obj := ⟨(.type "super"), none, (.fields #[(.ref 450), (.ref 450), (.ref 450)]), #[]⟩
def o452v2 (P : Params) : Obj := ⟨(.type "builtin_function_or_method"), none, (.fields #[(.builtin "object.__init_subclass__"), (.ref 450)]), #[]⟩
def o453v2 (P : Params) : Obj := ⟨(.type "tuple"), none, (.seq #[(.ref 31)] 0), #[]⟩
def o454v2 (P : Params) : Obj := ⟨(.type "builtin_function_or_method"), none, (.fields #[(.builtin "type.__prepare__"), (.type "type")]), #[]⟩
def o455v2 (P : Params) : Obj := ⟨(.type "dict"), none, (.dict #[⟨PyData.keyHash P (.ofString "__module__"), (.str (.ofString "__module__") 772), (.str (.ofString "onestaff.errors") 187)⟩, ⟨PyData.keyHash P (.ofString "__qualname__"), (.str (.ofString "__qualname__") 774), (.str (.ofString "NoLine") 773)⟩, ⟨PyData.keyHash P (.ofString "__firstlineno__"), (.str (.ofString "__firstlineno__") 776), (.int 116 775)⟩, ⟨PyData.keyHash P (.ofString "__init__"), (.str (.ofString "__init__") 784), (.ref 466)⟩, ⟨PyData.keyHash P (.ofString "__static_attributes__"), (.str (.ofString "__static_attributes__") 786), (.ref 467)⟩] 5), #[]⟩
def o456v2 (P : Params) : Obj := ⟨(.type "tuple"), none, (.seq #[] 0), #[]⟩
def o457v2 (P : Params) : Obj := ⟨.none, none, (.fields #[(.int 118 0), (.int 4 0), (.ref 465)]), #[]⟩
def o458v2 (P : Params) : Obj := ⟨(.type "code"), none, (.fields #[(.str (.ofString "NoLine") 767), (.str (.ofString "NoLine") 768), (.str (.ofString "/claim/cut.py") 769), (.int 116 0), (.int 0 0), (.int 0 0), (.int 0 0), (.int 0 0), (.ref 456), (.bool false), (.int 181 0), (.ref 457), .none, .none, .none, .none, (.int 770 0), (.int 116 0), (.str (.ofString "/claim/cut.py") 771)]), #[]⟩
def o459v2 (P : Params) : Obj := ⟨(.type "frame"), none, .plain, #[(some (.ref 458)), (some (.ref 3)), (some (.ref 455)), none, (some (.str (.ofString "onestaff.errors") 187)), none, (some (.ref 0))]⟩
def o460v2 (P : Params) : Obj := ⟨(.type "tuple"), none, (.seq #[] 0), #[]⟩
def o461v2 (P : Params) : Obj := ⟨.none, none, (.fields #[]), #[]⟩
def o462v2 (P : Params) : Obj := ⟨(.type "tuple"), none, (.seq #[(.str (.ofString "self") 780), (.str (.ofString "found") 781)] 0), #[]⟩
def o463v2 (P : Params) : Obj := ⟨(.type "tuple"), none, (.seq #[] 0), #[]⟩
def o464v2 (P : Params) : Obj := ⟨.none, none, (.func { name := (.ofString "__init__"), qualname := (.ofString "NoLine.__init__"), params := defArgs (inClass (tp 24) 0), body := .stmts (defBody (inClass (tp 24) 0)), scope := defScope (inClass (tp 24) 0), globals := 0, closure := [], defaults := .none, kwdefaults := .none }), #[]⟩
def o465v2 (P : Params) : Obj := ⟨(.type "code"), none, (.fields #[(.str (.ofString "__init__") 777), (.str (.ofString "NoLine.__init__") 778), (.str (.ofString "/claim/cut.py") 779), (.int 118 0), (.int 2 0), (.int 0 0), (.int 0 0), (.int 3 0), (.ref 460), (.bool true), (.int 181 0), (.ref 461), .none, (.ref 462), (.ref 463), (.ref 464), (.int 782 0), (.int 118 0), (.str (.ofString "/claim/cut.py") 783)]), #[]⟩
def o466v2 (P : Params) : Obj := ⟨(.type "function"), none, (.func { name := (.ofString "__init__"), qualname := (.ofString "NoLine.__init__"), params := defArgs (inClass (tp 24) 0), body := .stmts (defBody (inClass (tp 24) 0)), scope := defScope (inClass (tp 24) 0), globals := 3, closure := [], defaults := .none, kwdefaults := .none, pyModule := (.str (.ofString "onestaff.errors") 187), code := (.ref 465) }), #[]⟩
def o467v2 (P : Params) : Obj := ⟨(.type "tuple"), none, (.seq #[(.str (.ofString "found") 785)] 0), #[]⟩
def o468v2 (P : Params) : Obj := ⟨(.type "dict"), none, (.dict #[⟨PyData.keyHash P (.ofString "__module__"), (.str (.ofString "__module__") 772), (.str (.ofString "onestaff.errors") 187)⟩, ⟨PyData.keyHash P (.ofString "__firstlineno__"), (.str (.ofString "__firstlineno__") 776), (.int 116 775)⟩, ⟨PyData.keyHash P (.ofString "__init__"), (.str (.ofString "__init__") 784), (.ref 466)⟩, ⟨PyData.keyHash P (.ofString "__static_attributes__"), (.str (.ofString "__static_attributes__") 786), (.ref 467)⟩, ⟨PyData.keyHash P (.ofString "__doc__"), (.str (.ofString "__doc__") 787), .none⟩] 2), #[]⟩
def o469v2 (P : Params) : Obj := ⟨(.type "type"), none, (.cls { name := (.ofString "NoLine"), bases := [(.ref 31)], mro := [(.ref 469), (.ref 31), (.type "ValueError"), (.type "Exception"), (.type "BaseException"), (.type "object")], ns := 468, qualname := (.ofString "NoLine") }), #[(some (.ref 453)), none, (some (.str (.ofString "NoLine") 765)), (some (.str (.ofString "NoLine") 773)), (some (.builtin "ValueError.__new__")), (some (.bool true))]⟩
def o470v2 (P : Params) : Obj := ⟨(.type "super"), none, (.fields #[(.ref 469), (.ref 469), (.ref 469)]), #[]⟩
def o471v2 (P : Params) : Obj := ⟨(.type "builtin_function_or_method"), none, (.fields #[(.builtin "object.__init_subclass__"), (.ref 469)]), #[]⟩
def o472v2 (P : Params) : Obj := ⟨(.type "tuple"), none, (.seq #[(.ref 31)] 0), #[]⟩
def o473v2 (P : Params) : Obj := ⟨(.type "builtin_function_or_method"), none, (.fields #[(.builtin "type.__prepare__"), (.type "type")]), #[]⟩
def o474v2 (P : Params) : Obj := ⟨(.type "dict"), none, (.dict #[⟨PyData.keyHash P (.ofString "__module__"), (.str (.ofString "__module__") 797), (.str (.ofString "onestaff.errors") 187)⟩, ⟨PyData.keyHash P (.ofString "__qualname__"), (.str (.ofString "__qualname__") 799), (.str (.ofString "NoState") 798)⟩, ⟨PyData.keyHash P (.ofString "__firstlineno__"), (.str (.ofString "__firstlineno__") 801), (.int 121 800)⟩, ⟨PyData.keyHash P (.ofString "__init__"), (.str (.ofString "__init__") 809), (.ref 485)⟩, ⟨PyData.keyHash P (.ofString "__static_attributes__"), (.str (.ofString "__static_attributes__") 811), (.ref 486)⟩] 5), #[]⟩
def o475v2 (P : Params) : Obj := ⟨(.type "tuple"), none, (.seq #[] 0), #[]⟩
def o476v2 (P : Params) : Obj := ⟨.none, none, (.fields #[(.int 123 0), (.int 4 0), (.ref 484)]), #[]⟩
def o477v2 (P : Params) : Obj := ⟨(.type "code"), none, (.fields #[(.str (.ofString "NoState") 792), (.str (.ofString "NoState") 793), (.str (.ofString "/claim/cut.py") 794), (.int 121 0), (.int 0 0), (.int 0 0), (.int 0 0), (.int 0 0), (.ref 475), (.bool false), (.int 181 0), (.ref 476), .none, .none, .none, .none, (.int 795 0), (.int 121 0), (.str (.ofString "/claim/cut.py") 796)]), #[]⟩
def o478v2 (P : Params) : Obj := ⟨(.type "frame"), none, .plain, #[(some (.ref 477)), (some (.ref 3)), (some (.ref 474)), none, (some (.str (.ofString "onestaff.errors") 187)), none, (some (.ref 0))]⟩
def o479v2 (P : Params) : Obj := ⟨(.type "tuple"), none, (.seq #[] 0), #[]⟩
def o480v2 (P : Params) : Obj := ⟨.none, none, (.fields #[]), #[]⟩
def o481v2 (P : Params) : Obj := ⟨(.type "tuple"), none, (.seq #[(.str (.ofString "self") 805), (.str (.ofString "found") 806)] 0), #[]⟩
def o482v2 (P : Params) : Obj := ⟨(.type "tuple"), none, (.seq #[] 0), #[]⟩
def o483v2 (P : Params) : Obj := ⟨.none, none, (.func { name := (.ofString "__init__"), qualname := (.ofString "NoState.__init__"), params := defArgs (inClass (tp 25) 0), body := .stmts (defBody (inClass (tp 25) 0)), scope := defScope (inClass (tp 25) 0), globals := 0, closure := [], defaults := .none, kwdefaults := .none }), #[]⟩
def o484v2 (P : Params) : Obj := ⟨(.type "code"), none, (.fields #[(.str (.ofString "__init__") 802), (.str (.ofString "NoState.__init__") 803), (.str (.ofString "/claim/cut.py") 804), (.int 123 0), (.int 2 0), (.int 0 0), (.int 0 0), (.int 3 0), (.ref 479), (.bool true), (.int 181 0), (.ref 480), .none, (.ref 481), (.ref 482), (.ref 483), (.int 807 0), (.int 123 0), (.str (.ofString "/claim/cut.py") 808)]), #[]⟩
def o485v2 (P : Params) : Obj := ⟨(.type "function"), none, (.func { name := (.ofString "__init__"), qualname := (.ofString "NoState.__init__"), params := defArgs (inClass (tp 25) 0), body := .stmts (defBody (inClass (tp 25) 0)), scope := defScope (inClass (tp 25) 0), globals := 3, closure := [], defaults := .none, kwdefaults := .none, pyModule := (.str (.ofString "onestaff.errors") 187), code := (.ref 484) }), #[]⟩
def o486v2 (P : Params) : Obj := ⟨(.type "tuple"), none, (.seq #[(.str (.ofString "found") 810)] 0), #[]⟩
def o487v2 (P : Params) : Obj := ⟨(.type "dict"), none, (.dict #[⟨PyData.keyHash P (.ofString "__module__"), (.str (.ofString "__module__") 797), (.str (.ofString "onestaff.errors") 187)⟩, ⟨PyData.keyHash P (.ofString "__firstlineno__"), (.str (.ofString "__firstlineno__") 801), (.int 121 800)⟩, ⟨PyData.keyHash P (.ofString "__init__"), (.str (.ofString "__init__") 809), (.ref 485)⟩, ⟨PyData.keyHash P (.ofString "__static_attributes__"), (.str (.ofString "__static_attributes__") 811), (.ref 486)⟩, ⟨PyData.keyHash P (.ofString "__doc__"), (.str (.ofString "__doc__") 812), .none⟩] 2), #[]⟩
def o488v2 (P : Params) : Obj := ⟨(.type "type"), none, (.cls { name := (.ofString "NoState"), bases := [(.ref 31)], mro := [(.ref 488), (.ref 31), (.type "ValueError"), (.type "Exception"), (.type "BaseException"), (.type "object")], ns := 487, qualname := (.ofString "NoState") }), #[(some (.ref 472)), none, (some (.str (.ofString "NoState") 790)), (some (.str (.ofString "NoState") 798)), (some (.builtin "ValueError.__new__")), (some (.bool true))]⟩
def o489v2 (P : Params) : Obj := ⟨(.type "super"), none, (.fields #[(.ref 488), (.ref 488), (.ref 488)]), #[]⟩
def o490v2 (P : Params) : Obj := ⟨(.type "builtin_function_or_method"), none, (.fields #[(.builtin "object.__init_subclass__"), (.ref 488)]), #[]⟩
def o491v2 (P : Params) : Obj := ⟨(.type "tuple"), none, (.seq #[(.ref 31)] 0), #[]⟩
def o492v2 (P : Params) : Obj := ⟨(.type "builtin_function_or_method"), none, (.fields #[(.builtin "type.__prepare__"), (.type "type")]), #[]⟩
def o493v2 (P : Params) : Obj := ⟨(.type "dict"), none, (.dict #[⟨PyData.keyHash P (.ofString "__module__"), (.str (.ofString "__module__") 822), (.str (.ofString "onestaff.errors") 187)⟩, ⟨PyData.keyHash P (.ofString "__qualname__"), (.str (.ofString "__qualname__") 824), (.str (.ofString "Twice") 823)⟩, ⟨PyData.keyHash P (.ofString "__firstlineno__"), (.str (.ofString "__firstlineno__") 826), (.int 126 825)⟩, ⟨PyData.keyHash P (.ofString "__init__"), (.str (.ofString "__init__") 834), (.ref 504)⟩, ⟨PyData.keyHash P (.ofString "__static_attributes__"), (.str (.ofString "__static_attributes__") 836), (.ref 505)⟩] 5), #[]⟩
def o494v2 (P : Params) : Obj := ⟨(.type "tuple"), none, (.seq #[] 0), #[]⟩
def o495v2 (P : Params) : Obj := ⟨.none, none, (.fields #[(.int 128 0), (.int 4 0), (.ref 503)]), #[]⟩
def o496v2 (P : Params) : Obj := ⟨(.type "code"), none, (.fields #[(.str (.ofString "Twice") 817), (.str (.ofString "Twice") 818), (.str (.ofString "/claim/cut.py") 819), (.int 126 0), (.int 0 0), (.int 0 0), (.int 0 0), (.int 0 0), (.ref 494), (.bool false), (.int 181 0), (.ref 495), .none, .none, .none, .none, (.int 820 0), (.int 126 0), (.str (.ofString "/claim/cut.py") 821)]), #[]⟩
def o497v2 (P : Params) : Obj := ⟨(.type "frame"), none, .plain, #[(some (.ref 496)), (some (.ref 3)), (some (.ref 493)), none, (some (.str (.ofString "onestaff.errors") 187)), none, (some (.ref 0))]⟩
def o498v2 (P : Params) : Obj := ⟨(.type "tuple"), none, (.seq #[] 0), #[]⟩
def o499v2 (P : Params) : Obj := ⟨.none, none, (.fields #[]), #[]⟩
def o500v2 (P : Params) : Obj := ⟨(.type "tuple"), none, (.seq #[(.str (.ofString "self") 830), (.str (.ofString "found") 831)] 0), #[]⟩
def o501v2 (P : Params) : Obj := ⟨(.type "tuple"), none, (.seq #[] 0), #[]⟩
def o502v2 (P : Params) : Obj := ⟨.none, none, (.func { name := (.ofString "__init__"), qualname := (.ofString "Twice.__init__"), params := defArgs (inClass (tp 26) 0), body := .stmts (defBody (inClass (tp 26) 0)), scope := defScope (inClass (tp 26) 0), globals := 0, closure := [], defaults := .none, kwdefaults := .none }), #[]⟩
def o503v2 (P : Params) : Obj := ⟨(.type "code"), none, (.fields #[(.str (.ofString "__init__") 827), (.str (.ofString "Twice.__init__") 828), (.str (.ofString "/claim/cut.py") 829), (.int 128 0), (.int 2 0), (.int 0 0), (.int 0 0), (.int 3 0), (.ref 498), (.bool true), (.int 181 0), (.ref 499), .none, (.ref 500), (.ref 501), (.ref 502), (.int 832 0), (.int 128 0), (.str (.ofString "/claim/cut.py") 833)]), #[]⟩
def o504v2 (P : Params) : Obj := ⟨(.type "function"), none, (.func { name := (.ofString "__init__"), qualname := (.ofString "Twice.__init__"), params := defArgs (inClass (tp 26) 0), body := .stmts (defBody (inClass (tp 26) 0)), scope := defScope (inClass (tp 26) 0), globals := 3, closure := [], defaults := .none, kwdefaults := .none, pyModule := (.str (.ofString "onestaff.errors") 187), code := (.ref 503) }), #[]⟩
def o505v2 (P : Params) : Obj := ⟨(.type "tuple"), none, (.seq #[(.str (.ofString "found") 835)] 0), #[]⟩
def o506v2 (P : Params) : Obj := ⟨(.type "dict"), none, (.dict #[⟨PyData.keyHash P (.ofString "__module__"), (.str (.ofString "__module__") 822), (.str (.ofString "onestaff.errors") 187)⟩, ⟨PyData.keyHash P (.ofString "__firstlineno__"), (.str (.ofString "__firstlineno__") 826), (.int 126 825)⟩, ⟨PyData.keyHash P (.ofString "__init__"), (.str (.ofString "__init__") 834), (.ref 504)⟩, ⟨PyData.keyHash P (.ofString "__static_attributes__"), (.str (.ofString "__static_attributes__") 836), (.ref 505)⟩, ⟨PyData.keyHash P (.ofString "__doc__"), (.str (.ofString "__doc__") 837), .none⟩] 2), #[]⟩
def o507v2 (P : Params) : Obj := ⟨(.type "type"), none, (.cls { name := (.ofString "Twice"), bases := [(.ref 31)], mro := [(.ref 507), (.ref 31), (.type "ValueError"), (.type "Exception"), (.type "BaseException"), (.type "object")], ns := 506, qualname := (.ofString "Twice") }), #[(some (.ref 491)), none, (some (.str (.ofString "Twice") 815)), (some (.str (.ofString "Twice") 823)), (some (.builtin "ValueError.__new__")), (some (.bool true))]⟩
def o508v2 (P : Params) : Obj := ⟨(.type "super"), none, (.fields #[(.ref 507), (.ref 507), (.ref 507)]), #[]⟩
def o509v2 (P : Params) : Obj := ⟨(.type "builtin_function_or_method"), none, (.fields #[(.builtin "object.__init_subclass__"), (.ref 507)]), #[]⟩
def o510v2 (P : Params) : Obj := ⟨(.type "tuple"), none, (.seq #[(.ref 31)] 0), #[]⟩
def o511v2 (P : Params) : Obj := ⟨(.type "builtin_function_or_method"), none, (.fields #[(.builtin "type.__prepare__"), (.type "type")]), #[]⟩
def o512v2 (P : Params) : Obj := ⟨(.type "dict"), none, (.dict #[⟨PyData.keyHash P (.ofString "__module__"), (.str (.ofString "__module__") 847), (.str (.ofString "onestaff.errors") 187)⟩, ⟨PyData.keyHash P (.ofString "__qualname__"), (.str (.ofString "__qualname__") 849), (.str (.ofString "NotHere") 848)⟩, ⟨PyData.keyHash P (.ofString "__firstlineno__"), (.str (.ofString "__firstlineno__") 851), (.int 131 850)⟩, ⟨PyData.keyHash P (.ofString "__init__"), (.str (.ofString "__init__") 859), (.ref 523)⟩, ⟨PyData.keyHash P (.ofString "__static_attributes__"), (.str (.ofString "__static_attributes__") 861), (.ref 524)⟩] 5), #[]⟩
def o513v2 (P : Params) : Obj := ⟨(.type "tuple"), none, (.seq #[] 0), #[]⟩
def o514v2 (P : Params) : Obj := ⟨.none, none, (.fields #[(.int 133 0), (.int 4 0), (.ref 522)]), #[]⟩
def o515v2 (P : Params) : Obj := ⟨(.type "code"), none, (.fields #[(.str (.ofString "NotHere") 842), (.str (.ofString "NotHere") 843), (.str (.ofString "/claim/cut.py") 844), (.int 131 0), (.int 0 0), (.int 0 0), (.int 0 0), (.int 0 0), (.ref 513), (.bool false), (.int 181 0), (.ref 514), .none, .none, .none, .none, (.int 845 0), (.int 131 0), (.str (.ofString "/claim/cut.py") 846)]), #[]⟩
def o516v2 (P : Params) : Obj := ⟨(.type "frame"), none, .plain, #[(some (.ref 515)), (some (.ref 3)), (some (.ref 512)), none, (some (.str (.ofString "onestaff.errors") 187)), none, (some (.ref 0))]⟩
def o517v2 (P : Params) : Obj := ⟨(.type "tuple"), none, (.seq #[] 0), #[]⟩
def o518v2 (P : Params) : Obj := ⟨.none, none, (.fields #[]), #[]⟩
def o519v2 (P : Params) : Obj := ⟨(.type "tuple"), none, (.seq #[(.str (.ofString "self") 855), (.str (.ofString "found") 856)] 0), #[]⟩
def o520v2 (P : Params) : Obj := ⟨(.type "tuple"), none, (.seq #[] 0), #[]⟩
def o521v2 (P : Params) : Obj := ⟨.none, none, (.func { name := (.ofString "__init__"), qualname := (.ofString "NotHere.__init__"), params := defArgs (inClass (tp 27) 0), body := .stmts (defBody (inClass (tp 27) 0)), scope := defScope (inClass (tp 27) 0), globals := 0, closure := [], defaults := .none, kwdefaults := .none }), #[]⟩
def o522v2 (P : Params) : Obj := ⟨(.type "code"), none, (.fields #[(.str (.ofString "__init__") 852), (.str (.ofString "NotHere.__init__") 853), (.str (.ofString "/claim/cut.py") 854), (.int 133 0), (.int 2 0), (.int 0 0), (.int 0 0), (.int 3 0), (.ref 517), (.bool true), (.int 181 0), (.ref 518), .none, (.ref 519), (.ref 520), (.ref 521), (.int 857 0), (.int 133 0), (.str (.ofString "/claim/cut.py") 858)]), #[]⟩
def o523v2 (P : Params) : Obj := ⟨(.type "function"), none, (.func { name := (.ofString "__init__"), qualname := (.ofString "NotHere.__init__"), params := defArgs (inClass (tp 27) 0), body := .stmts (defBody (inClass (tp 27) 0)), scope := defScope (inClass (tp 27) 0), globals := 3, closure := [], defaults := .none, kwdefaults := .none, pyModule := (.str (.ofString "onestaff.errors") 187), code := (.ref 522) }), #[]⟩
def o524v2 (P : Params) : Obj := ⟨(.type "tuple"), none, (.seq #[(.str (.ofString "found") 860)] 0), #[]⟩
def o525v2 (P : Params) : Obj := ⟨(.type "dict"), none, (.dict #[⟨PyData.keyHash P (.ofString "__module__"), (.str (.ofString "__module__") 847), (.str (.ofString "onestaff.errors") 187)⟩, ⟨PyData.keyHash P (.ofString "__firstlineno__"), (.str (.ofString "__firstlineno__") 851), (.int 131 850)⟩, ⟨PyData.keyHash P (.ofString "__init__"), (.str (.ofString "__init__") 859), (.ref 523)⟩, ⟨PyData.keyHash P (.ofString "__static_attributes__"), (.str (.ofString "__static_attributes__") 861), (.ref 524)⟩, ⟨PyData.keyHash P (.ofString "__doc__"), (.str (.ofString "__doc__") 862), .none⟩] 2), #[]⟩
def o526v2 (P : Params) : Obj := ⟨(.type "type"), none, (.cls { name := (.ofString "NotHere"), bases := [(.ref 31)], mro := [(.ref 526), (.ref 31), (.type "ValueError"), (.type "Exception"), (.type "BaseException"), (.type "object")], ns := 525, qualname := (.ofString "NotHere") }), #[(some (.ref 510)), none, (some (.str (.ofString "NotHere") 840)), (some (.str (.ofString "NotHere") 848)), (some (.builtin "ValueError.__new__")), (some (.bool true))]⟩
def o527v2 (P : Params) : Obj := ⟨(.type "super"), none, (.fields #[(.ref 526), (.ref 526), (.ref 526)]), #[]⟩
def o528v2 (P : Params) : Obj := ⟨(.type "builtin_function_or_method"), none, (.fields #[(.builtin "object.__init_subclass__"), (.ref 526)]), #[]⟩
def o529v2 (P : Params) : Obj := ⟨(.type "tuple"), none, (.seq #[(.ref 31)] 0), #[]⟩
def o530v2 (P : Params) : Obj := ⟨(.type "builtin_function_or_method"), none, (.fields #[(.builtin "type.__prepare__"), (.type "type")]), #[]⟩
def o531v2 (P : Params) : Obj := ⟨(.type "dict"), none, (.dict #[⟨PyData.keyHash P (.ofString "__module__"), (.str (.ofString "__module__") 872), (.str (.ofString "onestaff.errors") 187)⟩, ⟨PyData.keyHash P (.ofString "__qualname__"), (.str (.ofString "__qualname__") 874), (.str (.ofString "NotIn") 873)⟩, ⟨PyData.keyHash P (.ofString "__firstlineno__"), (.str (.ofString "__firstlineno__") 876), (.int 136 875)⟩, ⟨PyData.keyHash P (.ofString "__init__"), (.str (.ofString "__init__") 884), (.ref 542)⟩, ⟨PyData.keyHash P (.ofString "__static_attributes__"), (.str (.ofString "__static_attributes__") 886), (.ref 543)⟩] 5), #[]⟩
def o532v2 (P : Params) : Obj := ⟨(.type "tuple"), none, (.seq #[] 0), #[]⟩
def o533v2 (P : Params) : Obj := ⟨.none, none, (.fields #[(.int 138 0), (.int 4 0), (.ref 541)]), #[]⟩
def o534v2 (P : Params) : Obj := ⟨(.type "code"), none, (.fields #[(.str (.ofString "NotIn") 867), (.str (.ofString "NotIn") 868), (.str (.ofString "/claim/cut.py") 869), (.int 136 0), (.int 0 0), (.int 0 0), (.int 0 0), (.int 0 0), (.ref 532), (.bool false), (.int 181 0), (.ref 533), .none, .none, .none, .none, (.int 870 0), (.int 136 0), (.str (.ofString "/claim/cut.py") 871)]), #[]⟩
def o535v2 (P : Params) : Obj := ⟨(.type "frame"), none, .plain, #[(some (.ref 534)), (some (.ref 3)), (some (.ref 531)), none, (some (.str (.ofString "onestaff.errors") 187)), none, (some (.ref 0))]⟩
def o536v2 (P : Params) : Obj := ⟨(.type "tuple"), none, (.seq #[] 0), #[]⟩
def o537v2 (P : Params) : Obj := ⟨.none, none, (.fields #[]), #[]⟩
def o538v2 (P : Params) : Obj := ⟨(.type "tuple"), none, (.seq #[(.str (.ofString "self") 880), (.str (.ofString "found") 881)] 0), #[]⟩
def o539v2 (P : Params) : Obj := ⟨(.type "tuple"), none, (.seq #[] 0), #[]⟩
def o540v2 (P : Params) : Obj := ⟨.none, none, (.func { name := (.ofString "__init__"), qualname := (.ofString "NotIn.__init__"), params := defArgs (inClass (tp 28) 0), body := .stmts (defBody (inClass (tp 28) 0)), scope := defScope (inClass (tp 28) 0), globals := 0, closure := [], defaults := .none, kwdefaults := .none }), #[]⟩
def o541v2 (P : Params) : Obj := ⟨(.type "code"), none, (.fields #[(.str (.ofString "__init__") 877), (.str (.ofString "NotIn.__init__") 878), (.str (.ofString "/claim/cut.py") 879), (.int 138 0), (.int 2 0), (.int 0 0), (.int 0 0), (.int 3 0), (.ref 536), (.bool true), (.int 181 0), (.ref 537), .none, (.ref 538), (.ref 539), (.ref 540), (.int 882 0), (.int 138 0), (.str (.ofString "/claim/cut.py") 883)]), #[]⟩
def o542v2 (P : Params) : Obj := ⟨(.type "function"), none, (.func { name := (.ofString "__init__"), qualname := (.ofString "NotIn.__init__"), params := defArgs (inClass (tp 28) 0), body := .stmts (defBody (inClass (tp 28) 0)), scope := defScope (inClass (tp 28) 0), globals := 3, closure := [], defaults := .none, kwdefaults := .none, pyModule := (.str (.ofString "onestaff.errors") 187), code := (.ref 541) }), #[]⟩
def o543v2 (P : Params) : Obj := ⟨(.type "tuple"), none, (.seq #[(.str (.ofString "found") 885)] 0), #[]⟩
def o544v2 (P : Params) : Obj := ⟨(.type "dict"), none, (.dict #[⟨PyData.keyHash P (.ofString "__module__"), (.str (.ofString "__module__") 872), (.str (.ofString "onestaff.errors") 187)⟩, ⟨PyData.keyHash P (.ofString "__firstlineno__"), (.str (.ofString "__firstlineno__") 876), (.int 136 875)⟩, ⟨PyData.keyHash P (.ofString "__init__"), (.str (.ofString "__init__") 884), (.ref 542)⟩, ⟨PyData.keyHash P (.ofString "__static_attributes__"), (.str (.ofString "__static_attributes__") 886), (.ref 543)⟩, ⟨PyData.keyHash P (.ofString "__doc__"), (.str (.ofString "__doc__") 887), .none⟩] 2), #[]⟩
def o545v2 (P : Params) : Obj := ⟨(.type "type"), none, (.cls { name := (.ofString "NotIn"), bases := [(.ref 31)], mro := [(.ref 545), (.ref 31), (.type "ValueError"), (.type "Exception"), (.type "BaseException"), (.type "object")], ns := 544, qualname := (.ofString "NotIn") }), #[(some (.ref 529)), none, (some (.str (.ofString "NotIn") 865)), (some (.str (.ofString "NotIn") 873)), (some (.builtin "ValueError.__new__")), (some (.bool true))]⟩
def o546v2 (P : Params) : Obj := ⟨(.type "super"), none, (.fields #[(.ref 545), (.ref 545), (.ref 545)]), #[]⟩
def o547v2 (P : Params) : Obj := ⟨(.type "builtin_function_or_method"), none, (.fields #[(.builtin "object.__init_subclass__"), (.ref 545)]), #[]⟩
def o548v2 (P : Params) : Obj := ⟨(.type "tuple"), none, (.seq #[(.ref 31)] 0), #[]⟩
def o549v2 (P : Params) : Obj := ⟨(.type "builtin_function_or_method"), none, (.fields #[(.builtin "type.__prepare__"), (.type "type")]), #[]⟩
def o550v2 (P : Params) : Obj := ⟨(.type "dict"), none, (.dict #[⟨PyData.keyHash P (.ofString "__module__"), (.str (.ofString "__module__") 897), (.str (.ofString "onestaff.errors") 187)⟩, ⟨PyData.keyHash P (.ofString "__qualname__"), (.str (.ofString "__qualname__") 899), (.str (.ofString "NotHeld") 898)⟩, ⟨PyData.keyHash P (.ofString "__firstlineno__"), (.str (.ofString "__firstlineno__") 901), (.int 141 900)⟩, ⟨PyData.keyHash P (.ofString "__init__"), (.str (.ofString "__init__") 909), (.ref 561)⟩, ⟨PyData.keyHash P (.ofString "__static_attributes__"), (.str (.ofString "__static_attributes__") 911), (.ref 562)⟩] 5), #[]⟩
def o551v2 (P : Params) : Obj := ⟨(.type "tuple"), none, (.seq #[] 0), #[]⟩
def o552v2 (P : Params) : Obj := ⟨.none, none, (.fields #[(.int 143 0), (.int 4 0), (.ref 560)]), #[]⟩
def o553v2 (P : Params) : Obj := ⟨(.type "code"), none, (.fields #[(.str (.ofString "NotHeld") 892), (.str (.ofString "NotHeld") 893), (.str (.ofString "/claim/cut.py") 894), (.int 141 0), (.int 0 0), (.int 0 0), (.int 0 0), (.int 0 0), (.ref 551), (.bool false), (.int 181 0), (.ref 552), .none, .none, .none, .none, (.int 895 0), (.int 141 0), (.str (.ofString "/claim/cut.py") 896)]), #[]⟩
def o554v2 (P : Params) : Obj := ⟨(.type "frame"), none, .plain, #[(some (.ref 553)), (some (.ref 3)), (some (.ref 550)), none, (some (.str (.ofString "onestaff.errors") 187)), none, (some (.ref 0))]⟩
def o555v2 (P : Params) : Obj := ⟨(.type "tuple"), none, (.seq #[] 0), #[]⟩
def o556v2 (P : Params) : Obj := ⟨.none, none, (.fields #[]), #[]⟩
def o557v2 (P : Params) : Obj := ⟨(.type "tuple"), none, (.seq #[(.str (.ofString "self") 905), (.str (.ofString "found") 906)] 0), #[]⟩
def o558v2 (P : Params) : Obj := ⟨(.type "tuple"), none, (.seq #[] 0), #[]⟩
def o559v2 (P : Params) : Obj := ⟨.none, none, (.func { name := (.ofString "__init__"), qualname := (.ofString "NotHeld.__init__"), params := defArgs (inClass (tp 29) 0), body := .stmts (defBody (inClass (tp 29) 0)), scope := defScope (inClass (tp 29) 0), globals := 0, closure := [], defaults := .none, kwdefaults := .none }), #[]⟩
def o560v2 (P : Params) : Obj := ⟨(.type "code"), none, (.fields #[(.str (.ofString "__init__") 902), (.str (.ofString "NotHeld.__init__") 903), (.str (.ofString "/claim/cut.py") 904), (.int 143 0), (.int 2 0), (.int 0 0), (.int 0 0), (.int 3 0), (.ref 555), (.bool true), (.int 181 0), (.ref 556), .none, (.ref 557), (.ref 558), (.ref 559), (.int 907 0), (.int 143 0), (.str (.ofString "/claim/cut.py") 908)]), #[]⟩
def o561v2 (P : Params) : Obj := ⟨(.type "function"), none, (.func { name := (.ofString "__init__"), qualname := (.ofString "NotHeld.__init__"), params := defArgs (inClass (tp 29) 0), body := .stmts (defBody (inClass (tp 29) 0)), scope := defScope (inClass (tp 29) 0), globals := 3, closure := [], defaults := .none, kwdefaults := .none, pyModule := (.str (.ofString "onestaff.errors") 187), code := (.ref 560) }), #[]⟩
def o562v2 (P : Params) : Obj := ⟨(.type "tuple"), none, (.seq #[(.str (.ofString "found") 910)] 0), #[]⟩
def o563v2 (P : Params) : Obj := ⟨(.type "dict"), none, (.dict #[⟨PyData.keyHash P (.ofString "__module__"), (.str (.ofString "__module__") 897), (.str (.ofString "onestaff.errors") 187)⟩, ⟨PyData.keyHash P (.ofString "__firstlineno__"), (.str (.ofString "__firstlineno__") 901), (.int 141 900)⟩, ⟨PyData.keyHash P (.ofString "__init__"), (.str (.ofString "__init__") 909), (.ref 561)⟩, ⟨PyData.keyHash P (.ofString "__static_attributes__"), (.str (.ofString "__static_attributes__") 911), (.ref 562)⟩, ⟨PyData.keyHash P (.ofString "__doc__"), (.str (.ofString "__doc__") 912), .none⟩] 2), #[]⟩
def o564v2 (P : Params) : Obj := ⟨(.type "type"), none, (.cls { name := (.ofString "NotHeld"), bases := [(.ref 31)], mro := [(.ref 564), (.ref 31), (.type "ValueError"), (.type "Exception"), (.type "BaseException"), (.type "object")], ns := 563, qualname := (.ofString "NotHeld") }), #[(some (.ref 548)), none, (some (.str (.ofString "NotHeld") 890)), (some (.str (.ofString "NotHeld") 898)), (some (.builtin "ValueError.__new__")), (some (.bool true))]⟩
def o565v2 (P : Params) : Obj := ⟨(.type "super"), none, (.fields #[(.ref 564), (.ref 564), (.ref 564)]), #[]⟩
def o566v2 (P : Params) : Obj := ⟨(.type "builtin_function_or_method"), none, (.fields #[(.builtin "object.__init_subclass__"), (.ref 564)]), #[]⟩
def o567v2 (P : Params) : Obj := ⟨(.type "tuple"), none, (.seq #[(.ref 31)] 0), #[]⟩
def o568v2 (P : Params) : Obj := ⟨(.type "builtin_function_or_method"), none, (.fields #[(.builtin "type.__prepare__"), (.type "type")]), #[]⟩
def o569v2 (P : Params) : Obj := ⟨(.type "dict"), none, (.dict #[⟨PyData.keyHash P (.ofString "__module__"), (.str (.ofString "__module__") 922), (.str (.ofString "onestaff.errors") 187)⟩, ⟨PyData.keyHash P (.ofString "__qualname__"), (.str (.ofString "__qualname__") 924), (.str (.ofString "NotHelped") 923)⟩, ⟨PyData.keyHash P (.ofString "__firstlineno__"), (.str (.ofString "__firstlineno__") 926), (.int 146 925)⟩, ⟨PyData.keyHash P (.ofString "__init__"), (.str (.ofString "__init__") 934), (.ref 580)⟩, ⟨PyData.keyHash P (.ofString "__static_attributes__"), (.str (.ofString "__static_attributes__") 936), (.ref 581)⟩] 5), #[]⟩
def o570v2 (P : Params) : Obj := ⟨(.type "tuple"), none, (.seq #[] 0), #[]⟩
def o571v2 (P : Params) : Obj := ⟨.none, none, (.fields #[(.int 148 0), (.int 4 0), (.ref 579)]), #[]⟩
def o572v2 (P : Params) : Obj := ⟨(.type "code"), none, (.fields #[(.str (.ofString "NotHelped") 917), (.str (.ofString "NotHelped") 918), (.str (.ofString "/claim/cut.py") 919), (.int 146 0), (.int 0 0), (.int 0 0), (.int 0 0), (.int 0 0), (.ref 570), (.bool false), (.int 181 0), (.ref 571), .none, .none, .none, .none, (.int 920 0), (.int 146 0), (.str (.ofString "/claim/cut.py") 921)]), #[]⟩
def o573v2 (P : Params) : Obj := ⟨(.type "frame"), none, .plain, #[(some (.ref 572)), (some (.ref 3)), (some (.ref 569)), none, (some (.str (.ofString "onestaff.errors") 187)), none, (some (.ref 0))]⟩
def o574v2 (P : Params) : Obj := ⟨(.type "tuple"), none, (.seq #[] 0), #[]⟩
def o575v2 (P : Params) : Obj := ⟨.none, none, (.fields #[]), #[]⟩
def o576v2 (P : Params) : Obj := ⟨(.type "tuple"), none, (.seq #[(.str (.ofString "self") 930), (.str (.ofString "found") 931)] 0), #[]⟩
def o577v2 (P : Params) : Obj := ⟨(.type "tuple"), none, (.seq #[] 0), #[]⟩
def o578v2 (P : Params) : Obj := ⟨.none, none, (.func { name := (.ofString "__init__"), qualname := (.ofString "NotHelped.__init__"), params := defArgs (inClass (tp 30) 0), body := .stmts (defBody (inClass (tp 30) 0)), scope := defScope (inClass (tp 30) 0), globals := 0, closure := [], defaults := .none, kwdefaults := .none }), #[]⟩
def o579v2 (P : Params) : Obj := ⟨(.type "code"), none, (.fields #[(.str (.ofString "__init__") 927), (.str (.ofString "NotHelped.__init__") 928), (.str (.ofString "/claim/cut.py") 929), (.int 148 0), (.int 2 0), (.int 0 0), (.int 0 0), (.int 3 0), (.ref 574), (.bool true), (.int 181 0), (.ref 575), .none, (.ref 576), (.ref 577), (.ref 578), (.int 932 0), (.int 148 0), (.str (.ofString "/claim/cut.py") 933)]), #[]⟩
def o580v2 (P : Params) : Obj := ⟨(.type "function"), none, (.func { name := (.ofString "__init__"), qualname := (.ofString "NotHelped.__init__"), params := defArgs (inClass (tp 30) 0), body := .stmts (defBody (inClass (tp 30) 0)), scope := defScope (inClass (tp 30) 0), globals := 3, closure := [], defaults := .none, kwdefaults := .none, pyModule := (.str (.ofString "onestaff.errors") 187), code := (.ref 579) }), #[]⟩
def o581v2 (P : Params) : Obj := ⟨(.type "tuple"), none, (.seq #[(.str (.ofString "found") 935)] 0), #[]⟩
def o582v2 (P : Params) : Obj := ⟨(.type "dict"), none, (.dict #[⟨PyData.keyHash P (.ofString "__module__"), (.str (.ofString "__module__") 922), (.str (.ofString "onestaff.errors") 187)⟩, ⟨PyData.keyHash P (.ofString "__firstlineno__"), (.str (.ofString "__firstlineno__") 926), (.int 146 925)⟩, ⟨PyData.keyHash P (.ofString "__init__"), (.str (.ofString "__init__") 934), (.ref 580)⟩, ⟨PyData.keyHash P (.ofString "__static_attributes__"), (.str (.ofString "__static_attributes__") 936), (.ref 581)⟩, ⟨PyData.keyHash P (.ofString "__doc__"), (.str (.ofString "__doc__") 937), .none⟩] 2), #[]⟩
def o583v2 (P : Params) : Obj := ⟨(.type "type"), none, (.cls { name := (.ofString "NotHelped"), bases := [(.ref 31)], mro := [(.ref 583), (.ref 31), (.type "ValueError"), (.type "Exception"), (.type "BaseException"), (.type "object")], ns := 582, qualname := (.ofString "NotHelped") }), #[(some (.ref 567)), none, (some (.str (.ofString "NotHelped") 915)), (some (.str (.ofString "NotHelped") 923)), (some (.builtin "ValueError.__new__")), (some (.bool true))]⟩
def o584v2 (P : Params) : Obj := ⟨(.type "super"), none, (.fields #[(.ref 583), (.ref 583), (.ref 583)]), #[]⟩
def o585v2 (P : Params) : Obj := ⟨(.type "builtin_function_or_method"), none, (.fields #[(.builtin "object.__init_subclass__"), (.ref 583)]), #[]⟩
def o586v2 (P : Params) : Obj := ⟨(.type "tuple"), none, (.seq #[(.ref 31)] 0), #[]⟩
def o587v2 (P : Params) : Obj := ⟨(.type "builtin_function_or_method"), none, (.fields #[(.builtin "type.__prepare__"), (.type "type")]), #[]⟩
def o588v2 (P : Params) : Obj := ⟨(.type "dict"), none, (.dict #[⟨PyData.keyHash P (.ofString "__module__"), (.str (.ofString "__module__") 947), (.str (.ofString "onestaff.errors") 187)⟩, ⟨PyData.keyHash P (.ofString "__qualname__"), (.str (.ofString "__qualname__") 949), (.str (.ofString "Full") 948)⟩, ⟨PyData.keyHash P (.ofString "__firstlineno__"), (.str (.ofString "__firstlineno__") 951), (.int 151 950)⟩, ⟨PyData.keyHash P (.ofString "__init__"), (.str (.ofString "__init__") 959), (.ref 599)⟩, ⟨PyData.keyHash P (.ofString "__static_attributes__"), (.str (.ofString "__static_attributes__") 961), (.ref 600)⟩] 5), #[]⟩
def o589v2 (P : Params) : Obj := ⟨(.type "tuple"), none, (.seq #[] 0), #[]⟩
def o590v2 (P : Params) : Obj := ⟨.none, none, (.fields #[(.int 153 0), (.int 4 0), (.ref 598)]), #[]⟩
def o591v2 (P : Params) : Obj := ⟨(.type "code"), none, (.fields #[(.str (.ofString "Full") 942), (.str (.ofString "Full") 943), (.str (.ofString "/claim/cut.py") 944), (.int 151 0), (.int 0 0), (.int 0 0), (.int 0 0), (.int 0 0), (.ref 589), (.bool false), (.int 181 0), (.ref 590), .none, .none, .none, .none, (.int 945 0), (.int 151 0), (.str (.ofString "/claim/cut.py") 946)]), #[]⟩
def o592v2 (P : Params) : Obj := ⟨(.type "frame"), none, .plain, #[(some (.ref 591)), (some (.ref 3)), (some (.ref 588)), none, (some (.str (.ofString "onestaff.errors") 187)), none, (some (.ref 0))]⟩
def o593v2 (P : Params) : Obj := ⟨(.type "tuple"), none, (.seq #[] 0), #[]⟩
def o594v2 (P : Params) : Obj := ⟨.none, none, (.fields #[]), #[]⟩
def o595v2 (P : Params) : Obj := ⟨(.type "tuple"), none, (.seq #[(.str (.ofString "self") 955), (.str (.ofString "found") 956)] 0), #[]⟩
def o596v2 (P : Params) : Obj := ⟨(.type "tuple"), none, (.seq #[] 0), #[]⟩
def o597v2 (P : Params) : Obj := ⟨.none, none, (.func { name := (.ofString "__init__"), qualname := (.ofString "Full.__init__"), params := defArgs (inClass (tp 31) 0), body := .stmts (defBody (inClass (tp 31) 0)), scope := defScope (inClass (tp 31) 0), globals := 0, closure := [], defaults := .none, kwdefaults := .none }), #[]⟩
def o598v2 (P : Params) : Obj := ⟨(.type "code"), none, (.fields #[(.str (.ofString "__init__") 952), (.str (.ofString "Full.__init__") 953), (.str (.ofString "/claim/cut.py") 954), (.int 153 0), (.int 2 0), (.int 0 0), (.int 0 0), (.int 3 0), (.ref 593), (.bool true), (.int 181 0), (.ref 594), .none, (.ref 595), (.ref 596), (.ref 597), (.int 957 0), (.int 153 0), (.str (.ofString "/claim/cut.py") 958)]), #[]⟩
def o599v2 (P : Params) : Obj := ⟨(.type "function"), none, (.func { name := (.ofString "__init__"), qualname := (.ofString "Full.__init__"), params := defArgs (inClass (tp 31) 0), body := .stmts (defBody (inClass (tp 31) 0)), scope := defScope (inClass (tp 31) 0), globals := 3, closure := [], defaults := .none, kwdefaults := .none, pyModule := (.str (.ofString "onestaff.errors") 187), code := (.ref 598) }), #[]⟩
def o600v2 (P : Params) : Obj := ⟨(.type "tuple"), none, (.seq #[(.str (.ofString "found") 960)] 0), #[]⟩
def o601v2 (P : Params) : Obj := ⟨(.type "dict"), none, (.dict #[⟨PyData.keyHash P (.ofString "__module__"), (.str (.ofString "__module__") 947), (.str (.ofString "onestaff.errors") 187)⟩, ⟨PyData.keyHash P (.ofString "__firstlineno__"), (.str (.ofString "__firstlineno__") 951), (.int 151 950)⟩, ⟨PyData.keyHash P (.ofString "__init__"), (.str (.ofString "__init__") 959), (.ref 599)⟩, ⟨PyData.keyHash P (.ofString "__static_attributes__"), (.str (.ofString "__static_attributes__") 961), (.ref 600)⟩, ⟨PyData.keyHash P (.ofString "__doc__"), (.str (.ofString "__doc__") 962), .none⟩] 2), #[]⟩
def o602v2 (P : Params) : Obj := ⟨(.type "type"), none, (.cls { name := (.ofString "Full"), bases := [(.ref 31)], mro := [(.ref 602), (.ref 31), (.type "ValueError"), (.type "Exception"), (.type "BaseException"), (.type "object")], ns := 601, qualname := (.ofString "Full") }), #[(some (.ref 586)), none, (some (.str (.ofString "Full") 940)), (some (.str (.ofString "Full") 948)), (some (.builtin "ValueError.__new__")), (some (.bool true))]⟩
def o603v2 (P : Params) : Obj := ⟨(.type "super"), none, (.fields #[(.ref 602), (.ref 602), (.ref 602)]), #[]⟩
def o604v2 (P : Params) : Obj := ⟨(.type "builtin_function_or_method"), none, (.fields #[(.builtin "object.__init_subclass__"), (.ref 602)]), #[]⟩
def o605v2 (P : Params) : Obj := ⟨(.type "tuple"), none, (.seq #[(.ref 31)] 0), #[]⟩
def o606v2 (P : Params) : Obj := ⟨(.type "builtin_function_or_method"), none, (.fields #[(.builtin "type.__prepare__"), (.type "type")]), #[]⟩
def o607v2 (P : Params) : Obj := ⟨(.type "dict"), none, (.dict #[⟨PyData.keyHash P (.ofString "__module__"), (.str (.ofString "__module__") 972), (.str (.ofString "onestaff.errors") 187)⟩, ⟨PyData.keyHash P (.ofString "__qualname__"), (.str (.ofString "__qualname__") 974), (.str (.ofString "Lacks") 973)⟩, ⟨PyData.keyHash P (.ofString "__firstlineno__"), (.str (.ofString "__firstlineno__") 976), (.int 156 975)⟩, ⟨PyData.keyHash P (.ofString "__init__"), (.str (.ofString "__init__") 984), (.ref 618)⟩, ⟨PyData.keyHash P (.ofString "__static_attributes__"), (.str (.ofString "__static_attributes__") 986), (.ref 619)⟩] 5), #[]⟩
def o608v2 (P : Params) : Obj := ⟨(.type "tuple"), none, (.seq #[] 0), #[]⟩
def o609v2 (P : Params) : Obj := ⟨.none, none, (.fields #[(.int 158 0), (.int 4 0), (.ref 617)]), #[]⟩
def o610v2 (P : Params) : Obj := ⟨(.type "code"), none, (.fields #[(.str (.ofString "Lacks") 967), (.str (.ofString "Lacks") 968), (.str (.ofString "/claim/cut.py") 969), (.int 156 0), (.int 0 0), (.int 0 0), (.int 0 0), (.int 0 0), (.ref 608), (.bool false), (.int 181 0), (.ref 609), .none, .none, .none, .none, (.int 970 0), (.int 156 0), (.str (.ofString "/claim/cut.py") 971)]), #[]⟩
def o611v2 (P : Params) : Obj := ⟨(.type "frame"), none, .plain, #[(some (.ref 610)), (some (.ref 3)), (some (.ref 607)), none, (some (.str (.ofString "onestaff.errors") 187)), none, (some (.ref 0))]⟩
def o612v2 (P : Params) : Obj := ⟨(.type "tuple"), none, (.seq #[] 0), #[]⟩
def o613v2 (P : Params) : Obj := ⟨.none, none, (.fields #[]), #[]⟩
def o614v2 (P : Params) : Obj := ⟨(.type "tuple"), none, (.seq #[(.str (.ofString "self") 980), (.str (.ofString "found") 981)] 0), #[]⟩
def o615v2 (P : Params) : Obj := ⟨(.type "tuple"), none, (.seq #[] 0), #[]⟩
def o616v2 (P : Params) : Obj := ⟨.none, none, (.func { name := (.ofString "__init__"), qualname := (.ofString "Lacks.__init__"), params := defArgs (inClass (tp 32) 0), body := .stmts (defBody (inClass (tp 32) 0)), scope := defScope (inClass (tp 32) 0), globals := 0, closure := [], defaults := .none, kwdefaults := .none }), #[]⟩
def o617v2 (P : Params) : Obj := ⟨(.type "code"), none, (.fields #[(.str (.ofString "__init__") 977), (.str (.ofString "Lacks.__init__") 978), (.str (.ofString "/claim/cut.py") 979), (.int 158 0), (.int 2 0), (.int 0 0), (.int 0 0), (.int 3 0), (.ref 612), (.bool true), (.int 181 0), (.ref 613), .none, (.ref 614), (.ref 615), (.ref 616), (.int 982 0), (.int 158 0), (.str (.ofString "/claim/cut.py") 983)]), #[]⟩
def o618v2 (P : Params) : Obj := ⟨(.type "function"), none, (.func { name := (.ofString "__init__"), qualname := (.ofString "Lacks.__init__"), params := defArgs (inClass (tp 32) 0), body := .stmts (defBody (inClass (tp 32) 0)), scope := defScope (inClass (tp 32) 0), globals := 3, closure := [], defaults := .none, kwdefaults := .none, pyModule := (.str (.ofString "onestaff.errors") 187), code := (.ref 617) }), #[]⟩
def o619v2 (P : Params) : Obj := ⟨(.type "tuple"), none, (.seq #[(.str (.ofString "found") 985)] 0), #[]⟩
def o620v2 (P : Params) : Obj := ⟨(.type "dict"), none, (.dict #[⟨PyData.keyHash P (.ofString "__module__"), (.str (.ofString "__module__") 972), (.str (.ofString "onestaff.errors") 187)⟩, ⟨PyData.keyHash P (.ofString "__firstlineno__"), (.str (.ofString "__firstlineno__") 976), (.int 156 975)⟩, ⟨PyData.keyHash P (.ofString "__init__"), (.str (.ofString "__init__") 984), (.ref 618)⟩, ⟨PyData.keyHash P (.ofString "__static_attributes__"), (.str (.ofString "__static_attributes__") 986), (.ref 619)⟩, ⟨PyData.keyHash P (.ofString "__doc__"), (.str (.ofString "__doc__") 987), .none⟩] 2), #[]⟩
def o621v2 (P : Params) : Obj := ⟨(.type "type"), none, (.cls { name := (.ofString "Lacks"), bases := [(.ref 31)], mro := [(.ref 621), (.ref 31), (.type "ValueError"), (.type "Exception"), (.type "BaseException"), (.type "object")], ns := 620, qualname := (.ofString "Lacks") }), #[(some (.ref 605)), none, (some (.str (.ofString "Lacks") 965)), (some (.str (.ofString "Lacks") 973)), (some (.builtin "ValueError.__new__")), (some (.bool true))]⟩
def o622v2 (P : Params) : Obj := ⟨(.type "super"), none, (.fields #[(.ref 621), (.ref 621), (.ref 621)]), #[]⟩
def o623v2 (P : Params) : Obj := ⟨(.type "builtin_function_or_method"), none, (.fields #[(.builtin "object.__init_subclass__"), (.ref 621)]), #[]⟩
def o624v2 (P : Params) : Obj := ⟨(.type "tuple"), none, (.seq #[(.ref 31)] 0), #[]⟩
def o625v2 (P : Params) : Obj := ⟨(.type "builtin_function_or_method"), none, (.fields #[(.builtin "type.__prepare__"), (.type "type")]), #[]⟩
def o626v2 (P : Params) : Obj := ⟨(.type "dict"), none, (.dict #[⟨PyData.keyHash P (.ofString "__module__"), (.str (.ofString "__module__") 997), (.str (.ofString "onestaff.errors") 187)⟩, ⟨PyData.keyHash P (.ofString "__qualname__"), (.str (.ofString "__qualname__") 999), (.str (.ofString "Shut") 998)⟩, ⟨PyData.keyHash P (.ofString "__firstlineno__"), (.str (.ofString "__firstlineno__") 1001), (.int 161 1000)⟩, ⟨PyData.keyHash P (.ofString "__init__"), (.str (.ofString "__init__") 1009), (.ref 637)⟩, ⟨PyData.keyHash P (.ofString "__static_attributes__"), (.str (.ofString "__static_attributes__") 1011), (.ref 638)⟩] 5), #[]⟩
def o627v2 (P : Params) : Obj := ⟨(.type "tuple"), none, (.seq #[] 0), #[]⟩
def o628v2 (P : Params) : Obj := ⟨.none, none, (.fields #[(.int 163 0), (.int 4 0), (.ref 636)]), #[]⟩
def o629v2 (P : Params) : Obj := ⟨(.type "code"), none, (.fields #[(.str (.ofString "Shut") 992), (.str (.ofString "Shut") 993), (.str (.ofString "/claim/cut.py") 994), (.int 161 0), (.int 0 0), (.int 0 0), (.int 0 0), (.int 0 0), (.ref 627), (.bool false), (.int 181 0), (.ref 628), .none, .none, .none, .none, (.int 995 0), (.int 161 0), (.str (.ofString "/claim/cut.py") 996)]), #[]⟩
def o630v2 (P : Params) : Obj := ⟨(.type "frame"), none, .plain, #[(some (.ref 629)), (some (.ref 3)), (some (.ref 626)), none, (some (.str (.ofString "onestaff.errors") 187)), none, (some (.ref 0))]⟩
def o631v2 (P : Params) : Obj := ⟨(.type "tuple"), none, (.seq #[] 0), #[]⟩
def o632v2 (P : Params) : Obj := ⟨.none, none, (.fields #[]), #[]⟩
def o633v2 (P : Params) : Obj := ⟨(.type "tuple"), none, (.seq #[(.str (.ofString "self") 1005), (.str (.ofString "found") 1006)] 0), #[]⟩
def o634v2 (P : Params) : Obj := ⟨(.type "tuple"), none, (.seq #[] 0), #[]⟩
def o635v2 (P : Params) : Obj := ⟨.none, none, (.func { name := (.ofString "__init__"), qualname := (.ofString "Shut.__init__"), params := defArgs (inClass (tp 33) 0), body := .stmts (defBody (inClass (tp 33) 0)), scope := defScope (inClass (tp 33) 0), globals := 0, closure := [], defaults := .none, kwdefaults := .none }), #[]⟩
def o636v2 (P : Params) : Obj := ⟨(.type "code"), none, (.fields #[(.str (.ofString "__init__") 1002), (.str (.ofString "Shut.__init__") 1003), (.str (.ofString "/claim/cut.py") 1004), (.int 163 0), (.int 2 0), (.int 0 0), (.int 0 0), (.int 3 0), (.ref 631), (.bool true), (.int 181 0), (.ref 632), .none, (.ref 633), (.ref 634), (.ref 635), (.int 1007 0), (.int 163 0), (.str (.ofString "/claim/cut.py") 1008)]), #[]⟩
def o637v2 (P : Params) : Obj := ⟨(.type "function"), none, (.func { name := (.ofString "__init__"), qualname := (.ofString "Shut.__init__"), params := defArgs (inClass (tp 33) 0), body := .stmts (defBody (inClass (tp 33) 0)), scope := defScope (inClass (tp 33) 0), globals := 3, closure := [], defaults := .none, kwdefaults := .none, pyModule := (.str (.ofString "onestaff.errors") 187), code := (.ref 636) }), #[]⟩
def o638v2 (P : Params) : Obj := ⟨(.type "tuple"), none, (.seq #[(.str (.ofString "found") 1010)] 0), #[]⟩
def o639v2 (P : Params) : Obj := ⟨(.type "dict"), none, (.dict #[⟨PyData.keyHash P (.ofString "__module__"), (.str (.ofString "__module__") 997), (.str (.ofString "onestaff.errors") 187)⟩, ⟨PyData.keyHash P (.ofString "__firstlineno__"), (.str (.ofString "__firstlineno__") 1001), (.int 161 1000)⟩, ⟨PyData.keyHash P (.ofString "__init__"), (.str (.ofString "__init__") 1009), (.ref 637)⟩, ⟨PyData.keyHash P (.ofString "__static_attributes__"), (.str (.ofString "__static_attributes__") 1011), (.ref 638)⟩, ⟨PyData.keyHash P (.ofString "__doc__"), (.str (.ofString "__doc__") 1012), .none⟩] 2), #[]⟩
def o640v2 (P : Params) : Obj := ⟨(.type "type"), none, (.cls { name := (.ofString "Shut"), bases := [(.ref 31)], mro := [(.ref 640), (.ref 31), (.type "ValueError"), (.type "Exception"), (.type "BaseException"), (.type "object")], ns := 639, qualname := (.ofString "Shut") }), #[(some (.ref 624)), none, (some (.str (.ofString "Shut") 990)), (some (.str (.ofString "Shut") 998)), (some (.builtin "ValueError.__new__")), (some (.bool true))]⟩
def o641v2 (P : Params) : Obj := ⟨(.type "super"), none, (.fields #[(.ref 640), (.ref 640), (.ref 640)]), #[]⟩
def o642v2 (P : Params) : Obj := ⟨(.type "builtin_function_or_method"), none, (.fields #[(.builtin "object.__init_subclass__"), (.ref 640)]), #[]⟩
def o643v2 (P : Params) : Obj := ⟨(.type "tuple"), none, (.seq #[(.ref 31)] 0), #[]⟩
def o644v2 (P : Params) : Obj := ⟨(.type "builtin_function_or_method"), none, (.fields #[(.builtin "type.__prepare__"), (.type "type")]), #[]⟩
def o645v2 (P : Params) : Obj := ⟨(.type "dict"), none, (.dict #[⟨PyData.keyHash P (.ofString "__module__"), (.str (.ofString "__module__") 1022), (.str (.ofString "onestaff.errors") 187)⟩, ⟨PyData.keyHash P (.ofString "__qualname__"), (.str (.ofString "__qualname__") 1024), (.str (.ofString "Held") 1023)⟩, ⟨PyData.keyHash P (.ofString "__firstlineno__"), (.str (.ofString "__firstlineno__") 1026), (.int 166 1025)⟩, ⟨PyData.keyHash P (.ofString "__init__"), (.str (.ofString "__init__") 1034), (.ref 656)⟩, ⟨PyData.keyHash P (.ofString "__static_attributes__"), (.str (.ofString "__static_attributes__") 1036), (.ref 657)⟩] 5), #[]⟩
def o646v2 (P : Params) : Obj := ⟨(.type "tuple"), none, (.seq #[] 0), #[]⟩
def o647v2 (P : Params) : Obj := ⟨.none, none, (.fields #[(.int 168 0), (.int 4 0), (.ref 655)]), #[]⟩
def o648v2 (P : Params) : Obj := ⟨(.type "code"), none, (.fields #[(.str (.ofString "Held") 1017), (.str (.ofString "Held") 1018), (.str (.ofString "/claim/cut.py") 1019), (.int 166 0), (.int 0 0), (.int 0 0), (.int 0 0), (.int 0 0), (.ref 646), (.bool false), (.int 181 0), (.ref 647), .none, .none, .none, .none, (.int 1020 0), (.int 166 0), (.str (.ofString "/claim/cut.py") 1021)]), #[]⟩
def o649v2 (P : Params) : Obj := ⟨(.type "frame"), none, .plain, #[(some (.ref 648)), (some (.ref 3)), (some (.ref 645)), none, (some (.str (.ofString "onestaff.errors") 187)), none, (some (.ref 0))]⟩
def o650v2 (P : Params) : Obj := ⟨(.type "tuple"), none, (.seq #[] 0), #[]⟩
def o651v2 (P : Params) : Obj := ⟨.none, none, (.fields #[]), #[]⟩
def o652v2 (P : Params) : Obj := ⟨(.type "tuple"), none, (.seq #[(.str (.ofString "self") 1030), (.str (.ofString "found") 1031)] 0), #[]⟩
def o653v2 (P : Params) : Obj := ⟨(.type "tuple"), none, (.seq #[] 0), #[]⟩
def o654v2 (P : Params) : Obj := ⟨.none, none, (.func { name := (.ofString "__init__"), qualname := (.ofString "Held.__init__"), params := defArgs (inClass (tp 34) 0), body := .stmts (defBody (inClass (tp 34) 0)), scope := defScope (inClass (tp 34) 0), globals := 0, closure := [], defaults := .none, kwdefaults := .none }), #[]⟩
def o655v2 (P : Params) : Obj := ⟨(.type "code"), none, (.fields #[(.str (.ofString "__init__") 1027), (.str (.ofString "Held.__init__") 1028), (.str (.ofString "/claim/cut.py") 1029), (.int 168 0), (.int 2 0), (.int 0 0), (.int 0 0), (.int 3 0), (.ref 650), (.bool true), (.int 181 0), (.ref 651), .none, (.ref 652), (.ref 653), (.ref 654), (.int 1032 0), (.int 168 0), (.str (.ofString "/claim/cut.py") 1033)]), #[]⟩
def o656v2 (P : Params) : Obj := ⟨(.type "function"), none, (.func { name := (.ofString "__init__"), qualname := (.ofString "Held.__init__"), params := defArgs (inClass (tp 34) 0), body := .stmts (defBody (inClass (tp 34) 0)), scope := defScope (inClass (tp 34) 0), globals := 3, closure := [], defaults := .none, kwdefaults := .none, pyModule := (.str (.ofString "onestaff.errors") 187), code := (.ref 655) }), #[]⟩
def o657v2 (P : Params) : Obj := ⟨(.type "tuple"), none, (.seq #[(.str (.ofString "found") 1035)] 0), #[]⟩
def o658v2 (P : Params) : Obj := ⟨(.type "dict"), none, (.dict #[⟨PyData.keyHash P (.ofString "__module__"), (.str (.ofString "__module__") 1022), (.str (.ofString "onestaff.errors") 187)⟩, ⟨PyData.keyHash P (.ofString "__firstlineno__"), (.str (.ofString "__firstlineno__") 1026), (.int 166 1025)⟩, ⟨PyData.keyHash P (.ofString "__init__"), (.str (.ofString "__init__") 1034), (.ref 656)⟩, ⟨PyData.keyHash P (.ofString "__static_attributes__"), (.str (.ofString "__static_attributes__") 1036), (.ref 657)⟩, ⟨PyData.keyHash P (.ofString "__doc__"), (.str (.ofString "__doc__") 1037), .none⟩] 2), #[]⟩
def o659v2 (P : Params) : Obj := ⟨(.type "type"), none, (.cls { name := (.ofString "Held"), bases := [(.ref 31)], mro := [(.ref 659), (.ref 31), (.type "ValueError"), (.type "Exception"), (.type "BaseException"), (.type "object")], ns := 658, qualname := (.ofString "Held") }), #[(some (.ref 643)), none, (some (.str (.ofString "Held") 1015)), (some (.str (.ofString "Held") 1023)), (some (.builtin "ValueError.__new__")), (some (.bool true))]⟩
def o660v2 (P : Params) : Obj := ⟨(.type "super"), none, (.fields #[(.ref 659), (.ref 659), (.ref 659)]), #[]⟩
def o661v2 (P : Params) : Obj := ⟨(.type "builtin_function_or_method"), none, (.fields #[(.builtin "object.__init_subclass__"), (.ref 659)]), #[]⟩
def o3v3 (P : Params) : Obj := ⟨(.type "dict"), none, (.dict #[⟨PyData.keyHash P (.ofString "__name__"), (.str (.ofString "__name__") 165), (.str (.ofString "law_onestaff_k09_refusals_apart") 1386)⟩, ⟨PyData.keyHash P (.ofString "__doc__"), (.str (.ofString "__doc__") 166), .none⟩, ⟨PyData.keyHash P (.ofString "__package__"), (.str (.ofString "__package__") 167), .none⟩, ⟨PyData.keyHash P (.ofString "__loader__"), (.str (.ofString "__loader__") 168), (.builtin "__main__.__loader__#opaque")⟩, ⟨PyData.keyHash P (.ofString "__spec__"), (.str (.ofString "__spec__") 169), .none⟩, ⟨PyData.keyHash P (.ofString "__annotations__"), (.str (.ofString "__annotations__") 170), (.ref 6)⟩, ⟨PyData.keyHash P (.ofString "__builtins__"), (.str (.ofString "__builtins__") 171), (.ref 4)⟩, ⟨PyData.keyHash P (.ofString "__file__"), (.str (.ofString "__file__") 173), (.str (.ofString "/claim/cut.py") 172)⟩, ⟨PyData.keyHash P (.ofString "__cached__"), (.str (.ofString "__cached__") 174), .none⟩, ⟨PyData.keyHash P (.ofString "StaffError"), (.str (.ofString "StaffError") 214), (.ref 31)⟩, ⟨PyData.keyHash P (.ofString "NoName"), (.str (.ofString "NoName") 239), (.ref 51)⟩, ⟨PyData.keyHash P (.ofString "NoPlace"), (.str (.ofString "NoPlace") 264), (.ref 70)⟩, ⟨PyData.keyHash P (.ofString "NoTrain"), (.str (.ofString "NoTrain") 289), (.ref 89)⟩, ⟨PyData.keyHash P (.ofString "NoTrains"), (.str (.ofString "NoTrains") 314), (.ref 108)⟩, ⟨PyData.keyHash P (.ofString "NoEnds"), (.str (.ofString "NoEnds") 339), (.ref 127)⟩, ⟨PyData.keyHash P (.ofString "NoStretch"), (.str (.ofString "NoStretch") 364), (.ref 146)⟩, ⟨PyData.keyHash P (.ofString "NoLong"), (.str (.ofString "NoLong") 389), (.ref 165)⟩, ⟨PyData.keyHash P (.ofString "NoPlaces"), (.str (.ofString "NoPlaces") 414), (.ref 184)⟩, ⟨PyData.keyHash P (.ofString "NoStretches"), (.str (.ofString "NoStretches") 439), (.ref 203)⟩, ⟨PyData.keyHash P (.ofString "NoLongs"), (.str (.ofString "NoLongs") 464), (.ref 222)⟩, ⟨PyData.keyHash P (.ofString "NoNumber"), (.str (.ofString "NoNumber") 489), (.ref 241)⟩, ⟨PyData.keyHash P (.ofString "NoThing"), (.str (.ofString "NoThing") 514), (.ref 260)⟩, ⟨PyData.keyHash P (.ofString "NoKind"), (.str (.ofString "NoKind") 539), (.ref 279)⟩, ⟨PyData.keyHash P (.ofString "NoWord"), (.str (.ofString "NoWord") 564), (.ref 298)⟩, ⟨PyData.keyHash P (.ofString "NoDeed"), (.str (.ofString "NoDeed") 589), (.ref 317)⟩, ⟨PyData.keyHash P (.ofString "NoWay"), (.str (.ofString "NoWay") 614), (.ref 336)⟩, ⟨PyData.keyHash P (.ofString "NoUse"), (.str (.ofString "NoUse") 639), (.ref 355)⟩, ⟨PyData.keyHash P (.ofString "NoBooks"), (.str (.ofString "NoBooks") 664), (.ref 374)⟩, ⟨PyData.keyHash P (.ofString "NoRows"), (.str (.ofString "NoRows") 689), (.ref 393)⟩, ⟨PyData.keyHash P (.ofString "NoMove"), (.str (.ofString "NoMove") 714), (.ref 412)⟩, ⟨PyData.keyHash P (.ofString "NoRuns"), (.str (.ofString "NoRuns") 739), (.ref 431)⟩, ⟨PyData.keyHash P (.ofString "NoRun"), (.str (.ofString "NoRun") 764), (.ref 450)⟩, ⟨PyData.keyHash P (.ofString "NoLine"), (.str (.ofString "NoLine") 789), (.ref 469)⟩, ⟨PyData.keyHash P (.ofString "NoState"), (.str (.ofString "NoState") 814), (.ref 488)⟩, ⟨PyData.keyHash P (.ofString "Twice"), (.str (.ofString "Twice") 839), (.ref 507)⟩, ⟨PyData.keyHash P (.ofString "NotHere"), (.str (.ofString "NotHere") 864), (.ref 526)⟩, ⟨PyData.keyHash P (.ofString "NotIn"), (.str (.ofString "NotIn") 889), (.ref 545)⟩, ⟨PyData.keyHash P (.ofString "NotHeld"), (.str (.ofString "NotHeld") 914), (.ref 564)⟩, ⟨PyData.keyHash P (.ofString "NotHelped"), (.str (.ofString "NotHelped") 939), (.ref 583)⟩, ⟨PyData.keyHash P (.ofString "Full"), (.str (.ofString "Full") 964), (.ref 602)⟩, ⟨PyData.keyHash P (.ofString "Lacks"), (.str (.ofString "Lacks") 989), (.ref 621)⟩, ⟨PyData.keyHash P (.ofString "Shut"), (.str (.ofString "Shut") 1014), (.ref 640)⟩, ⟨PyData.keyHash P (.ofString "Held"), (.str (.ofString "Held") 1039), (.ref 659)⟩, ⟨PyData.keyHash P (.ofString "NotClear"), (.str (.ofString "NotClear") 1064), (.ref 678)⟩, ⟨PyData.keyHash P (.ofString "NoTickets"), (.str (.ofString "NoTickets") 1089), (.ref 697)⟩, ⟨PyData.keyHash P (.ofString "NoRight"), (.str (.ofString "NoRight") 1114), (.ref 716)⟩, ⟨PyData.keyHash P (.ofString "NotShut"), (.str (.ofString "NotShut") 1139), (.ref 735)⟩, ⟨PyData.keyHash P (.ofString "Taken"), (.str (.ofString "Taken") 1164), (.ref 754)⟩, ⟨PyData.keyHash P (.ofString "Boxed"), (.str (.ofString "Boxed") 1189), (.ref 773)⟩, ⟨PyData.keyHash P (.ofString "Silent"), (.str (.ofString "Silent") 1214), (.ref 792)⟩, ⟨PyData.keyHash P (.ofString "TooMany"), (.str (.ofString "TooMany") 1239), (.ref 811)⟩, ⟨PyData.keyHash P (.ofString "NoText"), (.str (.ofString "NoText") 1264), (.ref 830)⟩, ⟨PyData.keyHash P (.ofString "Gap"), (.str (.ofString "Gap") 1289), (.ref 849)⟩, ⟨PyData.keyHash P (.ofString "NotSo"), (.str (.ofString "NotSo") 1314), (.ref 868)⟩, ⟨PyData.keyHash P (.ofString "NoTrip"), (.str (.ofString "NoTrip") 1339), (.ref 887)⟩, ⟨PyData.keyHash P (.ofString "NoStart"), (.str (.ofString "NoStart") 1362), (.ref 906)⟩, ⟨PyData.keyHash P (.ofString "NoBack"), (.str (.ofString "NoBack") 1385), (.ref 925)⟩, ⟨PyData.keyHash P (.ofString "_law_cell"), (.str (.ofString "_law_cell") 1395), (.ref 934)⟩, ⟨PyData.keyHash P (.ofString "_law_box"), (.str (.ofString "_law_box") 1402), (.ref 941)⟩, ⟨PyData.keyHash P (.ofString "_law_take"), (.str (.ofString "_law_take") 1412), (.ref 948)⟩, ⟨PyData.keyHash P (.ofString "_law_thing"), (.str (.ofString "_law_thing") 1421), (.ref 955)⟩, ⟨PyData.keyHash P (.ofString "_law_kinds"), (.str (.ofString "_law_kinds") 1429), (.ref 962)⟩, ⟨PyData.keyHash P (.ofString "_law_made"), (.str (.ofString "_law_made") 1438), (.ref 969)⟩, ⟨PyData.keyHash P (.ofString "_law_fields"), (.str (.ofString "_law_fields") 1444), (.ref 974)⟩, ⟨PyData.keyHash P (.ofString "_law_right"), (.str (.ofString "_law_right") 1450), (.ref 979)⟩, ⟨PyData.keyHash P (.ofString "law"), (.str (.ofString "law") 1460), (.ref 986)⟩] 66), #[]⟩
def o12v3 (P : Params) : Obj := ⟨.none, none, (.fields #[(.int 2 0), (.int 0 0), (.ref 20), (.int 6 0), (.int 0 0), (.ref 40), (.int 11 0), (.int 0 0), (.ref 59), (.int 16 0), (.int 0 0), (.ref 78), (.int 21 0), (.int 0 0), (.ref 97), (.int 26 0), (.int 0 0), (.ref 116), (.int 31 0), (.int 0 0), (.ref 135), (.int 36 0), (.int 0 0), (.ref 154), (.int 41 0), (.int 0 0), (.ref 173), (.int 46 0), (.int 0 0), (.ref 192), (.int 51 0), (.int 0 0), (.ref 211), (.int 56 0), (.int 0 0), (.ref 230), (.int 61 0), (.int 0 0), (.ref 249), (.int 66 0), (.int 0 0), (.ref 268), (.int 71 0), (.int 0 0), (.ref 287), (.int 76 0), (.int 0 0), (.ref 306), (.int 81 0), (.int 0 0), (.ref 325), (.int 86 0), (.int 0 0), (.ref 344), (.int 91 0), (.int 0 0), (.ref 363), (.int 96 0), (.int 0 0), (.ref 382), (.int 101 0), (.int 0 0), (.ref 401), (.int 106 0), (.int 0 0), (.ref 420), (.int 111 0), (.int 0 0), (.ref 439), (.int 116 0), (.int 0 0), (.ref 458), (.int 121 0), (.int 0 0), (.ref 477), (.int 126 0), (.int 0 0), (.ref 496), (.int 131 0), (.int 0 0), (.ref 515), (.int 136 0), (.int 0 0), (.ref 534), (.int 141 0), (.int 0 0), (.ref 553), (.int 146 0), (.int 0 0), (.ref 572), (.int 151 0), (.int 0 0), (.ref 591), (.int 156 0), (.int 0 0), (.ref 610), (.int 161 0), (.int 0 0), (.ref 629), (.int 166 0), (.int 0 0), (.ref 648), (.int 171 0), (.int 0 0), (.ref 667), (.int 176 0), (.int 0 0), (.ref 686), (.int 181 0), (.int 0 0), (.ref 705), (.int 186 0), (.int 0 0), (.ref 724), (.int 191 0), (.int 0 0), (.ref 743), (.int 196 0), (.int 0 0), (.ref 762), (.int 201 0), (.int 0 0), (.ref 781), (.int 206 0), (.int 0 0), (.ref 800), (.int 211 0), (.int 0 0), (.ref 819), (.int 216 0), (.int 0 0), (.ref 838), (.int 221 0), (.int 0 0), (.ref 857), (.int 226 0), (.int 0 0), (.ref 876), (.int 231 0), (.int 0 0), (.ref 895), (.int 235 0), (.int 0 0), (.ref 914), (.int 240 0), (.int 0 0), (.ref 933), (.int 244 0), (.int 0 0), (.ref 940), (.int 246 0), (.int 0 0), (.ref 947), (.int 255 0), (.int 0 0), (.ref 954), (.int 259 0), (.int 0 0), (.ref 961), (.int 277 0), (.int 0 0), (.ref 968), (.int 287 0), (.int 0 0), (.ref 973), (.int 290 0), (.int 0 0), (.ref 978), (.int 308 0), (.int 0 0), (.ref 985)]), #[]⟩
def o31v3 (P : Params) : Obj := ⟨(.type "type"), none, (.cls { name := (.ofString "StaffError"), bases := [(.type "ValueError")], mro := [(.ref 31), (.type "ValueError"), (.type "Exception"), (.type "BaseException"), (.type "object")], ns := 30, qualname := (.ofString "StaffError"), subclasses := [(.ref 51), (.ref 70), (.ref 89), (.ref 108), (.ref 127), (.ref 146), (.ref 165), (.ref 184), (.ref 203), (.ref 222), (.ref 241), (.ref 260), (.ref 279), (.ref 298), (.ref 317), (.ref 336), (.ref 355), (.ref 374), (.ref 393), (.ref 412), (.ref 431), (.ref 450), (.ref 469), (.ref 488), (.ref 507), (.ref 526), (.ref 545), (.ref 564), (.ref 583), (.ref 602), (.ref 621), (.ref 640), (.ref 659), (.ref 678), (.ref 697), (.ref 716), (.ref 735), (.ref 754), (.ref 773), (.ref 792), (.ref 811), (.ref 830), (.ref 849), (.ref 868), (.ref 887), (.ref 906), (.ref 925)] }), #[(some (.ref 15)), none, (some (.str (.ofString "StaffError") 189)), (some (.str (.ofString "StaffError") 197)), (some (.builtin "ValueError.__new__")), (some (.bool true))]⟩
def o662v3 (P : Params) : Obj := ⟨(.type "tuple"), none, (.seq #[(.ref 31)] 0), #[]⟩
def o663v3 (P : Params) : Obj := ⟨(.type "builtin_function_or_method"), none, (.fields #[(.builtin "type.__prepare__"), (.type "type")]), #[]⟩
def o664v3 (P : Params) : Obj := ⟨(.type "dict"), none, (.dict #[⟨PyData.keyHash P (.ofString "__module__"), (.str (.ofString "__module__") 1047), (.str (.ofString "onestaff.errors") 187)⟩, ⟨PyData.keyHash P (.ofString "__qualname__"), (.str (.ofString "__qualname__") 1049), (.str (.ofString "NotClear") 1048)⟩, ⟨PyData.keyHash P (.ofString "__firstlineno__"), (.str (.ofString "__firstlineno__") 1051), (.int 171 1050)⟩, ⟨PyData.keyHash P (.ofString "__init__"), (.str (.ofString "__init__") 1059), (.ref 675)⟩, ⟨PyData.keyHash P (.ofString "__static_attributes__"), (.str (.ofString "__static_attributes__") 1061), (.ref 676)⟩] 5), #[]⟩
def o665v3 (P : Params) : Obj := ⟨(.type "tuple"), none, (.seq #[] 0), #[]⟩
def o666v3 (P : Params) : Obj := ⟨.none, none, (.fields #[(.int 173 0), (.int 4 0), (.ref 674)]), #[]⟩
def o667v3 (P : Params) : Obj := ⟨(.type "code"), none, (.fields #[(.str (.ofString "NotClear") 1042), (.str (.ofString "NotClear") 1043), (.str (.ofString "/claim/cut.py") 1044), (.int 171 0), (.int 0 0), (.int 0 0), (.int 0 0), (.int 0 0), (.ref 665), (.bool false), (.int 181 0), (.ref 666), .none, .none, .none, .none, (.int 1045 0), (.int 171 0), (.str (.ofString "/claim/cut.py") 1046)]), #[]⟩
def o668v3 (P : Params) : Obj := ⟨(.type "frame"), none, .plain, #[(some (.ref 667)), (some (.ref 3)), (some (.ref 664)), none, (some (.str (.ofString "onestaff.errors") 187)), none, (some (.ref 0))]⟩
def o669v3 (P : Params) : Obj := ⟨(.type "tuple"), none, (.seq #[] 0), #[]⟩
def o670v3 (P : Params) : Obj := ⟨.none, none, (.fields #[]), #[]⟩
def o671v3 (P : Params) : Obj := ⟨(.type "tuple"), none, (.seq #[(.str (.ofString "self") 1055), (.str (.ofString "found") 1056)] 0), #[]⟩
def o672v3 (P : Params) : Obj := ⟨(.type "tuple"), none, (.seq #[] 0), #[]⟩
def o673v3 (P : Params) : Obj := ⟨.none, none, (.func { name := (.ofString "__init__"), qualname := (.ofString "NotClear.__init__"), params := defArgs (inClass (tp 35) 0), body := .stmts (defBody (inClass (tp 35) 0)), scope := defScope (inClass (tp 35) 0), globals := 0, closure := [], defaults := .none, kwdefaults := .none }), #[]⟩
def o674v3 (P : Params) : Obj := ⟨(.type "code"), none, (.fields #[(.str (.ofString "__init__") 1052), (.str (.ofString "NotClear.__init__") 1053), (.str (.ofString "/claim/cut.py") 1054), (.int 173 0), (.int 2 0), (.int 0 0), (.int 0 0), (.int 3 0), (.ref 669), (.bool true), (.int 181 0), (.ref 670), .none, (.ref 671), (.ref 672), (.ref 673), (.int 1057 0), (.int 173 0), (.str (.ofString "/claim/cut.py") 1058)]), #[]⟩
def o675v3 (P : Params) : Obj := ⟨(.type "function"), none, (.func { name := (.ofString "__init__"), qualname := (.ofString "NotClear.__init__"), params := defArgs (inClass (tp 35) 0), body := .stmts (defBody (inClass (tp 35) 0)), scope := defScope (inClass (tp 35) 0), globals := 3, closure := [], defaults := .none, kwdefaults := .none, pyModule := (.str (.ofString "onestaff.errors") 187), code := (.ref 674) }), #[]⟩
def o676v3 (P : Params) : Obj := ⟨(.type "tuple"), none, (.seq #[(.str (.ofString "found") 1060)] 0), #[]⟩
def o677v3 (P : Params) : Obj := ⟨(.type "dict"), none, (.dict #[⟨PyData.keyHash P (.ofString "__module__"), (.str (.ofString "__module__") 1047), (.str (.ofString "onestaff.errors") 187)⟩, ⟨PyData.keyHash P (.ofString "__firstlineno__"), (.str (.ofString "__firstlineno__") 1051), (.int 171 1050)⟩, ⟨PyData.keyHash P (.ofString "__init__"), (.str (.ofString "__init__") 1059), (.ref 675)⟩, ⟨PyData.keyHash P (.ofString "__static_attributes__"), (.str (.ofString "__static_attributes__") 1061), (.ref 676)⟩, ⟨PyData.keyHash P (.ofString "__doc__"), (.str (.ofString "__doc__") 1062), .none⟩] 2), #[]⟩
def o678v3 (P : Params) : Obj := ⟨(.type "type"), none, (.cls { name := (.ofString "NotClear"), bases := [(.ref 31)], mro := [(.ref 678), (.ref 31), (.type "ValueError"), (.type "Exception"), (.type "BaseException"), (.type "object")], ns := 677, qualname := (.ofString "NotClear") }), #[(some (.ref 662)), none, (some (.str (.ofString "NotClear") 1040)), (some (.str (.ofString "NotClear") 1048)), (some (.builtin "ValueError.__new__")), (some (.bool true))]⟩
def o679v3 (P : Params) : Obj := ⟨(.type "super"), none, (.fields #[(.ref 678), (.ref 678), (.ref 678)]), #[]⟩
def o680v3 (P : Params) : Obj := ⟨(.type "builtin_function_or_method"), none, (.fields #[(.builtin "object.__init_subclass__"), (.ref 678)]), #[]⟩
def o681v3 (P : Params) : Obj := ⟨(.type "tuple"), none, (.seq #[(.ref 31)] 0), #[]⟩
def o682v3 (P : Params) : Obj := ⟨(.type "builtin_function_or_method"), none, (.fields #[(.builtin "type.__prepare__"), (.type "type")]), #[]⟩
def o683v3 (P : Params) : Obj := ⟨(.type "dict"), none, (.dict #[⟨PyData.keyHash P (.ofString "__module__"), (.str (.ofString "__module__") 1072), (.str (.ofString "onestaff.errors") 187)⟩, ⟨PyData.keyHash P (.ofString "__qualname__"), (.str (.ofString "__qualname__") 1074), (.str (.ofString "NoTickets") 1073)⟩, ⟨PyData.keyHash P (.ofString "__firstlineno__"), (.str (.ofString "__firstlineno__") 1076), (.int 176 1075)⟩, ⟨PyData.keyHash P (.ofString "__init__"), (.str (.ofString "__init__") 1084), (.ref 694)⟩, ⟨PyData.keyHash P (.ofString "__static_attributes__"), (.str (.ofString "__static_attributes__") 1086), (.ref 695)⟩] 5), #[]⟩
def o684v3 (P : Params) : Obj := ⟨(.type "tuple"), none, (.seq #[] 0), #[]⟩
def o685v3 (P : Params) : Obj := ⟨.none, none, (.fields #[(.int 178 0), (.int 4 0), (.ref 693)]), #[]⟩
def o686v3 (P : Params) : Obj := ⟨(.type "code"), none, (.fields #[(.str (.ofString "NoTickets") 1067), (.str (.ofString "NoTickets") 1068), (.str (.ofString "/claim/cut.py") 1069), (.int 176 0), (.int 0 0), (.int 0 0), (.int 0 0), (.int 0 0), (.ref 684), (.bool false), (.int 181 0), (.ref 685), .none, .none, .none, .none, (.int 1070 0), (.int 176 0), (.str (.ofString "/claim/cut.py") 1071)]), #[]⟩
def o687v3 (P : Params) : Obj := ⟨(.type "frame"), none, .plain, #[(some (.ref 686)), (some (.ref 3)), (some (.ref 683)), none, (some (.str (.ofString "onestaff.errors") 187)), none, (some (.ref 0))]⟩
def o688v3 (P : Params) : Obj := ⟨(.type "tuple"), none, (.seq #[] 0), #[]⟩
def o689v3 (P : Params) : Obj := ⟨.none, none, (.fields #[]), #[]⟩
def o690v3 (P : Params) : Obj := ⟨(.type "tuple"), none, (.seq #[(.str (.ofString "self") 1080), (.str (.ofString "found") 1081)] 0), #[]⟩
def o691v3 (P : Params) : Obj := ⟨(.type "tuple"), none, (.seq #[] 0), #[]⟩
def o692v3 (P : Params) : Obj := ⟨.none, none, (.func { name := (.ofString "__init__"), qualname := (.ofString "NoTickets.__init__"), params := defArgs (inClass (tp 36) 0), body := .stmts (defBody (inClass (tp 36) 0)), scope := defScope (inClass (tp 36) 0), globals := 0, closure := [], defaults := .none, kwdefaults := .none }), #[]⟩
def o693v3 (P : Params) : Obj := ⟨(.type "code"), none, (.fields #[(.str (.ofString "__init__") 1077), (.str (.ofString "NoTickets.__init__") 1078), (.str (.ofString "/claim/cut.py") 1079), (.int 178 0), (.int 2 0), (.int 0 0), (.int 0 0), (.int 3 0), (.ref 688), (.bool true), (.int 181 0), (.ref 689), .none, (.ref 690), (.ref 691), (.ref 692), (.int 1082 0), (.int 178 0), (.str (.ofString "/claim/cut.py") 1083)]), #[]⟩
def o694v3 (P : Params) : Obj := ⟨(.type "function"), none, (.func { name := (.ofString "__init__"), qualname := (.ofString "NoTickets.__init__"), params := defArgs (inClass (tp 36) 0), body := .stmts (defBody (inClass (tp 36) 0)), scope := defScope (inClass (tp 36) 0), globals := 3, closure := [], defaults := .none, kwdefaults := .none, pyModule := (.str (.ofString "onestaff.errors") 187), code := (.ref 693) }), #[]⟩
def o695v3 (P : Params) : Obj := ⟨(.type "tuple"), none, (.seq #[(.str (.ofString "found") 1085)] 0), #[]⟩
def o696v3 (P : Params) : Obj := ⟨(.type "dict"), none, (.dict #[⟨PyData.keyHash P (.ofString "__module__"), (.str (.ofString "__module__") 1072), (.str (.ofString "onestaff.errors") 187)⟩, ⟨PyData.keyHash P (.ofString "__firstlineno__"), (.str (.ofString "__firstlineno__") 1076), (.int 176 1075)⟩, ⟨PyData.keyHash P (.ofString "__init__"), (.str (.ofString "__init__") 1084), (.ref 694)⟩, ⟨PyData.keyHash P (.ofString "__static_attributes__"), (.str (.ofString "__static_attributes__") 1086), (.ref 695)⟩, ⟨PyData.keyHash P (.ofString "__doc__"), (.str (.ofString "__doc__") 1087), .none⟩] 2), #[]⟩
def o697v3 (P : Params) : Obj := ⟨(.type "type"), none, (.cls { name := (.ofString "NoTickets"), bases := [(.ref 31)], mro := [(.ref 697), (.ref 31), (.type "ValueError"), (.type "Exception"), (.type "BaseException"), (.type "object")], ns := 696, qualname := (.ofString "NoTickets") }), #[(some (.ref 681)), none, (some (.str (.ofString "NoTickets") 1065)), (some (.str (.ofString "NoTickets") 1073)), (some (.builtin "ValueError.__new__")), (some (.bool true))]⟩
def o698v3 (P : Params) : Obj := ⟨(.type "super"), none, (.fields #[(.ref 697), (.ref 697), (.ref 697)]), #[]⟩
def o699v3 (P : Params) : Obj := ⟨(.type "builtin_function_or_method"), none, (.fields #[(.builtin "object.__init_subclass__"), (.ref 697)]), #[]⟩
def o700v3 (P : Params) : Obj := ⟨(.type "tuple"), none, (.seq #[(.ref 31)] 0), #[]⟩
def o701v3 (P : Params) : Obj := ⟨(.type "builtin_function_or_method"), none, (.fields #[(.builtin "type.__prepare__"), (.type "type")]), #[]⟩
def o702v3 (P : Params) : Obj := ⟨(.type "dict"), none, (.dict #[⟨PyData.keyHash P (.ofString "__module__"), (.str (.ofString "__module__") 1097), (.str (.ofString "onestaff.errors") 187)⟩, ⟨PyData.keyHash P (.ofString "__qualname__"), (.str (.ofString "__qualname__") 1099), (.str (.ofString "NoRight") 1098)⟩, ⟨PyData.keyHash P (.ofString "__firstlineno__"), (.str (.ofString "__firstlineno__") 1101), (.int 181 1100)⟩, ⟨PyData.keyHash P (.ofString "__init__"), (.str (.ofString "__init__") 1109), (.ref 713)⟩, ⟨PyData.keyHash P (.ofString "__static_attributes__"), (.str (.ofString "__static_attributes__") 1111), (.ref 714)⟩] 5), #[]⟩
def o703v3 (P : Params) : Obj := ⟨(.type "tuple"), none, (.seq #[] 0), #[]⟩
def o704v3 (P : Params) : Obj := ⟨.none, none, (.fields #[(.int 183 0), (.int 4 0), (.ref 712)]), #[]⟩
def o705v3 (P : Params) : Obj := ⟨(.type "code"), none, (.fields #[(.str (.ofString "NoRight") 1092), (.str (.ofString "NoRight") 1093), (.str (.ofString "/claim/cut.py") 1094), (.int 181 0), (.int 0 0), (.int 0 0), (.int 0 0), (.int 0 0), (.ref 703), (.bool false), (.int 181 0), (.ref 704), .none, .none, .none, .none, (.int 1095 0), (.int 181 0), (.str (.ofString "/claim/cut.py") 1096)]), #[]⟩
def o706v3 (P : Params) : Obj := ⟨(.type "frame"), none, .plain, #[(some (.ref 705)), (some (.ref 3)), (some (.ref 702)), none, (some (.str (.ofString "onestaff.errors") 187)), none, (some (.ref 0))]⟩
def o707v3 (P : Params) : Obj := ⟨(.type "tuple"), none, (.seq #[] 0), #[]⟩
def o708v3 (P : Params) : Obj := ⟨.none, none, (.fields #[]), #[]⟩
def o709v3 (P : Params) : Obj := ⟨(.type "tuple"), none, (.seq #[(.str (.ofString "self") 1105), (.str (.ofString "found") 1106)] 0), #[]⟩
def o710v3 (P : Params) : Obj := ⟨(.type "tuple"), none, (.seq #[] 0), #[]⟩
def o711v3 (P : Params) : Obj := ⟨.none, none, (.func { name := (.ofString "__init__"), qualname := (.ofString "NoRight.__init__"), params := defArgs (inClass (tp 37) 0), body := .stmts (defBody (inClass (tp 37) 0)), scope := defScope (inClass (tp 37) 0), globals := 0, closure := [], defaults := .none, kwdefaults := .none }), #[]⟩
def o712v3 (P : Params) : Obj := ⟨(.type "code"), none, (.fields #[(.str (.ofString "__init__") 1102), (.str (.ofString "NoRight.__init__") 1103), (.str (.ofString "/claim/cut.py") 1104), (.int 183 0), (.int 2 0), (.int 0 0), (.int 0 0), (.int 3 0), (.ref 707), (.bool true), (.int 181 0), (.ref 708), .none, (.ref 709), (.ref 710), (.ref 711), (.int 1107 0), (.int 183 0), (.str (.ofString "/claim/cut.py") 1108)]), #[]⟩
def o713v3 (P : Params) : Obj := ⟨(.type "function"), none, (.func { name := (.ofString "__init__"), qualname := (.ofString "NoRight.__init__"), params := defArgs (inClass (tp 37) 0), body := .stmts (defBody (inClass (tp 37) 0)), scope := defScope (inClass (tp 37) 0), globals := 3, closure := [], defaults := .none, kwdefaults := .none, pyModule := (.str (.ofString "onestaff.errors") 187), code := (.ref 712) }), #[]⟩
def o714v3 (P : Params) : Obj := ⟨(.type "tuple"), none, (.seq #[(.str (.ofString "found") 1110)] 0), #[]⟩
def o715v3 (P : Params) : Obj := ⟨(.type "dict"), none, (.dict #[⟨PyData.keyHash P (.ofString "__module__"), (.str (.ofString "__module__") 1097), (.str (.ofString "onestaff.errors") 187)⟩, ⟨PyData.keyHash P (.ofString "__firstlineno__"), (.str (.ofString "__firstlineno__") 1101), (.int 181 1100)⟩, ⟨PyData.keyHash P (.ofString "__init__"), (.str (.ofString "__init__") 1109), (.ref 713)⟩, ⟨PyData.keyHash P (.ofString "__static_attributes__"), (.str (.ofString "__static_attributes__") 1111), (.ref 714)⟩, ⟨PyData.keyHash P (.ofString "__doc__"), (.str (.ofString "__doc__") 1112), .none⟩] 2), #[]⟩
def o716v3 (P : Params) : Obj := ⟨(.type "type"), none, (.cls { name := (.ofString "NoRight"), bases := [(.ref 31)], mro := [(.ref 716), (.ref 31), (.type "ValueError"), (.type "Exception"), (.type "BaseException"), (.type "object")], ns := 715, qualname := (.ofString "NoRight") }), #[(some (.ref 700)), none, (some (.str (.ofString "NoRight") 1090)), (some (.str (.ofString "NoRight") 1098)), (some (.builtin "ValueError.__new__")), (some (.bool true))]⟩
def o717v3 (P : Params) : Obj := ⟨(.type "super"), none, (.fields #[(.ref 716), (.ref 716), (.ref 716)]), #[]⟩
def o718v3 (P : Params) : Obj := ⟨(.type "builtin_function_or_method"), none, (.fields #[(.builtin "object.__init_subclass__"), (.ref 716)]), #[]⟩
def o719v3 (P : Params) : Obj := ⟨(.type "tuple"), none, (.seq #[(.ref 31)] 0), #[]⟩
def o720v3 (P : Params) : Obj := ⟨(.type "builtin_function_or_method"), none, (.fields #[(.builtin "type.__prepare__"), (.type "type")]), #[]⟩
def o721v3 (P : Params) : Obj := ⟨(.type "dict"), none, (.dict #[⟨PyData.keyHash P (.ofString "__module__"), (.str (.ofString "__module__") 1122), (.str (.ofString "onestaff.errors") 187)⟩, ⟨PyData.keyHash P (.ofString "__qualname__"), (.str (.ofString "__qualname__") 1124), (.str (.ofString "NotShut") 1123)⟩, ⟨PyData.keyHash P (.ofString "__firstlineno__"), (.str (.ofString "__firstlineno__") 1126), (.int 186 1125)⟩, ⟨PyData.keyHash P (.ofString "__init__"), (.str (.ofString "__init__") 1134), (.ref 732)⟩, ⟨PyData.keyHash P (.ofString "__static_attributes__"), (.str (.ofString "__static_attributes__") 1136), (.ref 733)⟩] 5), #[]⟩
def o722v3 (P : Params) : Obj := ⟨(.type "tuple"), none, (.seq #[] 0), #[]⟩
def o723v3 (P : Params) : Obj := ⟨.none, none, (.fields #[(.int 188 0), (.int 4 0), (.ref 731)]), #[]⟩
def o724v3 (P : Params) : Obj := ⟨(.type "code"), none, (.fields #[(.str (.ofString "NotShut") 1117), (.str (.ofString "NotShut") 1118), (.str (.ofString "/claim/cut.py") 1119), (.int 186 0), (.int 0 0), (.int 0 0), (.int 0 0), (.int 0 0), (.ref 722), (.bool false), (.int 181 0), (.ref 723), .none, .none, .none, .none, (.int 1120 0), (.int 186 0), (.str (.ofString "/claim/cut.py") 1121)]), #[]⟩
def o725v3 (P : Params) : Obj := ⟨(.type "frame"), none, .plain, #[(some (.ref 724)), (some (.ref 3)), (some (.ref 721)), none, (some (.str (.ofString "onestaff.errors") 187)), none, (some (.ref 0))]⟩
def o726v3 (P : Params) : Obj := ⟨(.type "tuple"), none, (.seq #[] 0), #[]⟩
def o727v3 (P : Params) : Obj := ⟨.none, none, (.fields #[]), #[]⟩
def o728v3 (P : Params) : Obj := ⟨(.type "tuple"), none, (.seq #[(.str (.ofString "self") 1130), (.str (.ofString "found") 1131)] 0), #[]⟩
def o729v3 (P : Params) : Obj := ⟨(.type "tuple"), none, (.seq #[] 0), #[]⟩
def o730v3 (P : Params) : Obj := ⟨.none, none, (.func { name := (.ofString "__init__"), qualname := (.ofString "NotShut.__init__"), params := defArgs (inClass (tp 38) 0), body := .stmts (defBody (inClass (tp 38) 0)), scope := defScope (inClass (tp 38) 0), globals := 0, closure := [], defaults := .none, kwdefaults := .none }), #[]⟩
def o731v3 (P : Params) : Obj := ⟨(.type "code"), none, (.fields #[(.str (.ofString "__init__") 1127), (.str (.ofString "NotShut.__init__") 1128), (.str (.ofString "/claim/cut.py") 1129), (.int 188 0), (.int 2 0), (.int 0 0), (.int 0 0), (.int 3 0), (.ref 726), (.bool true), (.int 181 0), (.ref 727), .none, (.ref 728), (.ref 729), (.ref 730), (.int 1132 0), (.int 188 0), (.str (.ofString "/claim/cut.py") 1133)]), #[]⟩
def o732v3 (P : Params) : Obj := ⟨(.type "function"), none, (.func { name := (.ofString "__init__"), qualname := (.ofString "NotShut.__init__"), params := defArgs (inClass (tp 38) 0), body := .stmts (defBody (inClass (tp 38) 0)), scope := defScope (inClass (tp 38) 0), globals := 3, closure := [], defaults := .none, kwdefaults := .none, pyModule := (.str (.ofString "onestaff.errors") 187), code := (.ref 731) }), #[]⟩
def o733v3 (P : Params) : Obj := ⟨(.type "tuple"), none, (.seq #[(.str (.ofString "found") 1135)] 0), #[]⟩
def o734v3 (P : Params) : Obj := ⟨(.type "dict"), none, (.dict #[⟨PyData.keyHash P (.ofString "__module__"), (.str (.ofString "__module__") 1122), (.str (.ofString "onestaff.errors") 187)⟩, ⟨PyData.keyHash P (.ofString "__firstlineno__"), (.str (.ofString "__firstlineno__") 1126), (.int 186 1125)⟩, ⟨PyData.keyHash P (.ofString "__init__"), (.str (.ofString "__init__") 1134), (.ref 732)⟩, ⟨PyData.keyHash P (.ofString "__static_attributes__"), (.str (.ofString "__static_attributes__") 1136), (.ref 733)⟩, ⟨PyData.keyHash P (.ofString "__doc__"), (.str (.ofString "__doc__") 1137), .none⟩] 2), #[]⟩
def o735v3 (P : Params) : Obj := ⟨(.type "type"), none, (.cls { name := (.ofString "NotShut"), bases := [(.ref 31)], mro := [(.ref 735), (.ref 31), (.type "ValueError"), (.type "Exception"), (.type "BaseException"), (.type "object")], ns := 734, qualname := (.ofString "NotShut") }), #[(some (.ref 719)), none, (some (.str (.ofString "NotShut") 1115)), (some (.str (.ofString "NotShut") 1123)), (some (.builtin "ValueError.__new__")), (some (.bool true))]⟩
def o736v3 (P : Params) : Obj := ⟨(.type "super"), none, (.fields #[(.ref 735), (.ref 735), (.ref 735)]), #[]⟩
def o737v3 (P : Params) : Obj := ⟨(.type "builtin_function_or_method"), none, (.fields #[(.builtin "object.__init_subclass__"), (.ref 735)]), #[]⟩
def o738v3 (P : Params) : Obj := ⟨(.type "tuple"), none, (.seq #[(.ref 31)] 0), #[]⟩
def o739v3 (P : Params) : Obj := ⟨(.type "builtin_function_or_method"), none, (.fields #[(.builtin "type.__prepare__"), (.type "type")]), #[]⟩
def o740v3 (P : Params) : Obj := ⟨(.type "dict"), none, (.dict #[⟨PyData.keyHash P (.ofString "__module__"), (.str (.ofString "__module__") 1147), (.str (.ofString "onestaff.errors") 187)⟩, ⟨PyData.keyHash P (.ofString "__qualname__"), (.str (.ofString "__qualname__") 1149), (.str (.ofString "Taken") 1148)⟩, ⟨PyData.keyHash P (.ofString "__firstlineno__"), (.str (.ofString "__firstlineno__") 1151), (.int 191 1150)⟩, ⟨PyData.keyHash P (.ofString "__init__"), (.str (.ofString "__init__") 1159), (.ref 751)⟩, ⟨PyData.keyHash P (.ofString "__static_attributes__"), (.str (.ofString "__static_attributes__") 1161), (.ref 752)⟩] 5), #[]⟩
def o741v3 (P : Params) : Obj := ⟨(.type "tuple"), none, (.seq #[] 0), #[]⟩
def o742v3 (P : Params) : Obj := ⟨.none, none, (.fields #[(.int 193 0), (.int 4 0), (.ref 750)]), #[]⟩
def o743v3 (P : Params) : Obj := ⟨(.type "code"), none, (.fields #[(.str (.ofString "Taken") 1142), (.str (.ofString "Taken") 1143), (.str (.ofString "/claim/cut.py") 1144), (.int 191 0), (.int 0 0), (.int 0 0), (.int 0 0), (.int 0 0), (.ref 741), (.bool false), (.int 181 0), (.ref 742), .none, .none, .none, .none, (.int 1145 0), (.int 191 0), (.str (.ofString "/claim/cut.py") 1146)]), #[]⟩
def o744v3 (P : Params) : Obj := ⟨(.type "frame"), none, .plain, #[(some (.ref 743)), (some (.ref 3)), (some (.ref 740)), none, (some (.str (.ofString "onestaff.errors") 187)), none, (some (.ref 0))]⟩
def o745v3 (P : Params) : Obj := ⟨(.type "tuple"), none, (.seq #[] 0), #[]⟩
def o746v3 (P : Params) : Obj := ⟨.none, none, (.fields #[]), #[]⟩
def o747v3 (P : Params) : Obj := ⟨(.type "tuple"), none, (.seq #[(.str (.ofString "self") 1155), (.str (.ofString "found") 1156)] 0), #[]⟩
def o748v3 (P : Params) : Obj := ⟨(.type "tuple"), none, (.seq #[] 0), #[]⟩
def o749v3 (P : Params) : Obj := ⟨.none, none, (.func { name := (.ofString "__init__"), qualname := (.ofString "Taken.__init__"), params := defArgs (inClass (tp 39) 0), body := .stmts (defBody (inClass (tp 39) 0)), scope := defScope (inClass (tp 39) 0), globals := 0, closure := [], defaults := .none, kwdefaults := .none }), #[]⟩
def o750v3 (P : Params) : Obj := ⟨(.type "code"), none, (.fields #[(.str (.ofString "__init__") 1152), (.str (.ofString "Taken.__init__") 1153), (.str (.ofString "/claim/cut.py") 1154), (.int 193 0), (.int 2 0), (.int 0 0), (.int 0 0), (.int 3 0), (.ref 745), (.bool true), (.int 181 0), (.ref 746), .none, (.ref 747), (.ref 748), (.ref 749), (.int 1157 0), (.int 193 0), (.str (.ofString "/claim/cut.py") 1158)]), #[]⟩
def o751v3 (P : Params) : Obj := ⟨(.type "function"), none, (.func { name := (.ofString "__init__"), qualname := (.ofString "Taken.__init__"), params := defArgs (inClass (tp 39) 0), body := .stmts (defBody (inClass (tp 39) 0)), scope := defScope (inClass (tp 39) 0), globals := 3, closure := [], defaults := .none, kwdefaults := .none, pyModule := (.str (.ofString "onestaff.errors") 187), code := (.ref 750) }), #[]⟩
def o752v3 (P : Params) : Obj := ⟨(.type "tuple"), none, (.seq #[(.str (.ofString "found") 1160)] 0), #[]⟩
def o753v3 (P : Params) : Obj := ⟨(.type "dict"), none, (.dict #[⟨PyData.keyHash P (.ofString "__module__"), (.str (.ofString "__module__") 1147), (.str (.ofString "onestaff.errors") 187)⟩, ⟨PyData.keyHash P (.ofString "__firstlineno__"), (.str (.ofString "__firstlineno__") 1151), (.int 191 1150)⟩, ⟨PyData.keyHash P (.ofString "__init__"), (.str (.ofString "__init__") 1159), (.ref 751)⟩, ⟨PyData.keyHash P (.ofString "__static_attributes__"), (.str (.ofString "__static_attributes__") 1161), (.ref 752)⟩, ⟨PyData.keyHash P (.ofString "__doc__"), (.str (.ofString "__doc__") 1162), .none⟩] 2), #[]⟩
def o754v3 (P : Params) : Obj := ⟨(.type "type"), none, (.cls { name := (.ofString "Taken"), bases := [(.ref 31)], mro := [(.ref 754), (.ref 31), (.type "ValueError"), (.type "Exception"), (.type "BaseException"), (.type "object")], ns := 753, qualname := (.ofString "Taken") }), #[(some (.ref 738)), none, (some (.str (.ofString "Taken") 1140)), (some (.str (.ofString "Taken") 1148)), (some (.builtin "ValueError.__new__")), (some (.bool true))]⟩
def o755v3 (P : Params) : Obj := ⟨(.type "super"), none, (.fields #[(.ref 754), (.ref 754), (.ref 754)]), #[]⟩
def o756v3 (P : Params) : Obj := ⟨(.type "builtin_function_or_method"), none, (.fields #[(.builtin "object.__init_subclass__"), (.ref 754)]), #[]⟩
def o757v3 (P : Params) : Obj := ⟨(.type "tuple"), none, (.seq #[(.ref 31)] 0), #[]⟩
def o758v3 (P : Params) : Obj := ⟨(.type "builtin_function_or_method"), none, (.fields #[(.builtin "type.__prepare__"), (.type "type")]), #[]⟩
def o759v3 (P : Params) : Obj := ⟨(.type "dict"), none, (.dict #[⟨PyData.keyHash P (.ofString "__module__"), (.str (.ofString "__module__") 1172), (.str (.ofString "onestaff.errors") 187)⟩, ⟨PyData.keyHash P (.ofString "__qualname__"), (.str (.ofString "__qualname__") 1174), (.str (.ofString "Boxed") 1173)⟩, ⟨PyData.keyHash P (.ofString "__firstlineno__"), (.str (.ofString "__firstlineno__") 1176), (.int 196 1175)⟩, ⟨PyData.keyHash P (.ofString "__init__"), (.str (.ofString "__init__") 1184), (.ref 770)⟩, ⟨PyData.keyHash P (.ofString "__static_attributes__"), (.str (.ofString "__static_attributes__") 1186), (.ref 771)⟩] 5), #[]⟩
def o760v3 (P : Params) : Obj := ⟨(.type "tuple"), none, (.seq #[] 0), #[]⟩
def o761v3 (P : Params) : Obj := ⟨.none, none, (.fields #[(.int 198 0), (.int 4 0), (.ref 769)]), #[]⟩
def o762v3 (P : Params) : Obj := ⟨(.type "code"), none, (.fields #[(.str (.ofString "Boxed") 1167), (.str (.ofString "Boxed") 1168), (.str (.ofString "/claim/cut.py") 1169), (.int 196 0), (.int 0 0), (.int 0 0), (.int 0 0), (.int 0 0), (.ref 760), (.bool false), (.int 181 0), (.ref 761), .none, .none, .none, .none, (.int 1170 0), (.int 196 0), (.str (.ofString "/claim/cut.py") 1171)]), #[]⟩
def o763v3 (P : Params) : Obj := ⟨(.type "frame"), none, .plain, #[(some (.ref 762)), (some (.ref 3)), (some (.ref 759)), none, (some (.str (.ofString "onestaff.errors") 187)), none, (some (.ref 0))]⟩
def o764v3 (P : Params) : Obj := ⟨(.type "tuple"), none, (.seq #[] 0), #[]⟩
def o765v3 (P : Params) : Obj := ⟨.none, none, (.fields #[]), #[]⟩
def o766v3 (P : Params) : Obj := ⟨(.type "tuple"), none, (.seq #[(.str (.ofString "self") 1180), (.str (.ofString "found") 1181)] 0), #[]⟩
def o767v3 (P : Params) : Obj := ⟨(.type "tuple"), none, (.seq #[] 0), #[]⟩
def o768v3 (P : Params) : Obj := ⟨.none, none, (.func { name := (.ofString "__init__"), qualname := (.ofString "Boxed.__init__"), params := defArgs (inClass (tp 40) 0), body := .stmts (defBody (inClass (tp 40) 0)), scope := defScope (inClass (tp 40) 0), globals := 0, closure := [], defaults := .none, kwdefaults := .none }), #[]⟩
def o769v3 (P : Params) : Obj := ⟨(.type "code"), none, (.fields #[(.str (.ofString "__init__") 1177), (.str (.ofString "Boxed.__init__") 1178), (.str (.ofString "/claim/cut.py") 1179), (.int 198 0), (.int 2 0), (.int 0 0), (.int 0 0), (.int 3 0), (.ref 764), (.bool true), (.int 181 0), (.ref 765), .none, (.ref 766), (.ref 767), (.ref 768), (.int 1182 0), (.int 198 0), (.str (.ofString "/claim/cut.py") 1183)]), #[]⟩
def o770v3 (P : Params) : Obj := ⟨(.type "function"), none, (.func { name := (.ofString "__init__"), qualname := (.ofString "Boxed.__init__"), params := defArgs (inClass (tp 40) 0), body := .stmts (defBody (inClass (tp 40) 0)), scope := defScope (inClass (tp 40) 0), globals := 3, closure := [], defaults := .none, kwdefaults := .none, pyModule := (.str (.ofString "onestaff.errors") 187), code := (.ref 769) }), #[]⟩
def o771v3 (P : Params) : Obj := ⟨(.type "tuple"), none, (.seq #[(.str (.ofString "found") 1185)] 0), #[]⟩
def o772v3 (P : Params) : Obj := ⟨(.type "dict"), none, (.dict #[⟨PyData.keyHash P (.ofString "__module__"), (.str (.ofString "__module__") 1172), (.str (.ofString "onestaff.errors") 187)⟩, ⟨PyData.keyHash P (.ofString "__firstlineno__"), (.str (.ofString "__firstlineno__") 1176), (.int 196 1175)⟩, ⟨PyData.keyHash P (.ofString "__init__"), (.str (.ofString "__init__") 1184), (.ref 770)⟩, ⟨PyData.keyHash P (.ofString "__static_attributes__"), (.str (.ofString "__static_attributes__") 1186), (.ref 771)⟩, ⟨PyData.keyHash P (.ofString "__doc__"), (.str (.ofString "__doc__") 1187), .none⟩] 2), #[]⟩
def o773v3 (P : Params) : Obj := ⟨(.type "type"), none, (.cls { name := (.ofString "Boxed"), bases := [(.ref 31)], mro := [(.ref 773), (.ref 31), (.type "ValueError"), (.type "Exception"), (.type "BaseException"), (.type "object")], ns := 772, qualname := (.ofString "Boxed") }), #[(some (.ref 757)), none, (some (.str (.ofString "Boxed") 1165)), (some (.str (.ofString "Boxed") 1173)), (some (.builtin "ValueError.__new__")), (some (.bool true))]⟩
def o774v3 (P : Params) : Obj := ⟨(.type "super"), none, (.fields #[(.ref 773), (.ref 773), (.ref 773)]), #[]⟩
def o775v3 (P : Params) : Obj := ⟨(.type "builtin_function_or_method"), none, (.fields #[(.builtin "object.__init_subclass__"), (.ref 773)]), #[]⟩
def o776v3 (P : Params) : Obj := ⟨(.type "tuple"), none, (.seq #[(.ref 31)] 0), #[]⟩
def o777v3 (P : Params) : Obj := ⟨(.type "builtin_function_or_method"), none, (.fields #[(.builtin "type.__prepare__"), (.type "type")]), #[]⟩
def o778v3 (P : Params) : Obj := ⟨(.type "dict"), none, (.dict #[⟨PyData.keyHash P (.ofString "__module__"), (.str (.ofString "__module__") 1197), (.str (.ofString "onestaff.errors") 187)⟩, ⟨PyData.keyHash P (.ofString "__qualname__"), (.str (.ofString "__qualname__") 1199), (.str (.ofString "Silent") 1198)⟩, ⟨PyData.keyHash P (.ofString "__firstlineno__"), (.str (.ofString "__firstlineno__") 1201), (.int 201 1200)⟩, ⟨PyData.keyHash P (.ofString "__init__"), (.str (.ofString "__init__") 1209), (.ref 789)⟩, ⟨PyData.keyHash P (.ofString "__static_attributes__"), (.str (.ofString "__static_attributes__") 1211), (.ref 790)⟩] 5), #[]⟩
def o779v3 (P : Params) : Obj := ⟨(.type "tuple"), none, (.seq #[] 0), #[]⟩
def o780v3 (P : Params) : Obj := ⟨.none, none, (.fields #[(.int 203 0), (.int 4 0), (.ref 788)]), #[]⟩
def o781v3 (P : Params) : Obj := ⟨(.type "code"), none, (.fields #[(.str (.ofString "Silent") 1192), (.str (.ofString "Silent") 1193), (.str (.ofString "/claim/cut.py") 1194), (.int 201 0), (.int 0 0), (.int 0 0), (.int 0 0), (.int 0 0), (.ref 779), (.bool false), (.int 181 0), (.ref 780), .none, .none, .none, .none, (.int 1195 0), (.int 201 0), (.str (.ofString "/claim/cut.py") 1196)]), #[]⟩
def o782v3 (P : Params) : Obj := ⟨(.type "frame"), none, .plain, #[(some (.ref 781)), (some (.ref 3)), (some (.ref 778)), none, (some (.str (.ofString "onestaff.errors") 187)), none, (some (.ref 0))]⟩
def o783v3 (P : Params) : Obj := ⟨(.type "tuple"), none, (.seq #[] 0), #[]⟩
def o784v3 (P : Params) : Obj := ⟨.none, none, (.fields #[]), #[]⟩
def o785v3 (P : Params) : Obj := ⟨(.type "tuple"), none, (.seq #[(.str (.ofString "self") 1205), (.str (.ofString "found") 1206)] 0), #[]⟩
def o786v3 (P : Params) : Obj := ⟨(.type "tuple"), none, (.seq #[] 0), #[]⟩
def o787v3 (P : Params) : Obj := ⟨.none, none, (.func { name := (.ofString "__init__"), qualname := (.ofString "Silent.__init__"), params := defArgs (inClass (tp 41) 0), body := .stmts (defBody (inClass (tp 41) 0)), scope := defScope (inClass (tp 41) 0), globals := 0, closure := [], defaults := .none, kwdefaults := .none }), #[]⟩
def o788v3 (P : Params) : Obj := ⟨(.type "code"), none, (.fields #[(.str (.ofString "__init__") 1202), (.str (.ofString "Silent.__init__") 1203), (.str (.ofString "/claim/cut.py") 1204), (.int 203 0), (.int 2 0), (.int 0 0), (.int 0 0), (.int 3 0), (.ref 783), (.bool true), (.int 181 0), (.ref 784), .none, (.ref 785), (.ref 786), (.ref 787), (.int 1207 0), (.int 203 0), (.str (.ofString "/claim/cut.py") 1208)]), #[]⟩
def o789v3 (P : Params) : Obj := ⟨(.type "function"), none, (.func { name := (.ofString "__init__"), qualname := (.ofString "Silent.__init__"), params := defArgs (inClass (tp 41) 0), body := .stmts (defBody (inClass (tp 41) 0)), scope := defScope (inClass (tp 41) 0), globals := 3, closure := [], defaults := .none, kwdefaults := .none, pyModule := (.str (.ofString "onestaff.errors") 187), code := (.ref 788) }), #[]⟩
def o790v3 (P : Params) : Obj := ⟨(.type "tuple"), none, (.seq #[(.str (.ofString "found") 1210)] 0), #[]⟩
def o791v3 (P : Params) : Obj := ⟨(.type "dict"), none, (.dict #[⟨PyData.keyHash P (.ofString "__module__"), (.str (.ofString "__module__") 1197), (.str (.ofString "onestaff.errors") 187)⟩, ⟨PyData.keyHash P (.ofString "__firstlineno__"), (.str (.ofString "__firstlineno__") 1201), (.int 201 1200)⟩, ⟨PyData.keyHash P (.ofString "__init__"), (.str (.ofString "__init__") 1209), (.ref 789)⟩, ⟨PyData.keyHash P (.ofString "__static_attributes__"), (.str (.ofString "__static_attributes__") 1211), (.ref 790)⟩, ⟨PyData.keyHash P (.ofString "__doc__"), (.str (.ofString "__doc__") 1212), .none⟩] 2), #[]⟩
def o792v3 (P : Params) : Obj := ⟨(.type "type"), none, (.cls { name := (.ofString "Silent"), bases := [(.ref 31)], mro := [(.ref 792), (.ref 31), (.type "ValueError"), (.type "Exception"), (.type "BaseException"), (.type "object")], ns := 791, qualname := (.ofString "Silent") }), #[(some (.ref 776)), none, (some (.str (.ofString "Silent") 1190)), (some (.str (.ofString "Silent") 1198)), (some (.builtin "ValueError.__new__")), (some (.bool true))]⟩
def o793v3 (P : Params) : Obj := ⟨(.type "super"), none, (.fields #[(.ref 792), (.ref 792), (.ref 792)]), #[]⟩
def o794v3 (P : Params) : Obj := ⟨(.type "builtin_function_or_method"), none, (.fields #[(.builtin "object.__init_subclass__"), (.ref 792)]), #[]⟩
def o795v3 (P : Params) : Obj := ⟨(.type "tuple"), none, (.seq #[(.ref 31)] 0), #[]⟩
def o796v3 (P : Params) : Obj := ⟨(.type "builtin_function_or_method"), none, (.fields #[(.builtin "type.__prepare__"), (.type "type")]), #[]⟩
def o797v3 (P : Params) : Obj := ⟨(.type "dict"), none, (.dict #[⟨PyData.keyHash P (.ofString "__module__"), (.str (.ofString "__module__") 1222), (.str (.ofString "onestaff.errors") 187)⟩, ⟨PyData.keyHash P (.ofString "__qualname__"), (.str (.ofString "__qualname__") 1224), (.str (.ofString "TooMany") 1223)⟩, ⟨PyData.keyHash P (.ofString "__firstlineno__"), (.str (.ofString "__firstlineno__") 1226), (.int 206 1225)⟩, ⟨PyData.keyHash P (.ofString "__init__"), (.str (.ofString "__init__") 1234), (.ref 808)⟩, ⟨PyData.keyHash P (.ofString "__static_attributes__"), (.str (.ofString "__static_attributes__") 1236), (.ref 809)⟩] 5), #[]⟩
def o798v3 (P : Params) : Obj := ⟨(.type "tuple"), none, (.seq #[] 0), #[]⟩
def o799v3 (P : Params) : Obj := ⟨.none, none, (.fields #[(.int 208 0), (.int 4 0), (.ref 807)]), #[]⟩
def o800v3 (P : Params) : Obj := ⟨(.type "code"), none, (.fields #[(.str (.ofString "TooMany") 1217), (.str (.ofString "TooMany") 1218), (.str (.ofString "/claim/cut.py") 1219), (.int 206 0), (.int 0 0), (.int 0 0), (.int 0 0), (.int 0 0), (.ref 798), (.bool false), (.int 181 0), (.ref 799), .none, .none, .none, .none, (.int 1220 0), (.int 206 0), (.str (.ofString "/claim/cut.py") 1221)]), #[]⟩
def o801v3 (P : Params) : Obj := ⟨(.type "frame"), none, .plain, #[(some (.ref 800)), (some (.ref 3)), (some (.ref 797)), none, (some (.str (.ofString "onestaff.errors") 187)), none, (some (.ref 0))]⟩
def o802v3 (P : Params) : Obj := ⟨(.type "tuple"), none, (.seq #[] 0), #[]⟩
def o803v3 (P : Params) : Obj := ⟨.none, none, (.fields #[]), #[]⟩
def o804v3 (P : Params) : Obj := ⟨(.type "tuple"), none, (.seq #[(.str (.ofString "self") 1230), (.str (.ofString "many") 1231)] 0), #[]⟩
def o805v3 (P : Params) : Obj := ⟨(.type "tuple"), none, (.seq #[] 0), #[]⟩
def o806v3 (P : Params) : Obj := ⟨.none, none, (.func { name := (.ofString "__init__"), qualname := (.ofString "TooMany.__init__"), params := defArgs (inClass (tp 42) 0), body := .stmts (defBody (inClass (tp 42) 0)), scope := defScope (inClass (tp 42) 0), globals := 0, closure := [], defaults := .none, kwdefaults := .none }), #[]⟩
def o807v3 (P : Params) : Obj := ⟨(.type "code"), none, (.fields #[(.str (.ofString "__init__") 1227), (.str (.ofString "TooMany.__init__") 1228), (.str (.ofString "/claim/cut.py") 1229), (.int 208 0), (.int 2 0), (.int 0 0), (.int 0 0), (.int 3 0), (.ref 802), (.bool true), (.int 181 0), (.ref 803), .none, (.ref 804), (.ref 805), (.ref 806), (.int 1232 0), (.int 208 0), (.str (.ofString "/claim/cut.py") 1233)]), #[]⟩
def o808v3 (P : Params) : Obj := ⟨(.type "function"), none, (.func { name := (.ofString "__init__"), qualname := (.ofString "TooMany.__init__"), params := defArgs (inClass (tp 42) 0), body := .stmts (defBody (inClass (tp 42) 0)), scope := defScope (inClass (tp 42) 0), globals := 3, closure := [], defaults := .none, kwdefaults := .none, pyModule := (.str (.ofString "onestaff.errors") 187), code := (.ref 807) }), #[]⟩
def o809v3 (P : Params) : Obj := ⟨(.type "tuple"), none, (.seq #[(.str (.ofString "many") 1235)] 0), #[]⟩
def o810v3 (P : Params) : Obj := ⟨(.type "dict"), none, (.dict #[⟨PyData.keyHash P (.ofString "__module__"), (.str (.ofString "__module__") 1222), (.str (.ofString "onestaff.errors") 187)⟩, ⟨PyData.keyHash P (.ofString "__firstlineno__"), (.str (.ofString "__firstlineno__") 1226), (.int 206 1225)⟩, ⟨PyData.keyHash P (.ofString "__init__"), (.str (.ofString "__init__") 1234), (.ref 808)⟩, ⟨PyData.keyHash P (.ofString "__static_attributes__"), (.str (.ofString "__static_attributes__") 1236), (.ref 809)⟩, ⟨PyData.keyHash P (.ofString "__doc__"), (.str (.ofString "__doc__") 1237), .none⟩] 2), #[]⟩
def o811v3 (P : Params) : Obj := ⟨(.type "type"), none, (.cls { name := (.ofString "TooMany"), bases := [(.ref 31)], mro := [(.ref 811), (.ref 31), (.type "ValueError"), (.type "Exception"), (.type "BaseException"), (.type "object")], ns := 810, qualname := (.ofString "TooMany") }), #[(some (.ref 795)), none, (some (.str (.ofString "TooMany") 1215)), (some (.str (.ofString "TooMany") 1223)), (some (.builtin "ValueError.__new__")), (some (.bool true))]⟩
def o812v3 (P : Params) : Obj := ⟨(.type "super"), none, (.fields #[(.ref 811), (.ref 811), (.ref 811)]), #[]⟩
def o813v3 (P : Params) : Obj := ⟨(.type "builtin_function_or_method"), none, (.fields #[(.builtin "object.__init_subclass__"), (.ref 811)]), #[]⟩
def o814v3 (P : Params) : Obj := ⟨(.type "tuple"), none, (.seq #[(.ref 31)] 0), #[]⟩
def o815v3 (P : Params) : Obj := ⟨(.type "builtin_function_or_method"), none, (.fields #[(.builtin "type.__prepare__"), (.type "type")]), #[]⟩
def o816v3 (P : Params) : Obj := ⟨(.type "dict"), none, (.dict #[⟨PyData.keyHash P (.ofString "__module__"), (.str (.ofString "__module__") 1247), (.str (.ofString "onestaff.errors") 187)⟩, ⟨PyData.keyHash P (.ofString "__qualname__"), (.str (.ofString "__qualname__") 1249), (.str (.ofString "NoText") 1248)⟩, ⟨PyData.keyHash P (.ofString "__firstlineno__"), (.str (.ofString "__firstlineno__") 1251), (.int 211 1250)⟩, ⟨PyData.keyHash P (.ofString "__init__"), (.str (.ofString "__init__") 1259), (.ref 827)⟩, ⟨PyData.keyHash P (.ofString "__static_attributes__"), (.str (.ofString "__static_attributes__") 1261), (.ref 828)⟩] 5), #[]⟩
def o817v3 (P : Params) : Obj := ⟨(.type "tuple"), none, (.seq #[] 0), #[]⟩
def o818v3 (P : Params) : Obj := ⟨.none, none, (.fields #[(.int 213 0), (.int 4 0), (.ref 826)]), #[]⟩
def o819v3 (P : Params) : Obj := ⟨(.type "code"), none, (.fields #[(.str (.ofString "NoText") 1242), (.str (.ofString "NoText") 1243), (.str (.ofString "/claim/cut.py") 1244), (.int 211 0), (.int 0 0), (.int 0 0), (.int 0 0), (.int 0 0), (.ref 817), (.bool false), (.int 181 0), (.ref 818), .none, .none, .none, .none, (.int 1245 0), (.int 211 0), (.str (.ofString "/claim/cut.py") 1246)]), #[]⟩
def o820v3 (P : Params) : Obj := ⟨(.type "frame"), none, .plain, #[(some (.ref 819)), (some (.ref 3)), (some (.ref 816)), none, (some (.str (.ofString "onestaff.errors") 187)), none, (some (.ref 0))]⟩
def o821v3 (P : Params) : Obj := ⟨(.type "tuple"), none, (.seq #[] 0), #[]⟩
def o822v3 (P : Params) : Obj := ⟨.none, none, (.fields #[]), #[]⟩
def o823v3 (P : Params) : Obj := ⟨(.type "tuple"), none, (.seq #[(.str (.ofString "self") 1255), (.str (.ofString "row") 1256)] 0), #[]⟩
def o824v3 (P : Params) : Obj := ⟨(.type "tuple"), none, (.seq #[] 0), #[]⟩
def o825v3 (P : Params) : Obj := ⟨.none, none, (.func { name := (.ofString "__init__"), qualname := (.ofString "NoText.__init__"), params := defArgs (inClass (tp 43) 0), body := .stmts (defBody (inClass (tp 43) 0)), scope := defScope (inClass (tp 43) 0), globals := 0, closure := [], defaults := .none, kwdefaults := .none }), #[]⟩
def o826v3 (P : Params) : Obj := ⟨(.type "code"), none, (.fields #[(.str (.ofString "__init__") 1252), (.str (.ofString "NoText.__init__") 1253), (.str (.ofString "/claim/cut.py") 1254), (.int 213 0), (.int 2 0), (.int 0 0), (.int 0 0), (.int 3 0), (.ref 821), (.bool true), (.int 181 0), (.ref 822), .none, (.ref 823), (.ref 824), (.ref 825), (.int 1257 0), (.int 213 0), (.str (.ofString "/claim/cut.py") 1258)]), #[]⟩
def o827v3 (P : Params) : Obj := ⟨(.type "function"), none, (.func { name := (.ofString "__init__"), qualname := (.ofString "NoText.__init__"), params := defArgs (inClass (tp 43) 0), body := .stmts (defBody (inClass (tp 43) 0)), scope := defScope (inClass (tp 43) 0), globals := 3, closure := [], defaults := .none, kwdefaults := .none, pyModule := (.str (.ofString "onestaff.errors") 187), code := (.ref 826) }), #[]⟩
def o828v3 (P : Params) : Obj := ⟨(.type "tuple"), none, (.seq #[(.str (.ofString "row") 1260)] 0), #[]⟩
def o829v3 (P : Params) : Obj := ⟨(.type "dict"), none, (.dict #[⟨PyData.keyHash P (.ofString "__module__"), (.str (.ofString "__module__") 1247), (.str (.ofString "onestaff.errors") 187)⟩, ⟨PyData.keyHash P (.ofString "__firstlineno__"), (.str (.ofString "__firstlineno__") 1251), (.int 211 1250)⟩, ⟨PyData.keyHash P (.ofString "__init__"), (.str (.ofString "__init__") 1259), (.ref 827)⟩, ⟨PyData.keyHash P (.ofString "__static_attributes__"), (.str (.ofString "__static_attributes__") 1261), (.ref 828)⟩, ⟨PyData.keyHash P (.ofString "__doc__"), (.str (.ofString "__doc__") 1262), .none⟩] 2), #[]⟩
def o830v3 (P : Params) : Obj := ⟨(.type "type"), none, (.cls { name := (.ofString "NoText"), bases := [(.ref 31)], mro := [(.ref 830), (.ref 31), (.type "ValueError"), (.type "Exception"), (.type "BaseException"), (.type "object")], ns := 829, qualname := (.ofString "NoText") }), #[(some (.ref 814)), none, (some (.str (.ofString "NoText") 1240)), (some (.str (.ofString "NoText") 1248)), (some (.builtin "ValueError.__new__")), (some (.bool true))]⟩
def o831v3 (P : Params) : Obj := ⟨(.type "super"), none, (.fields #[(.ref 830), (.ref 830), (.ref 830)]), #[]⟩
def o832v3 (P : Params) : Obj := ⟨(.type "builtin_function_or_method"), none, (.fields #[(.builtin "object.__init_subclass__"), (.ref 830)]), #[]⟩
def o833v3 (P : Params) : Obj := ⟨(.type "tuple"), none, (.seq #[(.ref 31)] 0), #[]⟩
def o834v3 (P : Params) : Obj := ⟨(.type "builtin_function_or_method"), none, (.fields #[(.builtin "type.__prepare__"), (.type "type")]), #[]⟩
def o835v3 (P : Params) : Obj := ⟨(.type "dict"), none, (.dict #[⟨PyData.keyHash P (.ofString "__module__"), (.str (.ofString "__module__") 1272), (.str (.ofString "onestaff.errors") 187)⟩, ⟨PyData.keyHash P (.ofString "__qualname__"), (.str (.ofString "__qualname__") 1274), (.str (.ofString "Gap") 1273)⟩, ⟨PyData.keyHash P (.ofString "__firstlineno__"), (.str (.ofString "__firstlineno__") 1276), (.int 216 1275)⟩, ⟨PyData.keyHash P (.ofString "__init__"), (.str (.ofString "__init__") 1284), (.ref 846)⟩, ⟨PyData.keyHash P (.ofString "__static_attributes__"), (.str (.ofString "__static_attributes__") 1286), (.ref 847)⟩] 5), #[]⟩
def o836v3 (P : Params) : Obj := ⟨(.type "tuple"), none, (.seq #[] 0), #[]⟩
def o837v3 (P : Params) : Obj := ⟨.none, none, (.fields #[(.int 218 0), (.int 4 0), (.ref 845)]), #[]⟩
def o838v3 (P : Params) : Obj := ⟨(.type "code"), none, (.fields #[(.str (.ofString "Gap") 1267), (.str (.ofString "Gap") 1268), (.str (.ofString "/claim/cut.py") 1269), (.int 216 0), (.int 0 0), (.int 0 0), (.int 0 0), (.int 0 0), (.ref 836), (.bool false), (.int 181 0), (.ref 837), .none, .none, .none, .none, (.int 1270 0), (.int 216 0), (.str (.ofString "/claim/cut.py") 1271)]), #[]⟩
def o839v3 (P : Params) : Obj := ⟨(.type "frame"), none, .plain, #[(some (.ref 838)), (some (.ref 3)), (some (.ref 835)), none, (some (.str (.ofString "onestaff.errors") 187)), none, (some (.ref 0))]⟩
def o840v3 (P : Params) : Obj := ⟨(.type "tuple"), none, (.seq #[] 0), #[]⟩
def o841v3 (P : Params) : Obj := ⟨.none, none, (.fields #[]), #[]⟩
def o842v3 (P : Params) : Obj := ⟨(.type "tuple"), none, (.seq #[(.str (.ofString "self") 1280), (.str (.ofString "number") 1281)] 0), #[]⟩
def o843v3 (P : Params) : Obj := ⟨(.type "tuple"), none, (.seq #[] 0), #[]⟩
def o844v3 (P : Params) : Obj := ⟨.none, none, (.func { name := (.ofString "__init__"), qualname := (.ofString "Gap.__init__"), params := defArgs (inClass (tp 44) 0), body := .stmts (defBody (inClass (tp 44) 0)), scope := defScope (inClass (tp 44) 0), globals := 0, closure := [], defaults := .none, kwdefaults := .none }), #[]⟩
def o845v3 (P : Params) : Obj := ⟨(.type "code"), none, (.fields #[(.str (.ofString "__init__") 1277), (.str (.ofString "Gap.__init__") 1278), (.str (.ofString "/claim/cut.py") 1279), (.int 218 0), (.int 2 0), (.int 0 0), (.int 0 0), (.int 3 0), (.ref 840), (.bool true), (.int 181 0), (.ref 841), .none, (.ref 842), (.ref 843), (.ref 844), (.int 1282 0), (.int 218 0), (.str (.ofString "/claim/cut.py") 1283)]), #[]⟩
def o846v3 (P : Params) : Obj := ⟨(.type "function"), none, (.func { name := (.ofString "__init__"), qualname := (.ofString "Gap.__init__"), params := defArgs (inClass (tp 44) 0), body := .stmts (defBody (inClass (tp 44) 0)), scope := defScope (inClass (tp 44) 0), globals := 3, closure := [], defaults := .none, kwdefaults := .none, pyModule := (.str (.ofString "onestaff.errors") 187), code := (.ref 845) }), #[]⟩
def o847v3 (P : Params) : Obj := ⟨(.type "tuple"), none, (.seq #[(.str (.ofString "number") 1285)] 0), #[]⟩
def o848v3 (P : Params) : Obj := ⟨(.type "dict"), none, (.dict #[⟨PyData.keyHash P (.ofString "__module__"), (.str (.ofString "__module__") 1272), (.str (.ofString "onestaff.errors") 187)⟩, ⟨PyData.keyHash P (.ofString "__firstlineno__"), (.str (.ofString "__firstlineno__") 1276), (.int 216 1275)⟩, ⟨PyData.keyHash P (.ofString "__init__"), (.str (.ofString "__init__") 1284), (.ref 846)⟩, ⟨PyData.keyHash P (.ofString "__static_attributes__"), (.str (.ofString "__static_attributes__") 1286), (.ref 847)⟩, ⟨PyData.keyHash P (.ofString "__doc__"), (.str (.ofString "__doc__") 1287), .none⟩] 2), #[]⟩
def o849v3 (P : Params) : Obj := ⟨(.type "type"), none, (.cls { name := (.ofString "Gap"), bases := [(.ref 31)], mro := [(.ref 849), (.ref 31), (.type "ValueError"), (.type "Exception"), (.type "BaseException"), (.type "object")], ns := 848, qualname := (.ofString "Gap") }), #[(some (.ref 833)), none, (some (.str (.ofString "Gap") 1265)), (some (.str (.ofString "Gap") 1273)), (some (.builtin "ValueError.__new__")), (some (.bool true))]⟩
def o850v3 (P : Params) : Obj := ⟨(.type "super"), none, (.fields #[(.ref 849), (.ref 849), (.ref 849)]), #[]⟩
def o851v3 (P : Params) : Obj := ⟨(.type "builtin_function_or_method"), none, (.fields #[(.builtin "object.__init_subclass__"), (.ref 849)]), #[]⟩
def o852v3 (P : Params) : Obj := ⟨(.type "tuple"), none, (.seq #[(.ref 31)] 0), #[]⟩
def o853v3 (P : Params) : Obj := ⟨(.type "builtin_function_or_method"), none, (.fields #[(.builtin "type.__prepare__"), (.type "type")]), #[]⟩
def o854v3 (P : Params) : Obj := ⟨(.type "dict"), none, (.dict #[⟨PyData.keyHash P (.ofString "__module__"), (.str (.ofString "__module__") 1297), (.str (.ofString "onestaff.errors") 187)⟩, ⟨PyData.keyHash P (.ofString "__qualname__"), (.str (.ofString "__qualname__") 1299), (.str (.ofString "NotSo") 1298)⟩, ⟨PyData.keyHash P (.ofString "__firstlineno__"), (.str (.ofString "__firstlineno__") 1301), (.int 221 1300)⟩, ⟨PyData.keyHash P (.ofString "__init__"), (.str (.ofString "__init__") 1309), (.ref 865)⟩, ⟨PyData.keyHash P (.ofString "__static_attributes__"), (.str (.ofString "__static_attributes__") 1311), (.ref 866)⟩] 5), #[]⟩
def o855v3 (P : Params) : Obj := ⟨(.type "tuple"), none, (.seq #[] 0), #[]⟩
def o856v3 (P : Params) : Obj := ⟨.none, none, (.fields #[(.int 223 0), (.int 4 0), (.ref 864)]), #[]⟩
def o857v3 (P : Params) : Obj := ⟨(.type "code"), none, (.fields #[(.str (.ofString "NotSo") 1292), (.str (.ofString "NotSo") 1293), (.str (.ofString "/claim/cut.py") 1294), (.int 221 0), (.int 0 0), (.int 0 0), (.int 0 0), (.int 0 0), (.ref 855), (.bool false), (.int 181 0), (.ref 856), .none, .none, .none, .none, (.int 1295 0), (.int 221 0), (.str (.ofString "/claim/cut.py") 1296)]), #[]⟩
def o858v3 (P : Params) : Obj := ⟨(.type "frame"), none, .plain, #[(some (.ref 857)), (some (.ref 3)), (some (.ref 854)), none, (some (.str (.ofString "onestaff.errors") 187)), none, (some (.ref 0))]⟩
def o859v3 (P : Params) : Obj := ⟨(.type "tuple"), none, (.seq #[] 0), #[]⟩
def o860v3 (P : Params) : Obj := ⟨.none, none, (.fields #[]), #[]⟩
def o861v3 (P : Params) : Obj := ⟨(.type "tuple"), none, (.seq #[(.str (.ofString "self") 1305), (.str (.ofString "number") 1306)] 0), #[]⟩
def o862v3 (P : Params) : Obj := ⟨(.type "tuple"), none, (.seq #[] 0), #[]⟩
def o863v3 (P : Params) : Obj := ⟨.none, none, (.func { name := (.ofString "__init__"), qualname := (.ofString "NotSo.__init__"), params := defArgs (inClass (tp 45) 0), body := .stmts (defBody (inClass (tp 45) 0)), scope := defScope (inClass (tp 45) 0), globals := 0, closure := [], defaults := .none, kwdefaults := .none }), #[]⟩
def o864v3 (P : Params) : Obj := ⟨(.type "code"), none, (.fields #[(.str (.ofString "__init__") 1302), (.str (.ofString "NotSo.__init__") 1303), (.str (.ofString "/claim/cut.py") 1304), (.int 223 0), (.int 2 0), (.int 0 0), (.int 0 0), (.int 3 0), (.ref 859), (.bool true), (.int 181 0), (.ref 860), .none, (.ref 861), (.ref 862), (.ref 863), (.int 1307 0), (.int 223 0), (.str (.ofString "/claim/cut.py") 1308)]), #[]⟩
def o865v3 (P : Params) : Obj := ⟨(.type "function"), none, (.func { name := (.ofString "__init__"), qualname := (.ofString "NotSo.__init__"), params := defArgs (inClass (tp 45) 0), body := .stmts (defBody (inClass (tp 45) 0)), scope := defScope (inClass (tp 45) 0), globals := 3, closure := [], defaults := .none, kwdefaults := .none, pyModule := (.str (.ofString "onestaff.errors") 187), code := (.ref 864) }), #[]⟩
def o866v3 (P : Params) : Obj := ⟨(.type "tuple"), none, (.seq #[(.str (.ofString "number") 1310)] 0), #[]⟩
def o867v3 (P : Params) : Obj := ⟨(.type "dict"), none, (.dict #[⟨PyData.keyHash P (.ofString "__module__"), (.str (.ofString "__module__") 1297), (.str (.ofString "onestaff.errors") 187)⟩, ⟨PyData.keyHash P (.ofString "__firstlineno__"), (.str (.ofString "__firstlineno__") 1301), (.int 221 1300)⟩, ⟨PyData.keyHash P (.ofString "__init__"), (.str (.ofString "__init__") 1309), (.ref 865)⟩, ⟨PyData.keyHash P (.ofString "__static_attributes__"), (.str (.ofString "__static_attributes__") 1311), (.ref 866)⟩, ⟨PyData.keyHash P (.ofString "__doc__"), (.str (.ofString "__doc__") 1312), .none⟩] 2), #[]⟩
def o868v3 (P : Params) : Obj := ⟨(.type "type"), none, (.cls { name := (.ofString "NotSo"), bases := [(.ref 31)], mro := [(.ref 868), (.ref 31), (.type "ValueError"), (.type "Exception"), (.type "BaseException"), (.type "object")], ns := 867, qualname := (.ofString "NotSo") }), #[(some (.ref 852)), none, (some (.str (.ofString "NotSo") 1290)), (some (.str (.ofString "NotSo") 1298)), (some (.builtin "ValueError.__new__")), (some (.bool true))]⟩
def o869v3 (P : Params) : Obj := ⟨(.type "super"), none, (.fields #[(.ref 868), (.ref 868), (.ref 868)]), #[]⟩
def o870v3 (P : Params) : Obj := ⟨(.type "builtin_function_or_method"), none, (.fields #[(.builtin "object.__init_subclass__"), (.ref 868)]), #[]⟩
def o871v3 (P : Params) : Obj := ⟨(.type "tuple"), none, (.seq #[(.ref 31)] 0), #[]⟩
def o872v3 (P : Params) : Obj := ⟨(.type "builtin_function_or_method"), none, (.fields #[(.builtin "type.__prepare__"), (.type "type")]), #[]⟩
def o873v3 (P : Params) : Obj := ⟨(.type "dict"), none, (.dict #[⟨PyData.keyHash P (.ofString "__module__"), (.str (.ofString "__module__") 1322), (.str (.ofString "onestaff.errors") 187)⟩, ⟨PyData.keyHash P (.ofString "__qualname__"), (.str (.ofString "__qualname__") 1324), (.str (.ofString "NoTrip") 1323)⟩, ⟨PyData.keyHash P (.ofString "__firstlineno__"), (.str (.ofString "__firstlineno__") 1326), (.int 226 1325)⟩, ⟨PyData.keyHash P (.ofString "__init__"), (.str (.ofString "__init__") 1334), (.ref 884)⟩, ⟨PyData.keyHash P (.ofString "__static_attributes__"), (.str (.ofString "__static_attributes__") 1336), (.ref 885)⟩] 5), #[]⟩
def o874v3 (P : Params) : Obj := ⟨(.type "tuple"), none, (.seq #[] 0), #[]⟩
def o875v3 (P : Params) : Obj := ⟨.none, none, (.fields #[(.int 228 0), (.int 4 0), (.ref 883)]), #[]⟩
def o876v3 (P : Params) : Obj := ⟨(.type "code"), none, (.fields #[(.str (.ofString "NoTrip") 1317), (.str (.ofString "NoTrip") 1318), (.str (.ofString "/claim/cut.py") 1319), (.int 226 0), (.int 0 0), (.int 0 0), (.int 0 0), (.int 0 0), (.ref 874), (.bool false), (.int 181 0), (.ref 875), .none, .none, .none, .none, (.int 1320 0), (.int 226 0), (.str (.ofString "/claim/cut.py") 1321)]), #[]⟩
def o877v3 (P : Params) : Obj := ⟨(.type "frame"), none, .plain, #[(some (.ref 876)), (some (.ref 3)), (some (.ref 873)), none, (some (.str (.ofString "onestaff.errors") 187)), none, (some (.ref 0))]⟩
def o878v3 (P : Params) : Obj := ⟨(.type "tuple"), none, (.seq #[] 0), #[]⟩
def o879v3 (P : Params) : Obj := ⟨.none, none, (.fields #[]), #[]⟩
def o880v3 (P : Params) : Obj := ⟨(.type "tuple"), none, (.seq #[(.str (.ofString "self") 1330), (.str (.ofString "run") 1331)] 0), #[]⟩
def o881v3 (P : Params) : Obj := ⟨(.type "tuple"), none, (.seq #[] 0), #[]⟩
def o882v3 (P : Params) : Obj := ⟨.none, none, (.func { name := (.ofString "__init__"), qualname := (.ofString "NoTrip.__init__"), params := defArgs (inClass (tp 46) 0), body := .stmts (defBody (inClass (tp 46) 0)), scope := defScope (inClass (tp 46) 0), globals := 0, closure := [], defaults := .none, kwdefaults := .none }), #[]⟩
def o883v3 (P : Params) : Obj := ⟨(.type "code"), none, (.fields #[(.str (.ofString "__init__") 1327), (.str (.ofString "NoTrip.__init__") 1328), (.str (.ofString "/claim/cut.py") 1329), (.int 228 0), (.int 2 0), (.int 0 0), (.int 0 0), (.int 3 0), (.ref 878), (.bool true), (.int 181 0), (.ref 879), .none, (.ref 880), (.ref 881), (.ref 882), (.int 1332 0), (.int 228 0), (.str (.ofString "/claim/cut.py") 1333)]), #[]⟩
def o884v3 (P : Params) : Obj := ⟨(.type "function"), none, (.func { name := (.ofString "__init__"), qualname := (.ofString "NoTrip.__init__"), params := defArgs (inClass (tp 46) 0), body := .stmts (defBody (inClass (tp 46) 0)), scope := defScope (inClass (tp 46) 0), globals := 3, closure := [], defaults := .none, kwdefaults := .none, pyModule := (.str (.ofString "onestaff.errors") 187), code := (.ref 883) }), #[]⟩
def o885v3 (P : Params) : Obj := ⟨(.type "tuple"), none, (.seq #[(.str (.ofString "run") 1335)] 0), #[]⟩
def o886v3 (P : Params) : Obj := ⟨(.type "dict"), none, (.dict #[⟨PyData.keyHash P (.ofString "__module__"), (.str (.ofString "__module__") 1322), (.str (.ofString "onestaff.errors") 187)⟩, ⟨PyData.keyHash P (.ofString "__firstlineno__"), (.str (.ofString "__firstlineno__") 1326), (.int 226 1325)⟩, ⟨PyData.keyHash P (.ofString "__init__"), (.str (.ofString "__init__") 1334), (.ref 884)⟩, ⟨PyData.keyHash P (.ofString "__static_attributes__"), (.str (.ofString "__static_attributes__") 1336), (.ref 885)⟩, ⟨PyData.keyHash P (.ofString "__doc__"), (.str (.ofString "__doc__") 1337), .none⟩] 2), #[]⟩
def o887v3 (P : Params) : Obj := ⟨(.type "type"), none, (.cls { name := (.ofString "NoTrip"), bases := [(.ref 31)], mro := [(.ref 887), (.ref 31), (.type "ValueError"), (.type "Exception"), (.type "BaseException"), (.type "object")], ns := 886, qualname := (.ofString "NoTrip") }), #[(some (.ref 871)), none, (some (.str (.ofString "NoTrip") 1315)), (some (.str (.ofString "NoTrip") 1323)), (some (.builtin "ValueError.__new__")), (some (.bool true))]⟩
def o888v3 (P : Params) : Obj := ⟨(.type "super"), none, (.fields #[(.ref 887), (.ref 887), (.ref 887)]), #[]⟩
def o889v3 (P : Params) : Obj := ⟨(.type "builtin_function_or_method"), none, (.fields #[(.builtin "object.__init_subclass__"), (.ref 887)]), #[]⟩
def o890v3 (P : Params) : Obj := ⟨(.type "tuple"), none, (.seq #[(.ref 31)] 0), #[]⟩
def o891v3 (P : Params) : Obj := ⟨(.type "builtin_function_or_method"), none, (.fields #[(.builtin "type.__prepare__"), (.type "type")]), #[]⟩
def o892v3 (P : Params) : Obj := ⟨(.type "dict"), none, (.dict #[⟨PyData.keyHash P (.ofString "__module__"), (.str (.ofString "__module__") 1347), (.str (.ofString "onestaff.errors") 187)⟩, ⟨PyData.keyHash P (.ofString "__qualname__"), (.str (.ofString "__qualname__") 1349), (.str (.ofString "NoStart") 1348)⟩, ⟨PyData.keyHash P (.ofString "__firstlineno__"), (.str (.ofString "__firstlineno__") 1351), (.int 231 1350)⟩, ⟨PyData.keyHash P (.ofString "__init__"), (.str (.ofString "__init__") 1358), (.ref 903)⟩, ⟨PyData.keyHash P (.ofString "__static_attributes__"), (.str (.ofString "__static_attributes__") 1359), (.ref 904)⟩] 5), #[]⟩
def o893v3 (P : Params) : Obj := ⟨(.type "tuple"), none, (.seq #[] 0), #[]⟩
def o894v3 (P : Params) : Obj := ⟨.none, none, (.fields #[(.int 233 0), (.int 4 0), (.ref 902)]), #[]⟩
def o895v3 (P : Params) : Obj := ⟨(.type "code"), none, (.fields #[(.str (.ofString "NoStart") 1342), (.str (.ofString "NoStart") 1343), (.str (.ofString "/claim/cut.py") 1344), (.int 231 0), (.int 0 0), (.int 0 0), (.int 0 0), (.int 0 0), (.ref 893), (.bool false), (.int 181 0), (.ref 894), .none, .none, .none, .none, (.int 1345 0), (.int 231 0), (.str (.ofString "/claim/cut.py") 1346)]), #[]⟩
def o896v3 (P : Params) : Obj := ⟨(.type "frame"), none, .plain, #[(some (.ref 895)), (some (.ref 3)), (some (.ref 892)), none, (some (.str (.ofString "onestaff.errors") 187)), none, (some (.ref 0))]⟩
def o897v3 (P : Params) : Obj := ⟨(.type "tuple"), none, (.seq #[] 0), #[]⟩
def o898v3 (P : Params) : Obj := ⟨.none, none, (.fields #[]), #[]⟩
def o899v3 (P : Params) : Obj := ⟨(.type "tuple"), none, (.seq #[(.str (.ofString "self") 1355)] 0), #[]⟩
def o900v3 (P : Params) : Obj := ⟨(.type "tuple"), none, (.seq #[] 0), #[]⟩
def o901v3 (P : Params) : Obj := ⟨.none, none, (.func { name := (.ofString "__init__"), qualname := (.ofString "NoStart.__init__"), params := defArgs (inClass (tp 47) 0), body := .stmts (defBody (inClass (tp 47) 0)), scope := defScope (inClass (tp 47) 0), globals := 0, closure := [], defaults := .none, kwdefaults := .none }), #[]⟩
def o902v3 (P : Params) : Obj := ⟨(.type "code"), none, (.fields #[(.str (.ofString "__init__") 1352), (.str (.ofString "NoStart.__init__") 1353), (.str (.ofString "/claim/cut.py") 1354), (.int 233 0), (.int 1 0), (.int 0 0), (.int 0 0), (.int 3 0), (.ref 897), (.bool true), (.int 181 0), (.ref 898), .none, (.ref 899), (.ref 900), (.ref 901), (.int 1356 0), (.int 233 0), (.str (.ofString "/claim/cut.py") 1357)]), #[]⟩
def o903v3 (P : Params) : Obj := ⟨(.type "function"), none, (.func { name := (.ofString "__init__"), qualname := (.ofString "NoStart.__init__"), params := defArgs (inClass (tp 47) 0), body := .stmts (defBody (inClass (tp 47) 0)), scope := defScope (inClass (tp 47) 0), globals := 3, closure := [], defaults := .none, kwdefaults := .none, pyModule := (.str (.ofString "onestaff.errors") 187), code := (.ref 902) }), #[]⟩
def o904v3 (P : Params) : Obj := ⟨(.type "tuple"), none, (.seq #[] 0), #[]⟩
def o905v3 (P : Params) : Obj := ⟨(.type "dict"), none, (.dict #[⟨PyData.keyHash P (.ofString "__module__"), (.str (.ofString "__module__") 1347), (.str (.ofString "onestaff.errors") 187)⟩, ⟨PyData.keyHash P (.ofString "__firstlineno__"), (.str (.ofString "__firstlineno__") 1351), (.int 231 1350)⟩, ⟨PyData.keyHash P (.ofString "__init__"), (.str (.ofString "__init__") 1358), (.ref 903)⟩, ⟨PyData.keyHash P (.ofString "__static_attributes__"), (.str (.ofString "__static_attributes__") 1359), (.ref 904)⟩, ⟨PyData.keyHash P (.ofString "__doc__"), (.str (.ofString "__doc__") 1360), .none⟩] 2), #[]⟩
def o906v3 (P : Params) : Obj := ⟨(.type "type"), none, (.cls { name := (.ofString "NoStart"), bases := [(.ref 31)], mro := [(.ref 906), (.ref 31), (.type "ValueError"), (.type "Exception"), (.type "BaseException"), (.type "object")], ns := 905, qualname := (.ofString "NoStart") }), #[(some (.ref 890)), none, (some (.str (.ofString "NoStart") 1340)), (some (.str (.ofString "NoStart") 1348)), (some (.builtin "ValueError.__new__")), (some (.bool true))]⟩
def o907v3 (P : Params) : Obj := ⟨(.type "super"), none, (.fields #[(.ref 906), (.ref 906), (.ref 906)]), #[]⟩
def o908v3 (P : Params) : Obj := ⟨(.type "builtin_function_or_method"), none, (.fields #[(.builtin "object.__init_subclass__"), (.ref 906)]), #[]⟩
def o909v3 (P : Params) : Obj := ⟨(.type "tuple"), none, (.seq #[(.ref 31)] 0), #[]⟩
def o910v3 (P : Params) : Obj := ⟨(.type "builtin_function_or_method"), none, (.fields #[(.builtin "type.__prepare__"), (.type "type")]), #[]⟩
def o911v3 (P : Params) : Obj := ⟨(.type "dict"), none, (.dict #[⟨PyData.keyHash P (.ofString "__module__"), (.str (.ofString "__module__") 1370), (.str (.ofString "onestaff.errors") 187)⟩, ⟨PyData.keyHash P (.ofString "__qualname__"), (.str (.ofString "__qualname__") 1372), (.str (.ofString "NoBack") 1371)⟩, ⟨PyData.keyHash P (.ofString "__firstlineno__"), (.str (.ofString "__firstlineno__") 1374), (.int 235 1373)⟩, ⟨PyData.keyHash P (.ofString "__init__"), (.str (.ofString "__init__") 1381), (.ref 922)⟩, ⟨PyData.keyHash P (.ofString "__static_attributes__"), (.str (.ofString "__static_attributes__") 1382), (.ref 923)⟩] 5), #[]⟩
def o912v3 (P : Params) : Obj := ⟨(.type "tuple"), none, (.seq #[] 0), #[]⟩
def o913v3 (P : Params) : Obj := ⟨.none, none, (.fields #[(.int 237 0), (.int 4 0), (.ref 921)]), #[]⟩
def o914v3 (P : Params) : Obj := ⟨(.type "code"), none, (.fields #[(.str (.ofString "NoBack") 1365), (.str (.ofString "NoBack") 1366), (.str (.ofString "/claim/cut.py") 1367), (.int 235 0), (.int 0 0), (.int 0 0), (.int 0 0), (.int 0 0), (.ref 912), (.bool false), (.int 181 0), (.ref 913), .none, .none, .none, .none, (.int 1368 0), (.int 235 0), (.str (.ofString "/claim/cut.py") 1369)]), #[]⟩
def o915v3 (P : Params) : Obj := ⟨(.type "frame"), none, .plain, #[(some (.ref 914)), (some (.ref 3)), (some (.ref 911)), none, (some (.str (.ofString "onestaff.errors") 187)), none, (some (.ref 0))]⟩
def o916v3 (P : Params) : Obj := ⟨(.type "tuple"), none, (.seq #[] 0), #[]⟩
def o917v3 (P : Params) : Obj := ⟨.none, none, (.fields #[]), #[]⟩
def o918v3 (P : Params) : Obj := ⟨(.type "tuple"), none, (.seq #[(.str (.ofString "self") 1378)] 0), #[]⟩
def o919v3 (P : Params) : Obj := ⟨(.type "tuple"), none, (.seq #[] 0), #[]⟩
def o920v3 (P : Params) : Obj := ⟨.none, none, (.func { name := (.ofString "__init__"), qualname := (.ofString "NoBack.__init__"), params := defArgs (inClass (tp 48) 0), body := .stmts (defBody (inClass (tp 48) 0)), scope := defScope (inClass (tp 48) 0), globals := 0, closure := [], defaults := .none, kwdefaults := .none }), #[]⟩
def o921v3 (P : Params) : Obj := ⟨(.type "code"), none, (.fields #[(.str (.ofString "__init__") 1375), (.str (.ofString "NoBack.__init__") 1376), (.str (.ofString "/claim/cut.py") 1377), (.int 237 0), (.int 1 0), (.int 0 0), (.int 0 0), (.int 3 0), (.ref 916), (.bool true), (.int 181 0), (.ref 917), .none, (.ref 918), (.ref 919), (.ref 920), (.int 1379 0), (.int 237 0), (.str (.ofString "/claim/cut.py") 1380)]), #[]⟩
def o922v3 (P : Params) : Obj := ⟨(.type "function"), none, (.func { name := (.ofString "__init__"), qualname := (.ofString "NoBack.__init__"), params := defArgs (inClass (tp 48) 0), body := .stmts (defBody (inClass (tp 48) 0)), scope := defScope (inClass (tp 48) 0), globals := 3, closure := [], defaults := .none, kwdefaults := .none, pyModule := (.str (.ofString "onestaff.errors") 187), code := (.ref 921) }), #[]⟩
def o923v3 (P : Params) : Obj := ⟨(.type "tuple"), none, (.seq #[] 0), #[]⟩
def o924v3 (P : Params) : Obj := ⟨(.type "dict"), none, (.dict #[⟨PyData.keyHash P (.ofString "__module__"), (.str (.ofString "__module__") 1370), (.str (.ofString "onestaff.errors") 187)⟩, ⟨PyData.keyHash P (.ofString "__firstlineno__"), (.str (.ofString "__firstlineno__") 1374), (.int 235 1373)⟩, ⟨PyData.keyHash P (.ofString "__init__"), (.str (.ofString "__init__") 1381), (.ref 922)⟩, ⟨PyData.keyHash P (.ofString "__static_attributes__"), (.str (.ofString "__static_attributes__") 1382), (.ref 923)⟩, ⟨PyData.keyHash P (.ofString "__doc__"), (.str (.ofString "__doc__") 1383), .none⟩] 2), #[]⟩
def o925v3 (P : Params) : Obj := ⟨(.type "type"), none, (.cls { name := (.ofString "NoBack"), bases := [(.ref 31)], mro := [(.ref 925), (.ref 31), (.type "ValueError"), (.type "Exception"), (.type "BaseException"), (.type "object")], ns := 924, qualname := (.ofString "NoBack") }), #[(some (.ref 909)), none, (some (.str (.ofString "NoBack") 1363)), (some (.str (.ofString "NoBack") 1371)), (some (.builtin "ValueError.__new__")), (some (.bool true))]⟩
def o926v3 (P : Params) : Obj := ⟨(.type "super"), none, (.fields #[(.ref 925), (.ref 925), (.ref 925)]), #[]⟩
def o927v3 (P : Params) : Obj := ⟨(.type "builtin_function_or_method"), none, (.fields #[(.builtin "object.__init_subclass__"), (.ref 925)]), #[]⟩
def o928v3 (P : Params) : Obj := ⟨(.type "tuple"), none, (.seq #[] 0), #[]⟩
def o929v3 (P : Params) : Obj := ⟨.none, none, (.fields #[]), #[]⟩
def o930v3 (P : Params) : Obj := ⟨(.type "tuple"), none, (.seq #[(.str (.ofString "_law_script") 1391), (.str (.ofString "_law_k") 1392)] 0), #[]⟩
def o931v3 (P : Params) : Obj := ⟨(.type "tuple"), none, (.seq #[] 0), #[]⟩
def o932v3 (P : Params) : Obj := ⟨.none, none, (.func { name := (.ofString "_law_cell"), qualname := (.ofString "_law_cell"), params := defArgs (tp 50), body := .stmts (defBody (tp 50)), scope := defScope (tp 50), globals := 0, closure := [], defaults := .none, kwdefaults := .none }), #[]⟩
def o933v3 (P : Params) : Obj := ⟨(.type "code"), none, (.fields #[(.str (.ofString "_law_cell") 1388), (.str (.ofString "_law_cell") 1389), (.str (.ofString "/claim/cut.py") 1390), (.int 240 0), (.int 2 0), (.int 0 0), (.int 0 0), (.int 3 0), (.ref 928), (.bool true), (.int 181 0), (.ref 929), .none, (.ref 930), (.ref 931), (.ref 932), (.int 1393 0), (.int 240 0), (.str (.ofString "/claim/cut.py") 1394)]), #[]⟩
def o934v3 (P : Params) : Obj := ⟨(.type "function"), none, (.func { name := (.ofString "_law_cell"), qualname := (.ofString "_law_cell"), params := defArgs (tp 50), body := .stmts (defBody (tp 50)), scope := defScope (tp 50), globals := 3, closure := [], defaults := .none, kwdefaults := .none, pyModule := (.str (.ofString "law_onestaff_k09_refusals_apart") 1386), code := (.ref 933) }), #[]⟩
def o935v3 (P : Params) : Obj := ⟨(.type "tuple"), none, (.seq #[] 0), #[]⟩
def o936v3 (P : Params) : Obj := ⟨.none, none, (.fields #[]), #[]⟩
def o937v3 (P : Params) : Obj := ⟨(.type "tuple"), none, (.seq #[(.str (.ofString "_law_cell_here") 1399)] 0), #[]⟩
def o938v3 (P : Params) : Obj := ⟨(.type "tuple"), none, (.seq #[] 0), #[]⟩
def o939v3 (P : Params) : Obj := ⟨.none, none, (.func { name := (.ofString "_law_box"), qualname := (.ofString "_law_box"), params := defArgs (tp 51), body := .stmts (defBody (tp 51)), scope := defScope (tp 51), globals := 0, closure := [], defaults := .none, kwdefaults := .none }), #[]⟩
def o940v3 (P : Params) : Obj := ⟨(.type "code"), none, (.fields #[(.str (.ofString "_law_box") 1396), (.str (.ofString "_law_box") 1397), (.str (.ofString "/claim/cut.py") 1398), (.int 244 0), (.int 1 0), (.int 0 0), (.int 0 0), (.int 3 0), (.ref 935), (.bool true), (.int 181 0), (.ref 936), .none, (.ref 937), (.ref 938), (.ref 939), (.int 1400 0), (.int 244 0), (.str (.ofString "/claim/cut.py") 1401)]), #[]⟩
def o941v3 (P : Params) : Obj := ⟨(.type "function"), none, (.func { name := (.ofString "_law_box"), qualname := (.ofString "_law_box"), params := defArgs (tp 51), body := .stmts (defBody (tp 51)), scope := defScope (tp 51), globals := 3, closure := [], defaults := .none, kwdefaults := .none, pyModule := (.str (.ofString "law_onestaff_k09_refusals_apart") 1386), code := (.ref 940) }), #[]⟩
def o942v3 (P : Params) : Obj := ⟨(.type "tuple"), none, (.seq #[] 0), #[]⟩
def o943v3 (P : Params) : Obj := ⟨.none, none, (.fields #[]), #[]⟩
def o944v3 (P : Params) : Obj := ⟨(.type "tuple"), none, (.seq #[(.str (.ofString "_law_box_here") 1406), (.str (.ofString "_law_many") 1407), (.str (.ofString "_law_digit") 1408), (.str (.ofString "_law_number") 1409)] 0), #[]⟩
def o945v3 (P : Params) : Obj := ⟨(.type "tuple"), none, (.seq #[] 0), #[]⟩
def o946v3 (P : Params) : Obj := ⟨.none, none, (.func { name := (.ofString "_law_take"), qualname := (.ofString "_law_take"), params := defArgs (tp 52), body := .stmts (defBody (tp 52)), scope := defScope (tp 52), globals := 0, closure := [], defaults := .none, kwdefaults := .none }), #[]⟩
def o947v3 (P : Params) : Obj := ⟨(.type "code"), none, (.fields #[(.str (.ofString "_law_take") 1403), (.str (.ofString "_law_take") 1404), (.str (.ofString "/claim/cut.py") 1405), (.int 246 0), (.int 2 0), (.int 0 0), (.int 0 0), (.int 3 0), (.ref 942), (.bool true), (.int 181 0), (.ref 943), .none, (.ref 944), (.ref 945), (.ref 946), (.int 1410 0), (.int 246 0), (.str (.ofString "/claim/cut.py") 1411)]), #[]⟩
def o948v3 (P : Params) : Obj := ⟨(.type "function"), none, (.func { name := (.ofString "_law_take"), qualname := (.ofString "_law_take"), params := defArgs (tp 52), body := .stmts (defBody (tp 52)), scope := defScope (tp 52), globals := 3, closure := [], defaults := .none, kwdefaults := .none, pyModule := (.str (.ofString "law_onestaff_k09_refusals_apart") 1386), code := (.ref 947) }), #[]⟩
def o949v3 (P : Params) : Obj := ⟨(.type "tuple"), none, (.seq #[] 0), #[]⟩
def o950v3 (P : Params) : Obj := ⟨.none, none, (.fields #[]), #[]⟩
def o951v3 (P : Params) : Obj := ⟨(.type "tuple"), none, (.seq #[(.str (.ofString "_law_box_here") 1416), (.str (.ofString "_law_number") 1417), (.str (.ofString "_law_some") 1418)] 0), #[]⟩
def o952v3 (P : Params) : Obj := ⟨(.type "tuple"), none, (.seq #[] 0), #[]⟩
def o953v3 (P : Params) : Obj := ⟨.none, none, (.func { name := (.ofString "_law_thing"), qualname := (.ofString "_law_thing"), params := defArgs (tp 53), body := .stmts (defBody (tp 53)), scope := defScope (tp 53), globals := 0, closure := [], defaults := .none, kwdefaults := .none }), #[]⟩
def o954v3 (P : Params) : Obj := ⟨(.type "code"), none, (.fields #[(.str (.ofString "_law_thing") 1413), (.str (.ofString "_law_thing") 1414), (.str (.ofString "/claim/cut.py") 1415), (.int 255 0), (.int 1 0), (.int 0 0), (.int 0 0), (.int 3 0), (.ref 949), (.bool true), (.int 181 0), (.ref 950), .none, (.ref 951), (.ref 952), (.ref 953), (.int 1419 0), (.int 255 0), (.str (.ofString "/claim/cut.py") 1420)]), #[]⟩
def o955v3 (P : Params) : Obj := ⟨(.type "function"), none, (.func { name := (.ofString "_law_thing"), qualname := (.ofString "_law_thing"), params := defArgs (tp 53), body := .stmts (defBody (tp 53)), scope := defScope (tp 53), globals := 3, closure := [], defaults := .none, kwdefaults := .none, pyModule := (.str (.ofString "law_onestaff_k09_refusals_apart") 1386), code := (.ref 954) }), #[]⟩
def o956v3 (P : Params) : Obj := ⟨(.type "tuple"), none, (.seq #[] 0), #[]⟩
def o957v3 (P : Params) : Obj := ⟨.none, none, (.fields #[]), #[]⟩
def o958v3 (P : Params) : Obj := ⟨(.type "tuple"), none, (.seq #[(.str (.ofString "_law_error") 1425), (.str (.ofString "_law_kinds_here") 1426)] 0), #[]⟩
def o959v3 (P : Params) : Obj := ⟨(.type "tuple"), none, (.seq #[] 0), #[]⟩
def o960v3 (P : Params) : Obj := ⟨.none, none, (.func { name := (.ofString "_law_kinds"), qualname := (.ofString "_law_kinds"), params := defArgs (tp 54), body := .stmts (defBody (tp 54)), scope := defScope (tp 54), globals := 0, closure := [], defaults := .none, kwdefaults := .none }), #[]⟩
def o961v3 (P : Params) : Obj := ⟨(.type "code"), none, (.fields #[(.str (.ofString "_law_kinds") 1422), (.str (.ofString "_law_kinds") 1423), (.str (.ofString "/claim/cut.py") 1424), (.int 259 0), (.int 1 0), (.int 0 0), (.int 0 0), (.int 3 0), (.ref 956), (.bool true), (.int 181 0), (.ref 957), .none, (.ref 958), (.ref 959), (.ref 960), (.int 1427 0), (.int 259 0), (.str (.ofString "/claim/cut.py") 1428)]), #[]⟩
def o962v3 (P : Params) : Obj := ⟨(.type "function"), none, (.func { name := (.ofString "_law_kinds"), qualname := (.ofString "_law_kinds"), params := defArgs (tp 54), body := .stmts (defBody (tp 54)), scope := defScope (tp 54), globals := 3, closure := [], defaults := .none, kwdefaults := .none, pyModule := (.str (.ofString "law_onestaff_k09_refusals_apart") 1386), code := (.ref 961) }), #[]⟩
def o963v3 (P : Params) : Obj := ⟨(.type "tuple"), none, (.seq #[] 0), #[]⟩
def o964v3 (P : Params) : Obj := ⟨.none, none, (.fields #[]), #[]⟩
def o965v3 (P : Params) : Obj := ⟨(.type "tuple"), none, (.seq #[(.str (.ofString "_law_one") 1433), (.str (.ofString "_law_other") 1434), (.str (.ofString "_law_made_here") 1435)] 0), #[]⟩
def o966v3 (P : Params) : Obj := ⟨(.type "tuple"), none, (.seq #[] 0), #[]⟩
def o967v3 (P : Params) : Obj := ⟨.none, none, (.func { name := (.ofString "_law_made"), qualname := (.ofString "_law_made"), params := defArgs (tp 55), body := .stmts (defBody (tp 55)), scope := defScope (tp 55), globals := 0, closure := [], defaults := .none, kwdefaults := .none }), #[]⟩
def o968v3 (P : Params) : Obj := ⟨(.type "code"), none, (.fields #[(.str (.ofString "_law_made") 1430), (.str (.ofString "_law_made") 1431), (.str (.ofString "/claim/cut.py") 1432), (.int 277 0), (.int 2 0), (.int 0 0), (.int 0 0), (.int 3 0), (.ref 963), (.bool true), (.int 181 0), (.ref 964), .none, (.ref 965), (.ref 966), (.ref 967), (.int 1436 0), (.int 277 0), (.str (.ofString "/claim/cut.py") 1437)]), #[]⟩
def o969v3 (P : Params) : Obj := ⟨(.type "function"), none, (.func { name := (.ofString "_law_made"), qualname := (.ofString "_law_made"), params := defArgs (tp 55), body := .stmts (defBody (tp 55)), scope := defScope (tp 55), globals := 3, closure := [], defaults := .none, kwdefaults := .none, pyModule := (.str (.ofString "law_onestaff_k09_refusals_apart") 1386), code := (.ref 968) }), #[]⟩
def o970v3 (P : Params) : Obj := ⟨(.type "tuple"), none, (.seq #[] 0), #[]⟩
def o971v3 (P : Params) : Obj := ⟨.none, none, (.fields #[]), #[]⟩
def o972v3 (P : Params) : Obj := ⟨.none, none, (.func { name := (.ofString "_law_fields"), qualname := (.ofString "_law_fields"), params := defArgs (tp 56), body := .stmts (defBody (tp 56)), scope := defScope (tp 56), globals := 0, closure := [], defaults := .none, kwdefaults := .none }), #[]⟩
def o973v3 (P : Params) : Obj := ⟨(.type "code"), none, (.fields #[(.str (.ofString "_law_fields") 1439), (.str (.ofString "_law_fields") 1440), (.str (.ofString "/claim/cut.py") 1441), (.int 287 0), (.int 1 0), (.int 0 0), (.int 0 0), (.int 3 0), (.ref 970), (.bool true), (.int 181 0), (.ref 971), .none, .none, .none, (.ref 972), (.int 1442 0), (.int 287 0), (.str (.ofString "/claim/cut.py") 1443)]), #[]⟩
def o974v3 (P : Params) : Obj := ⟨(.type "function"), none, (.func { name := (.ofString "_law_fields"), qualname := (.ofString "_law_fields"), params := defArgs (tp 56), body := .stmts (defBody (tp 56)), scope := defScope (tp 56), globals := 3, closure := [], defaults := .none, kwdefaults := .none, pyModule := (.str (.ofString "law_onestaff_k09_refusals_apart") 1386), code := (.ref 973) }), #[]⟩
def o975v3 (P : Params) : Obj := ⟨(.type "tuple"), none, (.seq #[] 0), #[]⟩
def o976v3 (P : Params) : Obj := ⟨.none, none, (.fields #[]), #[]⟩
def o977v3 (P : Params) : Obj := ⟨.none, none, (.func { name := (.ofString "_law_right"), qualname := (.ofString "_law_right"), params := defArgs (tp 57), body := .stmts (defBody (tp 57)), scope := defScope (tp 57), globals := 0, closure := [], defaults := .none, kwdefaults := .none }), #[]⟩
def o978v3 (P : Params) : Obj := ⟨(.type "code"), none, (.fields #[(.str (.ofString "_law_right") 1445), (.str (.ofString "_law_right") 1446), (.str (.ofString "/claim/cut.py") 1447), (.int 290 0), (.int 1 0), (.int 0 0), (.int 0 0), (.int 3 0), (.ref 975), (.bool true), (.int 181 0), (.ref 976), .none, .none, .none, (.ref 977), (.int 1448 0), (.int 290 0), (.str (.ofString "/claim/cut.py") 1449)]), #[]⟩
def o979v3 (P : Params) : Obj := ⟨(.type "function"), none, (.func { name := (.ofString "_law_right"), qualname := (.ofString "_law_right"), params := defArgs (tp 57), body := .stmts (defBody (tp 57)), scope := defScope (tp 57), globals := 3, closure := [], defaults := .none, kwdefaults := .none, pyModule := (.str (.ofString "law_onestaff_k09_refusals_apart") 1386), code := (.ref 978) }), #[]⟩
def o980v3 (P : Params) : Obj := ⟨(.type "tuple"), none, (.seq #[] 0), #[]⟩
def o981v3 (P : Params) : Obj := ⟨.none, none, (.fields #[]), #[]⟩
def o982v3 (P : Params) : Obj := ⟨(.type "tuple"), none, (.seq #[(.str (.ofString "_law_script") 1454), (.str (.ofString "_law_k") 1455), (.str (.ofString "_law_box_here") 1456), (.str (.ofString "_law_above") 1457)] 0), #[]⟩
def o983v3 (P : Params) : Obj := ⟨(.type "tuple"), none, (.seq #[] 0), #[]⟩
def o984v3 (P : Params) : Obj := ⟨.none, none, (.func { name := (.ofString "law"), qualname := (.ofString "law"), params := defArgs (tp 58), body := .stmts (defBody (tp 58)), scope := defScope (tp 58), globals := 0, closure := [], defaults := .none, kwdefaults := .none }), #[]⟩
def o985v3 (P : Params) : Obj := ⟨(.type "code"), none, (.fields #[(.str (.ofString "law") 1451), (.str (.ofString "law") 1452), (.str (.ofString "/claim/cut.py") 1453), (.int 308 0), (.int 1 0), (.int 0 0), (.int 0 0), (.int 3 0), (.ref 980), (.bool true), (.int 181 0), (.ref 981), .none, (.ref 982), (.ref 983), (.ref 984), (.int 1458 0), (.int 308 0), (.str (.ofString "/claim/cut.py") 1459)]), #[]⟩
def o986v3 (P : Params) : Obj := ⟨(.type "function"), none, (.func { name := (.ofString "law"), qualname := (.ofString "law"), params := defArgs (tp 58), body := .stmts (defBody (tp 58)), scope := defScope (tp 58), globals := 3, closure := [], defaults := .none, kwdefaults := .none, pyModule := (.str (.ofString "law_onestaff_k09_refusals_apart") 1386), code := (.ref 985) }), #[]⟩
def T0 (P : Params) : BT := .node (o0 P) (.node (o1 P) (.node (o3 P) (.node (o7 P) .nil .nil) (.node (o11 P) .nil .nil)) (.node (o5 P) (.node (o9 P) .nil .nil) (.node (o13 P) .nil .nil))) (.node (o2 P) (.node (o4 P) (.node (o8 P) .nil .nil) (.node (o12 P) .nil .nil)) (.node (o6 P) (.node (o10 P) .nil .nil) (.node (o14 P) .nil .nil)))
def S0 : World → OsState → SharedT := My.endS T0 15 {} (Array.mk []) {} 187
def T1 (P : Params) : BT := .node (o0 P) (.node (o1 P) (.node (o3v1 P) (.node (o7 P) (.node (o15v1 P) (.node (o31v1 P) (.node (o63v1 P) (.node (o127v1 P) (.node (o255v1 P) .nil .nil) .nil) (.node (o191v1 P) (.node (o319v1 P) .nil .nil) .nil)) (.node (o95v1 P) (.node (o159v1 P) (.node (o287v1 P) .nil .nil) .nil) (.node (o223v1 P) .nil .nil))) (.node (o47v1 P) (.node (o79v1 P) (.node (o143v1 P) (.node (o271v1 P) .nil .nil) .nil) (.node (o207v1 P) (.node (o335v1 P) .nil .nil) .nil)) (.node (o111v1 P) (.node (o175v1 P) (.node (o303v1 P) .nil .nil) .nil) (.node (o239v1 P) .nil .nil)))) (.node (o23v1 P) (.node (o39v1 P) (.node (o71v1 P) (.node (o135v1 P) (.node (o263v1 P) .nil .nil) .nil) (.node (o199v1 P) (.node (o327v1 P) .nil .nil) .nil)) (.node (o103v1 P) (.node (o167v1 P) (.node (o295v1 P) .nil .nil) .nil) (.node (o231v1 P) .nil .nil))) (.node (o55v1 P) (.node (o87v1 P) (.node (o151v1 P) (.node (o279v1 P) .nil .nil) .nil) (.node (o215v1 P) .nil .nil)) (.node (o119v1 P) (.node (o183v1 P) (.node (o311v1 P) .nil .nil) .nil) (.node (o247v1 P) .nil .nil))))) (.node (o11 P) (.node (o19v1 P) (.node (o35v1 P) (.node (o67v1 P) (.node (o131v1 P) (.node (o259v1 P) .nil .nil) .nil) (.node (o195v1 P) (.node (o323v1 P) .nil .nil) .nil)) (.node (o99v1 P) (.node (o163v1 P) (.node (o291v1 P) .nil .nil) .nil) (.node (o227v1 P) .nil .nil))) (.node (o51v1 P) (.node (o83v1 P) (.node (o147v1 P) (.node (o275v1 P) .nil .nil) .nil) (.node (o211v1 P) .nil .nil)) (.node (o115v1 P) (.node (o179v1 P) (.node (o307v1 P) .nil .nil) .nil) (.node (o243v1 P) .nil .nil)))) (.node (o27v1 P) (.node (o43v1 P) (.node (o75v1 P) (.node (o139v1 P) (.node (o267v1 P) .nil .nil) .nil) (.node (o203v1 P) (.node (o331v1 P) .nil .nil) .nil)) (.node (o107v1 P) (.node (o171v1 P) (.node (o299v1 P) .nil .nil) .nil) (.node (o235v1 P) .nil .nil))) (.node (o59v1 P) (.node (o91v1 P) (.node (o155v1 P) (.node (o283v1 P) .nil .nil) .nil) (.node (o219v1 P) .nil .nil)) (.node (o123v1 P) (.node (o187v1 P) (.node (o315v1 P) .nil .nil) .nil) (.node (o251v1 P) .nil .nil)))))) (.node (o5 P) (.node (o9 P) (.node (o17v1 P) (.node (o33v1 P) (.node (o65v1 P) (.node (o129v1 P) (.node (o257v1 P) .nil .nil) .nil) (.node (o193v1 P) (.node (o321v1 P) .nil .nil) .nil)) (.node (o97v1 P) (.node (o161v1 P) (.node (o289v1 P) .nil .nil) .nil) (.node (o225v1 P) .nil .nil))) (.node (o49v1 P) (.node (o81v1 P) (.node (o145v1 P) (.node (o273v1 P) .nil .nil) .nil) (.node (o209v1 P) (.node (o337v1 P) .nil .nil) .nil)) (.node (o113v1 P) (.node (o177v1 P) (.node (o305v1 P) .nil .nil) .nil) (.node (o241v1 P) .nil .nil)))) (.node (o25v1 P) (.node (o41v1 P) (.node (o73v1 P) (.node (o137v1 P) (.node (o265v1 P) .nil .nil) .nil) (.node (o201v1 P) (.node (o329v1 P) .nil .nil) .nil)) (.node (o105v1 P) (.node (o169v1 P) (.node (o297v1 P) .nil .nil) .nil) (.node (o233v1 P) .nil .nil))) (.node (o57v1 P) (.node (o89v1 P) (.node (o153v1 P) (.node (o281v1 P) .nil .nil) .nil) (.node (o217v1 P) .nil .nil)) (.node (o121v1 P) (.node (o185v1 P) (.node (o313v1 P) .nil .nil) .nil) (.node (o249v1 P) .nil .nil))))) (.node (o13 P) (.node (o21v1 P) (.node (o37v1 P) (.node (o69v1 P) (.node (o133v1 P) (.node (o261v1 P) .nil .nil) .nil) (.node (o197v1 P) (.node (o325v1 P) .nil .nil) .nil)) (.node (o101v1 P) (.node (o165v1 P) (.node (o293v1 P) .nil .nil) .nil) (.node (o229v1 P) .nil .nil))) (.node (o53v1 P) (.node (o85v1 P) (.node (o149v1 P) (.node (o277v1 P) .nil .nil) .nil) (.node (o213v1 P) .nil .nil)) (.node (o117v1 P) (.node (o181v1 P) (.node (o309v1 P) .nil .nil) .nil) (.node (o245v1 P) .nil .nil)))) (.node (o29v1 P) (.node (o45v1 P) (.node (o77v1 P) (.node (o141v1 P) (.node (o269v1 P) .nil .nil) .nil) (.node (o205v1 P) (.node (o333v1 P) .nil .nil) .nil)) (.node (o109v1 P) (.node (o173v1 P) (.node (o301v1 P) .nil .nil) .nil) (.node (o237v1 P) .nil .nil))) (.node (o61v1 P) (.node (o93v1 P) (.node (o157v1 P) (.node (o285v1 P) .nil .nil) .nil) (.node (o221v1 P) .nil .nil)) (.node (o125v1 P) (.node (o189v1 P) (.node (o317v1 P) .nil .nil) .nil) (.node (o253v1 P) .nil .nil))))))) (.node (o2 P) (.node (o4 P) (.node (o8 P) (.node (o16v1 P) (.node (o32v1 P) (.node (o64v1 P) (.node (o128v1 P) (.node (o256v1 P) .nil .nil) .nil) (.node (o192v1 P) (.node (o320v1 P) .nil .nil) .nil)) (.node (o96v1 P) (.node (o160v1 P) (.node (o288v1 P) .nil .nil) .nil) (.node (o224v1 P) .nil .nil))) (.node (o48v1 P) (.node (o80v1 P) (.node (o144v1 P) (.node (o272v1 P) .nil .nil) .nil) (.node (o208v1 P) (.node (o336v1 P) .nil .nil) .nil)) (.node (o112v1 P) (.node (o176v1 P) (.node (o304v1 P) .nil .nil) .nil) (.node (o240v1 P) .nil .nil)))) (.node (o24v1 P) (.node (o40v1 P) (.node (o72v1 P) (.node (o136v1 P) (.node (o264v1 P) .nil .nil) .nil) (.node (o200v1 P) (.node (o328v1 P) .nil .nil) .nil)) (.node (o104v1 P) (.node (o168v1 P) (.node (o296v1 P) .nil .nil) .nil) (.node (o232v1 P) .nil .nil))) (.node (o56v1 P) (.node (o88v1 P) (.node (o152v1 P) (.node (o280v1 P) .nil .nil) .nil) (.node (o216v1 P) .nil .nil)) (.node (o120v1 P) (.node (o184v1 P) (.node (o312v1 P) .nil .nil) .nil) (.node (o248v1 P) .nil .nil))))) (.node (o12v1 P) (.node (o20v1 P) (.node (o36v1 P) (.node (o68v1 P) (.node (o132v1 P) (.node (o260v1 P) .nil .nil) .nil) (.node (o196v1 P) (.node (o324v1 P) .nil .nil) .nil)) (.node (o100v1 P) (.node (o164v1 P) (.node (o292v1 P) .nil .nil) .nil) (.node (o228v1 P) .nil .nil))) (.node (o52v1 P) (.node (o84v1 P) (.node (o148v1 P) (.node (o276v1 P) .nil .nil) .nil) (.node (o212v1 P) .nil .nil)) (.node (o116v1 P) (.node (o180v1 P) (.node (o308v1 P) .nil .nil) .nil) (.node (o244v1 P) .nil .nil)))) (.node (o28v1 P) (.node (o44v1 P) (.node (o76v1 P) (.node (o140v1 P) (.node (o268v1 P) .nil .nil) .nil) (.node (o204v1 P) (.node (o332v1 P) .nil .nil) .nil)) (.node (o108v1 P) (.node (o172v1 P) (.node (o300v1 P) .nil .nil) .nil) (.node (o236v1 P) .nil .nil))) (.node (o60v1 P) (.node (o92v1 P) (.node (o156v1 P) (.node (o284v1 P) .nil .nil) .nil) (.node (o220v1 P) .nil .nil)) (.node (o124v1 P) (.node (o188v1 P) (.node (o316v1 P) .nil .nil) .nil) (.node (o252v1 P) .nil .nil)))))) (.node (o6 P) (.node (o10 P) (.node (o18v1 P) (.node (o34v1 P) (.node (o66v1 P) (.node (o130v1 P) (.node (o258v1 P) .nil .nil) .nil) (.node (o194v1 P) (.node (o322v1 P) .nil .nil) .nil)) (.node (o98v1 P) (.node (o162v1 P) (.node (o290v1 P) .nil .nil) .nil) (.node (o226v1 P) .nil .nil))) (.node (o50v1 P) (.node (o82v1 P) (.node (o146v1 P) (.node (o274v1 P) .nil .nil) .nil) (.node (o210v1 P) (.node (o338v1 P) .nil .nil) .nil)) (.node (o114v1 P) (.node (o178v1 P) (.node (o306v1 P) .nil .nil) .nil) (.node (o242v1 P) .nil .nil)))) (.node (o26v1 P) (.node (o42v1 P) (.node (o74v1 P) (.node (o138v1 P) (.node (o266v1 P) .nil .nil) .nil) (.node (o202v1 P) (.node (o330v1 P) .nil .nil) .nil)) (.node (o106v1 P) (.node (o170v1 P) (.node (o298v1 P) .nil .nil) .nil) (.node (o234v1 P) .nil .nil))) (.node (o58v1 P) (.node (o90v1 P) (.node (o154v1 P) (.node (o282v1 P) .nil .nil) .nil) (.node (o218v1 P) .nil .nil)) (.node (o122v1 P) (.node (o186v1 P) (.node (o314v1 P) .nil .nil) .nil) (.node (o250v1 P) .nil .nil))))) (.node (o14 P) (.node (o22v1 P) (.node (o38v1 P) (.node (o70v1 P) (.node (o134v1 P) (.node (o262v1 P) .nil .nil) .nil) (.node (o198v1 P) (.node (o326v1 P) .nil .nil) .nil)) (.node (o102v1 P) (.node (o166v1 P) (.node (o294v1 P) .nil .nil) .nil) (.node (o230v1 P) .nil .nil))) (.node (o54v1 P) (.node (o86v1 P) (.node (o150v1 P) (.node (o278v1 P) .nil .nil) .nil) (.node (o214v1 P) .nil .nil)) (.node (o118v1 P) (.node (o182v1 P) (.node (o310v1 P) .nil .nil) .nil) (.node (o246v1 P) .nil .nil)))) (.node (o30v1 P) (.node (o46v1 P) (.node (o78v1 P) (.node (o142v1 P) (.node (o270v1 P) .nil .nil) .nil) (.node (o206v1 P) (.node (o334v1 P) .nil .nil) .nil)) (.node (o110v1 P) (.node (o174v1 P) (.node (o302v1 P) .nil .nil) .nil) (.node (o238v1 P) .nil .nil))) (.node (o62v1 P) (.node (o94v1 P) (.node (o158v1 P) (.node (o286v1 P) .nil .nil) .nil) (.node (o222v1 P) .nil .nil)) (.node (o126v1 P) (.node (o190v1 P) (.node (o318v1 P) .nil .nil) .nil) (.node (o254v1 P) .nil .nil)))))))
def S1 : World → OsState → SharedT := My.endS T1 339 {} (Array.mk []) {} 615
def T2 (P : Params) : BT := .node (o0 P) (.node (o1 P) (.node (o3v2 P) (.node (o7 P) (.node (o15v1 P) (.node (o31v2 P) (.node (o63v1 P) (.node (o127v1 P) (.node (o255v1 P) (.node (o511v2 P) .nil .nil) .nil) (.node (o383v2 P) (.node (o639v2 P) .nil .nil) .nil)) (.node (o191v1 P) (.node (o319v1 P) (.node (o575v2 P) .nil .nil) .nil) (.node (o447v2 P) .nil .nil))) (.node (o95v1 P) (.node (o159v1 P) (.node (o287v1 P) (.node (o543v2 P) .nil .nil) .nil) (.node (o415v2 P) .nil .nil)) (.node (o223v1 P) (.node (o351v2 P) (.node (o607v2 P) .nil .nil) .nil) (.node (o479v2 P) .nil .nil)))) (.node (o47v1 P) (.node (o79v1 P) (.node (o143v1 P) (.node (o271v1 P) (.node (o527v2 P) .nil .nil) .nil) (.node (o399v2 P) (.node (o655v2 P) .nil .nil) .nil)) (.node (o207v1 P) (.node (o335v1 P) (.node (o591v2 P) .nil .nil) .nil) (.node (o463v2 P) .nil .nil))) (.node (o111v1 P) (.node (o175v1 P) (.node (o303v1 P) (.node (o559v2 P) .nil .nil) .nil) (.node (o431v2 P) .nil .nil)) (.node (o239v1 P) (.node (o367v2 P) (.node (o623v2 P) .nil .nil) .nil) (.node (o495v2 P) .nil .nil))))) (.node (o23v1 P) (.node (o39v1 P) (.node (o71v1 P) (.node (o135v1 P) (.node (o263v1 P) (.node (o519v2 P) .nil .nil) .nil) (.node (o391v2 P) (.node (o647v2 P) .nil .nil) .nil)) (.node (o199v1 P) (.node (o327v1 P) (.node (o583v2 P) .nil .nil) .nil) (.node (o455v2 P) .nil .nil))) (.node (o103v1 P) (.node (o167v1 P) (.node (o295v1 P) (.node (o551v2 P) .nil .nil) .nil) (.node (o423v2 P) .nil .nil)) (.node (o231v1 P) (.node (o359v2 P) (.node (o615v2 P) .nil .nil) .nil) (.node (o487v2 P) .nil .nil)))) (.node (o55v1 P) (.node (o87v1 P) (.node (o151v1 P) (.node (o279v1 P) (.node (o535v2 P) .nil .nil) .nil) (.node (o407v2 P) .nil .nil)) (.node (o215v1 P) (.node (o343v2 P) (.node (o599v2 P) .nil .nil) .nil) (.node (o471v2 P) .nil .nil))) (.node (o119v1 P) (.node (o183v1 P) (.node (o311v1 P) (.node (o567v2 P) .nil .nil) .nil) (.node (o439v2 P) .nil .nil)) (.node (o247v1 P) (.node (o375v2 P) (.node (o631v2 P) .nil .nil) .nil) (.node (o503v2 P) .nil .nil)))))) (.node (o11 P) (.node (o19v1 P) (.node (o35v1 P) (.node (o67v1 P) (.node (o131v1 P) (.node (o259v1 P) (.node (o515v2 P) .nil .nil) .nil) (.node (o387v2 P) (.node (o643v2 P) .nil .nil) .nil)) (.node (o195v1 P) (.node (o323v1 P) (.node (o579v2 P) .nil .nil) .nil) (.node (o451v2 P) .nil .nil))) (.node (o99v1 P) (.node (o163v1 P) (.node (o291v1 P) (.node (o547v2 P) .nil .nil) .nil) (.node (o419v2 P) .nil .nil)) (.node (o227v1 P) (.node (o355v2 P) (.node (o611v2 P) .nil .nil) .nil) (.node (o483v2 P) .nil .nil)))) (.node (o51v1 P) (.node (o83v1 P) (.node (o147v1 P) (.node (o275v1 P) (.node (o531v2 P) .nil .nil) .nil) (.node (o403v2 P) (.node (o659v2 P) .nil .nil) .nil)) (.node (o211v1 P) (.node (o339v2 P) (.node (o595v2 P) .nil .nil) .nil) (.node (o467v2 P) .nil .nil))) (.node (o115v1 P) (.node (o179v1 P) (.node (o307v1 P) (.node (o563v2 P) .nil .nil) .nil) (.node (o435v2 P) .nil .nil)) (.node (o243v1 P) (.node (o371v2 P) (.node (o627v2 P) .nil .nil) .nil) (.node (o499v2 P) .nil .nil))))) (.node (o27v1 P) (.node (o43v1 P) (.node (o75v1 P) (.node (o139v1 P) (.node (o267v1 P) (.node (o523v2 P) .nil .nil) .nil) (.node (o395v2 P) (.node (o651v2 P) .nil .nil) .nil)) (.node (o203v1 P) (.node (o331v1 P) (.node (o587v2 P) .nil .nil) .nil) (.node (o459v2 P) .nil .nil))) (.node (o107v1 P) (.node (o171v1 P) (.node (o299v1 P) (.node (o555v2 P) .nil .nil) .nil) (.node (o427v2 P) .nil .nil)) (.node (o235v1 P) (.node (o363v2 P) (.node (o619v2 P) .nil .nil) .nil) (.node (o491v2 P) .nil .nil)))) (.node (o59v1 P) (.node (o91v1 P) (.node (o155v1 P) (.node (o283v1 P) (.node (o539v2 P) .nil .nil) .nil) (.node (o411v2 P) .nil .nil)) (.node (o219v1 P) (.node (o347v2 P) (.node (o603v2 P) .nil .nil) .nil) (.node (o475v2 P) .nil .nil))) (.node (o123v1 P) (.node (o187v1 P) (.node (o315v1 P) (.node (o571v2 P) .nil .nil) .nil) (.node (o443v2 P) .nil .nil)) (.node (o251v1 P) (.node (o379v2 P) (.node (o635v2 P) .nil .nil) .nil) (.node (o507v2 P) .nil .nil))))))) (.node (o5 P) (.node (o9 P) (.node (o17v1 P) (.node (o33v1 P) (.node (o65v1 P) (.node (o129v1 P) (.node (o257v1 P) (.node (o513v2 P) .nil .nil) .nil) (.node (o385v2 P) (.node (o641v2 P) .nil .nil) .nil)) (.node (o193v1 P) (.node (o321v1 P) (.node (o577v2 P) .nil .nil) .nil) (.node (o449v2 P) .nil .nil))) (.node (o97v1 P) (.node (o161v1 P) (.node (o289v1 P) (.node (o545v2 P) .nil .nil) .nil) (.node (o417v2 P) .nil .nil)) (.node (o225v1 P) (.node (o353v2 P) (.node (o609v2 P) .nil .nil) .nil) (.node (o481v2 P) .nil .nil)))) (.node (o49v1 P) (.node (o81v1 P) (.node (o145v1 P) (.node (o273v1 P) (.node (o529v2 P) .nil .nil) .nil) (.node (o401v2 P) (.node (o657v2 P) .nil .nil) .nil)) (.node (o209v1 P) (.node (o337v1 P) (.node (o593v2 P) .nil .nil) .nil) (.node (o465v2 P) .nil .nil))) (.node (o113v1 P) (.node (o177v1 P) (.node (o305v1 P) (.node (o561v2 P) .nil .nil) .nil) (.node (o433v2 P) .nil .nil)) (.node (o241v1 P) (.node (o369v2 P) (.node (o625v2 P) .nil .nil) .nil) (.node (o497v2 P) .nil .nil))))) (.node (o25v1 P) (.node (o41v1 P) (.node (o73v1 P) (.node (o137v1 P) (.node (o265v1 P) (.node (o521v2 P) .nil .nil) .nil) (.node (o393v2 P) (.node (o649v2 P) .nil .nil) .nil)) (.node (o201v1 P) (.node (o329v1 P) (.node (o585v2 P) .nil .nil) .nil) (.node (o457v2 P) .nil .nil))) (.node (o105v1 P) (.node (o169v1 P) (.node (o297v1 P) (.node (o553v2 P) .nil .nil) .nil) (.node (o425v2 P) .nil .nil)) (.node (o233v1 P) (.node (o361v2 P) (.node (o617v2 P) .nil .nil) .nil) (.node (o489v2 P) .nil .nil)))) (.node (o57v1 P) (.node (o89v1 P) (.node (o153v1 P) (.node (o281v1 P) (.node (o537v2 P) .nil .nil) .nil) (.node (o409v2 P) .nil .nil)) (.node (o217v1 P) (.node (o345v2 P) (.node (o601v2 P) .nil .nil) .nil) (.node (o473v2 P) .nil .nil))) (.node (o121v1 P) (.node (o185v1 P) (.node (o313v1 P) (.node (o569v2 P) .nil .nil) .nil) (.node (o441v2 P) .nil .nil)) (.node (o249v1 P) (.node (o377v2 P) (.node (o633v2 P) .nil .nil) .nil) (.node (o505v2 P) .nil .nil)))))) (.node (o13 P) (.node (o21v1 P) (.node (o37v1 P) (.node (o69v1 P) (.node (o133v1 P) (.node (o261v1 P) (.node (o517v2 P) .nil .nil) .nil) (.node (o389v2 P) (.node (o645v2 P) .nil .nil) .nil)) (.node (o197v1 P) (.node (o325v1 P) (.node (o581v2 P) .nil .nil) .nil) (.node (o453v2 P) .nil .nil))) (.node (o101v1 P) (.node (o165v1 P) (.node (o293v1 P) (.node (o549v2 P) .nil .nil) .nil) (.node (o421v2 P) .nil .nil)) (.node (o229v1 P) (.node (o357v2 P) (.node (o613v2 P) .nil .nil) .nil) (.node (o485v2 P) .nil .nil)))) (.node (o53v1 P) (.node (o85v1 P) (.node (o149v1 P) (.node (o277v1 P) (.node (o533v2 P) .nil .nil) .nil) (.node (o405v2 P) (.node (o661v2 P) .nil .nil) .nil)) (.node (o213v1 P) (.node (o341v2 P) (.node (o597v2 P) .nil .nil) .nil) (.node (o469v2 P) .nil .nil))) (.node (o117v1 P) (.node (o181v1 P) (.node (o309v1 P) (.node (o565v2 P) .nil .nil) .nil) (.node (o437v2 P) .nil .nil)) (.node (o245v1 P) (.node (o373v2 P) (.node (o629v2 P) .nil .nil) .nil) (.node (o501v2 P) .nil .nil))))) (.node (o29v1 P) (.node (o45v1 P) (.node (o77v1 P) (.node (o141v1 P) (.node (o269v1 P) (.node (o525v2 P) .nil .nil) .nil) (.node (o397v2 P) (.node (o653v2 P) .nil .nil) .nil)) (.node (o205v1 P) (.node (o333v1 P) (.node (o589v2 P) .nil .nil) .nil) (.node (o461v2 P) .nil .nil))) (.node (o109v1 P) (.node (o173v1 P) (.node (o301v1 P) (.node (o557v2 P) .nil .nil) .nil) (.node (o429v2 P) .nil .nil)) (.node (o237v1 P) (.node (o365v2 P) (.node (o621v2 P) .nil .nil) .nil) (.node (o493v2 P) .nil .nil)))) (.node (o61v1 P) (.node (o93v1 P) (.node (o157v1 P) (.node (o285v1 P) (.node (o541v2 P) .nil .nil) .nil) (.node (o413v2 P) .nil .nil)) (.node (o221v1 P) (.node (o349v2 P) (.node (o605v2 P) .nil .nil) .nil) (.node (o477v2 P) .nil .nil))) (.node (o125v1 P) (.node (o189v1 P) (.node (o317v1 P) (.node (o573v2 P) .nil .nil) .nil) (.node (o445v2 P) .nil .nil)) (.node (o253v1 P) (.node (o381v2 P) (.node (o637v2 P) .nil .nil) .nil) (.node (o509v2 P) .nil .nil)))))))) (.node (o2 P) (.node (o4 P) (.node (o8 P) (.node (o16v1 P) (.node (o32v1 P) (.node (o64v1 P) (.node (o128v1 P) (.node (o256v1 P) (.node (o512v2 P) .nil .nil) .nil) (.node (o384v2 P) (.node (o640v2 P) .nil .nil) .nil)) (.node (o192v1 P) (.node (o320v1 P) (.node (o576v2 P) .nil .nil) .nil) (.node (o448v2 P) .nil .nil))) (.node (o96v1 P) (.node (o160v1 P) (.node (o288v1 P) (.node (o544v2 P) .nil .nil) .nil) (.node (o416v2 P) .nil .nil)) (.node (o224v1 P) (.node (o352v2 P) (.node (o608v2 P) .nil .nil) .nil) (.node (o480v2 P) .nil .nil)))) (.node (o48v1 P) (.node (o80v1 P) (.node (o144v1 P) (.node (o272v1 P) (.node (o528v2 P) .nil .nil) .nil) (.node (o400v2 P) (.node (o656v2 P) .nil .nil) .nil)) (.node (o208v1 P) (.node (o336v1 P) (.node (o592v2 P) .nil .nil) .nil) (.node (o464v2 P) .nil .nil))) (.node (o112v1 P) (.node (o176v1 P) (.node (o304v1 P) (.node (o560v2 P) .nil .nil) .nil) (.node (o432v2 P) .nil .nil)) (.node (o240v1 P) (.node (o368v2 P) (.node (o624v2 P) .nil .nil) .nil) (.node (o496v2 P) .nil .nil))))) (.node (o24v1 P) (.node (o40v1 P) (.node (o72v1 P) (.node (o136v1 P) (.node (o264v1 P) (.node (o520v2 P) .nil .nil) .nil) (.node (o392v2 P) (.node (o648v2 P) .nil .nil) .nil)) (.node (o200v1 P) (.node (o328v1 P) (.node (o584v2 P) .nil .nil) .nil) (.node (o456v2 P) .nil .nil))) (.node (o104v1 P) (.node (o168v1 P) (.node (o296v1 P) (.node (o552v2 P) .nil .nil) .nil) (.node (o424v2 P) .nil .nil)) (.node (o232v1 P) (.node (o360v2 P) (.node (o616v2 P) .nil .nil) .nil) (.node (o488v2 P) .nil .nil)))) (.node (o56v1 P) (.node (o88v1 P) (.node (o152v1 P) (.node (o280v1 P) (.node (o536v2 P) .nil .nil) .nil) (.node (o408v2 P) .nil .nil)) (.node (o216v1 P) (.node (o344v2 P) (.node (o600v2 P) .nil .nil) .nil) (.node (o472v2 P) .nil .nil))) (.node (o120v1 P) (.node (o184v1 P) (.node (o312v1 P) (.node (o568v2 P) .nil .nil) .nil) (.node (o440v2 P) .nil .nil)) (.node (o248v1 P) (.node (o376v2 P) (.node (o632v2 P) .nil .nil) .nil) (.node (o504v2 P) .nil .nil)))))) (.node (o12v2 P) (.node (o20v1 P) (.node (o36v1 P) (.node (o68v1 P) (.node (o132v1 P) (.node (o260v1 P) (.node (o516v2 P) .nil .nil) .nil) (.node (o388v2 P) (.node (o644v2 P) .nil .nil) .nil)) (.node (o196v1 P) (.node (o324v1 P) (.node (o580v2 P) .nil .nil) .nil) (.node (o452v2 P) .nil .nil))) (.node (o100v1 P) (.node (o164v1 P) (.node (o292v1 P) (.node (o548v2 P) .nil .nil) .nil) (.node (o420v2 P) .nil .nil)) (.node (o228v1 P) (.node (o356v2 P) (.node (o612v2 P) .nil .nil) .nil) (.node (o484v2 P) .nil .nil)))) (.node (o52v1 P) (.node (o84v1 P) (.node (o148v1 P) (.node (o276v1 P) (.node (o532v2 P) .nil .nil) .nil) (.node (o404v2 P) (.node (o660v2 P) .nil .nil) .nil)) (.node (o212v1 P) (.node (o340v2 P) (.node (o596v2 P) .nil .nil) .nil) (.node (o468v2 P) .nil .nil))) (.node (o116v1 P) (.node (o180v1 P) (.node (o308v1 P) (.node (o564v2 P) .nil .nil) .nil) (.node (o436v2 P) .nil .nil)) (.node (o244v1 P) (.node (o372v2 P) (.node (o628v2 P) .nil .nil) .nil) (.node (o500v2 P) .nil .nil))))) (.node (o28v1 P) (.node (o44v1 P) (.node (o76v1 P) (.node (o140v1 P) (.node (o268v1 P) (.node (o524v2 P) .nil .nil) .nil) (.node (o396v2 P) (.node (o652v2 P) .nil .nil) .nil)) (.node (o204v1 P) (.node (o332v1 P) (.node (o588v2 P) .nil .nil) .nil) (.node (o460v2 P) .nil .nil))) (.node (o108v1 P) (.node (o172v1 P) (.node (o300v1 P) (.node (o556v2 P) .nil .nil) .nil) (.node (o428v2 P) .nil .nil)) (.node (o236v1 P) (.node (o364v2 P) (.node (o620v2 P) .nil .nil) .nil) (.node (o492v2 P) .nil .nil)))) (.node (o60v1 P) (.node (o92v1 P) (.node (o156v1 P) (.node (o284v1 P) (.node (o540v2 P) .nil .nil) .nil) (.node (o412v2 P) .nil .nil)) (.node (o220v1 P) (.node (o348v2 P) (.node (o604v2 P) .nil .nil) .nil) (.node (o476v2 P) .nil .nil))) (.node (o124v1 P) (.node (o188v1 P) (.node (o316v1 P) (.node (o572v2 P) .nil .nil) .nil) (.node (o444v2 P) .nil .nil)) (.node (o252v1 P) (.node (o380v2 P) (.node (o636v2 P) .nil .nil) .nil) (.node (o508v2 P) .nil .nil))))))) (.node (o6 P) (.node (o10 P) (.node (o18v1 P) (.node (o34v1 P) (.node (o66v1 P) (.node (o130v1 P) (.node (o258v1 P) (.node (o514v2 P) .nil .nil) .nil) (.node (o386v2 P) (.node (o642v2 P) .nil .nil) .nil)) (.node (o194v1 P) (.node (o322v1 P) (.node (o578v2 P) .nil .nil) .nil) (.node (o450v2 P) .nil .nil))) (.node (o98v1 P) (.node (o162v1 P) (.node (o290v1 P) (.node (o546v2 P) .nil .nil) .nil) (.node (o418v2 P) .nil .nil)) (.node (o226v1 P) (.node (o354v2 P) (.node (o610v2 P) .nil .nil) .nil) (.node (o482v2 P) .nil .nil)))) (.node (o50v1 P) (.node (o82v1 P) (.node (o146v1 P) (.node (o274v1 P) (.node (o530v2 P) .nil .nil) .nil) (.node (o402v2 P) (.node (o658v2 P) .nil .nil) .nil)) (.node (o210v1 P) (.node (o338v1 P) (.node (o594v2 P) .nil .nil) .nil) (.node (o466v2 P) .nil .nil))) (.node (o114v1 P) (.node (o178v1 P) (.node (o306v1 P) (.node (o562v2 P) .nil .nil) .nil) (.node (o434v2 P) .nil .nil)) (.node (o242v1 P) (.node (o370v2 P) (.node (o626v2 P) .nil .nil) .nil) (.node (o498v2 P) .nil .nil))))) (.node (o26v1 P) (.node (o42v1 P) (.node (o74v1 P) (.node (o138v1 P) (.node (o266v1 P) (.node (o522v2 P) .nil .nil) .nil) (.node (o394v2 P) (.node (o650v2 P) .nil .nil) .nil)) (.node (o202v1 P) (.node (o330v1 P) (.node (o586v2 P) .nil .nil) .nil) (.node (o458v2 P) .nil .nil))) (.node (o106v1 P) (.node (o170v1 P) (.node (o298v1 P) (.node (o554v2 P) .nil .nil) .nil) (.node (o426v2 P) .nil .nil)) (.node (o234v1 P) (.node (o362v2 P) (.node (o618v2 P) .nil .nil) .nil) (.node (o490v2 P) .nil .nil)))) (.node (o58v1 P) (.node (o90v1 P) (.node (o154v1 P) (.node (o282v1 P) (.node (o538v2 P) .nil .nil) .nil) (.node (o410v2 P) .nil .nil)) (.node (o218v1 P) (.node (o346v2 P) (.node (o602v2 P) .nil .nil) .nil) (.node (o474v2 P) .nil .nil))) (.node (o122v1 P) (.node (o186v1 P) (.node (o314v1 P) (.node (o570v2 P) .nil .nil) .nil) (.node (o442v2 P) .nil .nil)) (.node (o250v1 P) (.node (o378v2 P) (.node (o634v2 P) .nil .nil) .nil) (.node (o506v2 P) .nil .nil)))))) (.node (o14 P) (.node (o22v1 P) (.node (o38v1 P) (.node (o70v1 P) (.node (o134v1 P) (.node (o262v1 P) (.node (o518v2 P) .nil .nil) .nil) (.node (o390v2 P) (.node (o646v2 P) .nil .nil) .nil)) (.node (o198v1 P) (.node (o326v1 P) (.node (o582v2 P) .nil .nil) .nil) (.node (o454v2 P) .nil .nil))) (.node (o102v1 P) (.node (o166v1 P) (.node (o294v1 P) (.node (o550v2 P) .nil .nil) .nil) (.node (o422v2 P) .nil .nil)) (.node (o230v1 P) (.node (o358v2 P) (.node (o614v2 P) .nil .nil) .nil) (.node (o486v2 P) .nil .nil)))) (.node (o54v1 P) (.node (o86v1 P) (.node (o150v1 P) (.node (o278v1 P) (.node (o534v2 P) .nil .nil) .nil) (.node (o406v2 P) .nil .nil)) (.node (o214v1 P) (.node (o342v2 P) (.node (o598v2 P) .nil .nil) .nil) (.node (o470v2 P) .nil .nil))) (.node (o118v1 P) (.node (o182v1 P) (.node (o310v1 P) (.node (o566v2 P) .nil .nil) .nil) (.node (o438v2 P) .nil .nil)) (.node (o246v1 P) (.node (o374v2 P) (.node (o630v2 P) .nil .nil) .nil) (.node (o502v2 P) .nil .nil))))) (.node (o30v1 P) (.node (o46v1 P) (.node (o78v1 P) (.node (o142v1 P) (.node (o270v1 P) (.node (o526v2 P) .nil .nil) .nil) (.node (o398v2 P) (.node (o654v2 P) .nil .nil) .nil)) (.node (o206v1 P) (.node (o334v1 P) (.node (o590v2 P) .nil .nil) .nil) (.node (o462v2 P) .nil .nil))) (.node (o110v1 P) (.node (o174v1 P) (.node (o302v1 P) (.node (o558v2 P) .nil .nil) .nil) (.node (o430v2 P) .nil .nil)) (.node (o238v1 P) (.node (o366v2 P) (.node (o622v2 P) .nil .nil) .nil) (.node (o494v2 P) .nil .nil)))) (.node (o62v1 P) (.node (o94v1 P) (.node (o158v1 P) (.node (o286v1 P) (.node (o542v2 P) .nil .nil) .nil) (.node (o414v2 P) .nil .nil)) (.node (o222v1 P) (.node (o350v2 P) (.node (o606v2 P) .nil .nil) .nil) (.node (o478v2 P) .nil .nil))) (.node (o126v1 P) (.node (o190v1 P) (.node (o318v1 P) (.node (o574v2 P) .nil .nil) .nil) (.node (o446v2 P) .nil .nil)) (.node (o254v1 P) (.node (o382v2 P) (.node (o638v2 P) .nil .nil) .nil) (.node (o510v2 P) .nil .nil))))))))
def S2 : World → OsState → SharedT := My.endS T2 662 {} (Array.mk []) {} 1040
def T3 (P : Params) : BT := .node (o0 P) (.node (o1 P) (.node (o3v3 P) (.node (o7 P) (.node (o15v1 P) (.node (o31v3 P) (.node (o63v1 P) (.node (o127v1 P) (.node (o255v1 P) (.node (o511v2 P) .nil .nil) (.node (o767v3 P) .nil .nil)) (.node (o383v2 P) (.node (o639v2 P) .nil .nil) (.node (o895v3 P) .nil .nil))) (.node (o191v1 P) (.node (o319v1 P) (.node (o575v2 P) .nil .nil) (.node (o831v3 P) .nil .nil)) (.node (o447v2 P) (.node (o703v3 P) .nil .nil) (.node (o959v3 P) .nil .nil)))) (.node (o95v1 P) (.node (o159v1 P) (.node (o287v1 P) (.node (o543v2 P) .nil .nil) (.node (o799v3 P) .nil .nil)) (.node (o415v2 P) (.node (o671v3 P) .nil .nil) (.node (o927v3 P) .nil .nil))) (.node (o223v1 P) (.node (o351v2 P) (.node (o607v2 P) .nil .nil) (.node (o863v3 P) .nil .nil)) (.node (o479v2 P) (.node (o735v3 P) .nil .nil) .nil)))) (.node (o47v1 P) (.node (o79v1 P) (.node (o143v1 P) (.node (o271v1 P) (.node (o527v2 P) .nil .nil) (.node (o783v3 P) .nil .nil)) (.node (o399v2 P) (.node (o655v2 P) .nil .nil) (.node (o911v3 P) .nil .nil))) (.node (o207v1 P) (.node (o335v1 P) (.node (o591v2 P) .nil .nil) (.node (o847v3 P) .nil .nil)) (.node (o463v2 P) (.node (o719v3 P) .nil .nil) (.node (o975v3 P) .nil .nil)))) (.node (o111v1 P) (.node (o175v1 P) (.node (o303v1 P) (.node (o559v2 P) .nil .nil) (.node (o815v3 P) .nil .nil)) (.node (o431v2 P) (.node (o687v3 P) .nil .nil) (.node (o943v3 P) .nil .nil))) (.node (o239v1 P) (.node (o367v2 P) (.node (o623v2 P) .nil .nil) (.node (o879v3 P) .nil .nil)) (.node (o495v2 P) (.node (o751v3 P) .nil .nil) .nil))))) (.node (o23v1 P) (.node (o39v1 P) (.node (o71v1 P) (.node (o135v1 P) (.node (o263v1 P) (.node (o519v2 P) .nil .nil) (.node (o775v3 P) .nil .nil)) (.node (o391v2 P) (.node (o647v2 P) .nil .nil) (.node (o903v3 P) .nil .nil))) (.node (o199v1 P) (.node (o327v1 P) (.node (o583v2 P) .nil .nil) (.node (o839v3 P) .nil .nil)) (.node (o455v2 P) (.node (o711v3 P) .nil .nil) (.node (o967v3 P) .nil .nil)))) (.node (o103v1 P) (.node (o167v1 P) (.node (o295v1 P) (.node (o551v2 P) .nil .nil) (.node (o807v3 P) .nil .nil)) (.node (o423v2 P) (.node (o679v3 P) .nil .nil) (.node (o935v3 P) .nil .nil))) (.node (o231v1 P) (.node (o359v2 P) (.node (o615v2 P) .nil .nil) (.node (o871v3 P) .nil .nil)) (.node (o487v2 P) (.node (o743v3 P) .nil .nil) .nil)))) (.node (o55v1 P) (.node (o87v1 P) (.node (o151v1 P) (.node (o279v1 P) (.node (o535v2 P) .nil .nil) (.node (o791v3 P) .nil .nil)) (.node (o407v2 P) (.node (o663v3 P) .nil .nil) (.node (o919v3 P) .nil .nil))) (.node (o215v1 P) (.node (o343v2 P) (.node (o599v2 P) .nil .nil) (.node (o855v3 P) .nil .nil)) (.node (o471v2 P) (.node (o727v3 P) .nil .nil) (.node (o983v3 P) .nil .nil)))) (.node (o119v1 P) (.node (o183v1 P) (.node (o311v1 P) (.node (o567v2 P) .nil .nil) (.node (o823v3 P) .nil .nil)) (.node (o439v2 P) (.node (o695v3 P) .nil .nil) (.node (o951v3 P) .nil .nil))) (.node (o247v1 P) (.node (o375v2 P) (.node (o631v2 P) .nil .nil) (.node (o887v3 P) .nil .nil)) (.node (o503v2 P) (.node (o759v3 P) .nil .nil) .nil)))))) (.node (o11 P) (.node (o19v1 P) (.node (o35v1 P) (.node (o67v1 P) (.node (o131v1 P) (.node (o259v1 P) (.node (o515v2 P) .nil .nil) (.node (o771v3 P) .nil .nil)) (.node (o387v2 P) (.node (o643v2 P) .nil .nil) (.node (o899v3 P) .nil .nil))) (.node (o195v1 P) (.node (o323v1 P) (.node (o579v2 P) .nil .nil) (.node (o835v3 P) .nil .nil)) (.node (o451v2 P) (.node (o707v3 P) .nil .nil) (.node (o963v3 P) .nil .nil)))) (.node (o99v1 P) (.node (o163v1 P) (.node (o291v1 P) (.node (o547v2 P) .nil .nil) (.node (o803v3 P) .nil .nil)) (.node (o419v2 P) (.node (o675v3 P) .nil .nil) (.node (o931v3 P) .nil .nil))) (.node (o227v1 P) (.node (o355v2 P) (.node (o611v2 P) .nil .nil) (.node (o867v3 P) .nil .nil)) (.node (o483v2 P) (.node (o739v3 P) .nil .nil) .nil)))) (.node (o51v1 P) (.node (o83v1 P) (.node (o147v1 P) (.node (o275v1 P) (.node (o531v2 P) .nil .nil) (.node (o787v3 P) .nil .nil)) (.node (o403v2 P) (.node (o659v2 P) .nil .nil) (.node (o915v3 P) .nil .nil))) (.node (o211v1 P) (.node (o339v2 P) (.node (o595v2 P) .nil .nil) (.node (o851v3 P) .nil .nil)) (.node (o467v2 P) (.node (o723v3 P) .nil .nil) (.node (o979v3 P) .nil .nil)))) (.node (o115v1 P) (.node (o179v1 P) (.node (o307v1 P) (.node (o563v2 P) .nil .nil) (.node (o819v3 P) .nil .nil)) (.node (o435v2 P) (.node (o691v3 P) .nil .nil) (.node (o947v3 P) .nil .nil))) (.node (o243v1 P) (.node (o371v2 P) (.node (o627v2 P) .nil .nil) (.node (o883v3 P) .nil .nil)) (.node (o499v2 P) (.node (o755v3 P) .nil .nil) .nil))))) (.node (o27v1 P) (.node (o43v1 P) (.node (o75v1 P) (.node (o139v1 P) (.node (o267v1 P) (.node (o523v2 P) .nil .nil) (.node (o779v3 P) .nil .nil)) (.node (o395v2 P) (.node (o651v2 P) .nil .nil) (.node (o907v3 P) .nil .nil))) (.node (o203v1 P) (.node (o331v1 P) (.node (o587v2 P) .nil .nil) (.node (o843v3 P) .nil .nil)) (.node (o459v2 P) (.node (o715v3 P) .nil .nil) (.node (o971v3 P) .nil .nil)))) (.node (o107v1 P) (.node (o171v1 P) (.node (o299v1 P) (.node (o555v2 P) .nil .nil) (.node (o811v3 P) .nil .nil)) (.node (o427v2 P) (.node (o683v3 P) .nil .nil) (.node (o939v3 P) .nil .nil))) (.node (o235v1 P) (.node (o363v2 P) (.node (o619v2 P) .nil .nil) (.node (o875v3 P) .nil .nil)) (.node (o491v2 P) (.node (o747v3 P) .nil .nil) .nil)))) (.node (o59v1 P) (.node (o91v1 P) (.node (o155v1 P) (.node (o283v1 P) (.node (o539v2 P) .nil .nil) (.node (o795v3 P) .nil .nil)) (.node (o411v2 P) (.node (o667v3 P) .nil .nil) (.node (o923v3 P) .nil .nil))) (.node (o219v1 P) (.node (o347v2 P) (.node (o603v2 P) .nil .nil) (.node (o859v3 P) .nil .nil)) (.node (o475v2 P) (.node (o731v3 P) .nil .nil) .nil))) (.node (o123v1 P) (.node (o187v1 P) (.node (o315v1 P) (.node (o571v2 P) .nil .nil) (.node (o827v3 P) .nil .nil)) (.node (o443v2 P) (.node (o699v3 P) .nil .nil) (.node (o955v3 P) .nil .nil))) (.node (o251v1 P) (.node (o379v2 P) (.node (o635v2 P) .nil .nil) (.node (o891v3 P) .nil .nil)) (.node (o507v2 P) (.node (o763v3 P) .nil .nil) .nil))))))) (.node (o5 P) (.node (o9 P) (.node (o17v1 P) (.node (o33v1 P) (.node (o65v1 P) (.node (o129v1 P) (.node (o257v1 P) (.node (o513v2 P) .nil .nil) (.node (o769v3 P) .nil .nil)) (.node (o385v2 P) (.node (o641v2 P) .nil .nil) (.node (o897v3 P) .nil .nil))) (.node (o193v1 P) (.node (o321v1 P) (.node (o577v2 P) .nil .nil) (.node (o833v3 P) .nil .nil)) (.node (o449v2 P) (.node (o705v3 P) .nil .nil) (.node (o961v3 P) .nil .nil)))) (.node (o97v1 P) (.node (o161v1 P) (.node (o289v1 P) (.node (o545v2 P) .nil .nil) (.node (o801v3 P) .nil .nil)) (.node (o417v2 P) (.node (o673v3 P) .nil .nil) (.node (o929v3 P) .nil .nil))) (.node (o225v1 P) (.node (o353v2 P) (.node (o609v2 P) .nil .nil) (.node (o865v3 P) .nil .nil)) (.node (o481v2 P) (.node (o737v3 P) .nil .nil) .nil)))) (.node (o49v1 P) (.node (o81v1 P) (.node (o145v1 P) (.node (o273v1 P) (.node (o529v2 P) .nil .nil) (.node (o785v3 P) .nil .nil)) (.node (o401v2 P) (.node (o657v2 P) .nil .nil) (.node (o913v3 P) .nil .nil))) (.node (o209v1 P) (.node (o337v1 P) (.node (o593v2 P) .nil .nil) (.node (o849v3 P) .nil .nil)) (.node (o465v2 P) (.node (o721v3 P) .nil .nil) (.node (o977v3 P) .nil .nil)))) (.node (o113v1 P) (.node (o177v1 P) (.node (o305v1 P) (.node (o561v2 P) .nil .nil) (.node (o817v3 P) .nil .nil)) (.node (o433v2 P) (.node (o689v3 P) .nil .nil) (.node (o945v3 P) .nil .nil))) (.node (o241v1 P) (.node (o369v2 P) (.node (o625v2 P) .nil .nil) (.node (o881v3 P) .nil .nil)) (.node (o497v2 P) (.node (o753v3 P) .nil .nil) .nil))))) (.node (o25v1 P) (.node (o41v1 P) (.node (o73v1 P) (.node (o137v1 P) (.node (o265v1 P) (.node (o521v2 P) .nil .nil) (.node (o777v3 P) .nil .nil)) (.node (o393v2 P) (.node (o649v2 P) .nil .nil) (.node (o905v3 P) .nil .nil))) (.node (o201v1 P) (.node (o329v1 P) (.node (o585v2 P) .nil .nil) (.node (o841v3 P) .nil .nil)) (.node (o457v2 P) (.node (o713v3 P) .nil .nil) (.node (o969v3 P) .nil .nil)))) (.node (o105v1 P) (.node (o169v1 P) (.node (o297v1 P) (.node (o553v2 P) .nil .nil) (.node (o809v3 P) .nil .nil)) (.node (o425v2 P) (.node (o681v3 P) .nil .nil) (.node (o937v3 P) .nil .nil))) (.node (o233v1 P) (.node (o361v2 P) (.node (o617v2 P) .nil .nil) (.node (o873v3 P) .nil .nil)) (.node (o489v2 P) (.node (o745v3 P) .nil .nil) .nil)))) (.node (o57v1 P) (.node (o89v1 P) (.node (o153v1 P) (.node (o281v1 P) (.node (o537v2 P) .nil .nil) (.node (o793v3 P) .nil .nil)) (.node (o409v2 P) (.node (o665v3 P) .nil .nil) (.node (o921v3 P) .nil .nil))) (.node (o217v1 P) (.node (o345v2 P) (.node (o601v2 P) .nil .nil) (.node (o857v3 P) .nil .nil)) (.node (o473v2 P) (.node (o729v3 P) .nil .nil) (.node (o985v3 P) .nil .nil)))) (.node (o121v1 P) (.node (o185v1 P) (.node (o313v1 P) (.node (o569v2 P) .nil .nil) (.node (o825v3 P) .nil .nil)) (.node (o441v2 P) (.node (o697v3 P) .nil .nil) (.node (o953v3 P) .nil .nil))) (.node (o249v1 P) (.node (o377v2 P) (.node (o633v2 P) .nil .nil) (.node (o889v3 P) .nil .nil)) (.node (o505v2 P) (.node (o761v3 P) .nil .nil) .nil)))))) (.node (o13 P) (.node (o21v1 P) (.node (o37v1 P) (.node (o69v1 P) (.node (o133v1 P) (.node (o261v1 P) (.node (o517v2 P) .nil .nil) (.node (o773v3 P) .nil .nil)) (.node (o389v2 P) (.node (o645v2 P) .nil .nil) (.node (o901v3 P) .nil .nil))) (.node (o197v1 P) (.node (o325v1 P) (.node (o581v2 P) .nil .nil) (.node (o837v3 P) .nil .nil)) (.node (o453v2 P) (.node (o709v3 P) .nil .nil) (.node (o965v3 P) .nil .nil)))) (.node (o101v1 P) (.node (o165v1 P) (.node (o293v1 P) (.node (o549v2 P) .nil .nil) (.node (o805v3 P) .nil .nil)) (.node (o421v2 P) (.node (o677v3 P) .nil .nil) (.node (o933v3 P) .nil .nil))) (.node (o229v1 P) (.node (o357v2 P) (.node (o613v2 P) .nil .nil) (.node (o869v3 P) .nil .nil)) (.node (o485v2 P) (.node (o741v3 P) .nil .nil) .nil)))) (.node (o53v1 P) (.node (o85v1 P) (.node (o149v1 P) (.node (o277v1 P) (.node (o533v2 P) .nil .nil) (.node (o789v3 P) .nil .nil)) (.node (o405v2 P) (.node (o661v2 P) .nil .nil) (.node (o917v3 P) .nil .nil))) (.node (o213v1 P) (.node (o341v2 P) (.node (o597v2 P) .nil .nil) (.node (o853v3 P) .nil .nil)) (.node (o469v2 P) (.node (o725v3 P) .nil .nil) (.node (o981v3 P) .nil .nil)))) (.node (o117v1 P) (.node (o181v1 P) (.node (o309v1 P) (.node (o565v2 P) .nil .nil) (.node (o821v3 P) .nil .nil)) (.node (o437v2 P) (.node (o693v3 P) .nil .nil) (.node (o949v3 P) .nil .nil))) (.node (o245v1 P) (.node (o373v2 P) (.node (o629v2 P) .nil .nil) (.node (o885v3 P) .nil .nil)) (.node (o501v2 P) (.node (o757v3 P) .nil .nil) .nil))))) (.node (o29v1 P) (.node (o45v1 P) (.node (o77v1 P) (.node (o141v1 P) (.node (o269v1 P) (.node (o525v2 P) .nil .nil) (.node (o781v3 P) .nil .nil)) (.node (o397v2 P) (.node (o653v2 P) .nil .nil) (.node (o909v3 P) .nil .nil))) (.node (o205v1 P) (.node (o333v1 P) (.node (o589v2 P) .nil .nil) (.node (o845v3 P) .nil .nil)) (.node (o461v2 P) (.node (o717v3 P) .nil .nil) (.node (o973v3 P) .nil .nil)))) (.node (o109v1 P) (.node (o173v1 P) (.node (o301v1 P) (.node (o557v2 P) .nil .nil) (.node (o813v3 P) .nil .nil)) (.node (o429v2 P) (.node (o685v3 P) .nil .nil) (.node (o941v3 P) .nil .nil))) (.node (o237v1 P) (.node (o365v2 P) (.node (o621v2 P) .nil .nil) (.node (o877v3 P) .nil .nil)) (.node (o493v2 P) (.node (o749v3 P) .nil .nil) .nil)))) (.node (o61v1 P) (.node (o93v1 P) (.node (o157v1 P) (.node (o285v1 P) (.node (o541v2 P) .nil .nil) (.node (o797v3 P) .nil .nil)) (.node (o413v2 P) (.node (o669v3 P) .nil .nil) (.node (o925v3 P) .nil .nil))) (.node (o221v1 P) (.node (o349v2 P) (.node (o605v2 P) .nil .nil) (.node (o861v3 P) .nil .nil)) (.node (o477v2 P) (.node (o733v3 P) .nil .nil) .nil))) (.node (o125v1 P) (.node (o189v1 P) (.node (o317v1 P) (.node (o573v2 P) .nil .nil) (.node (o829v3 P) .nil .nil)) (.node (o445v2 P) (.node (o701v3 P) .nil .nil) (.node (o957v3 P) .nil .nil))) (.node (o253v1 P) (.node (o381v2 P) (.node (o637v2 P) .nil .nil) (.node (o893v3 P) .nil .nil)) (.node (o509v2 P) (.node (o765v3 P) .nil .nil) .nil)))))))) (.node (o2 P) (.node (o4 P) (.node (o8 P) (.node (o16v1 P) (.node (o32v1 P) (.node (o64v1 P) (.node (o128v1 P) (.node (o256v1 P) (.node (o512v2 P) .nil .nil) (.node (o768v3 P) .nil .nil)) (.node (o384v2 P) (.node (o640v2 P) .nil .nil) (.node (o896v3 P) .nil .nil))) (.node (o192v1 P) (.node (o320v1 P) (.node (o576v2 P) .nil .nil) (.node (o832v3 P) .nil .nil)) (.node (o448v2 P) (.node (o704v3 P) .nil .nil) (.node (o960v3 P) .nil .nil)))) (.node (o96v1 P) (.node (o160v1 P) (.node (o288v1 P) (.node (o544v2 P) .nil .nil) (.node (o800v3 P) .nil .nil)) (.node (o416v2 P) (.node (o672v3 P) .nil .nil) (.node (o928v3 P) .nil .nil))) (.node (o224v1 P) (.node (o352v2 P) (.node (o608v2 P) .nil .nil) (.node (o864v3 P) .nil .nil)) (.node (o480v2 P) (.node (o736v3 P) .nil .nil) .nil)))) (.node (o48v1 P) (.node (o80v1 P) (.node (o144v1 P) (.node (o272v1 P) (.node (o528v2 P) .nil .nil) (.node (o784v3 P) .nil .nil)) (.node (o400v2 P) (.node (o656v2 P) .nil .nil) (.node (o912v3 P) .nil .nil))) (.node (o208v1 P) (.node (o336v1 P) (.node (o592v2 P) .nil .nil) (.node (o848v3 P) .nil .nil)) (.node (o464v2 P) (.node (o720v3 P) .nil .nil) (.node (o976v3 P) .nil .nil)))) (.node (o112v1 P) (.node (o176v1 P) (.node (o304v1 P) (.node (o560v2 P) .nil .nil) (.node (o816v3 P) .nil .nil)) (.node (o432v2 P) (.node (o688v3 P) .nil .nil) (.node (o944v3 P) .nil .nil))) (.node (o240v1 P) (.node (o368v2 P) (.node (o624v2 P) .nil .nil) (.node (o880v3 P) .nil .nil)) (.node (o496v2 P) (.node (o752v3 P) .nil .nil) .nil))))) (.node (o24v1 P) (.node (o40v1 P) (.node (o72v1 P) (.node (o136v1 P) (.node (o264v1 P) (.node (o520v2 P) .nil .nil) (.node (o776v3 P) .nil .nil)) (.node (o392v2 P) (.node (o648v2 P) .nil .nil) (.node (o904v3 P) .nil .nil))) (.node (o200v1 P) (.node (o328v1 P) (.node (o584v2 P) .nil .nil) (.node (o840v3 P) .nil .nil)) (.node (o456v2 P) (.node (o712v3 P) .nil .nil) (.node (o968v3 P) .nil .nil)))) (.node (o104v1 P) (.node (o168v1 P) (.node (o296v1 P) (.node (o552v2 P) .nil .nil) (.node (o808v3 P) .nil .nil)) (.node (o424v2 P) (.node (o680v3 P) .nil .nil) (.node (o936v3 P) .nil .nil))) (.node (o232v1 P) (.node (o360v2 P) (.node (o616v2 P) .nil .nil) (.node (o872v3 P) .nil .nil)) (.node (o488v2 P) (.node (o744v3 P) .nil .nil) .nil)))) (.node (o56v1 P) (.node (o88v1 P) (.node (o152v1 P) (.node (o280v1 P) (.node (o536v2 P) .nil .nil) (.node (o792v3 P) .nil .nil)) (.node (o408v2 P) (.node (o664v3 P) .nil .nil) (.node (o920v3 P) .nil .nil))) (.node (o216v1 P) (.node (o344v2 P) (.node (o600v2 P) .nil .nil) (.node (o856v3 P) .nil .nil)) (.node (o472v2 P) (.node (o728v3 P) .nil .nil) (.node (o984v3 P) .nil .nil)))) (.node (o120v1 P) (.node (o184v1 P) (.node (o312v1 P) (.node (o568v2 P) .nil .nil) (.node (o824v3 P) .nil .nil)) (.node (o440v2 P) (.node (o696v3 P) .nil .nil) (.node (o952v3 P) .nil .nil))) (.node (o248v1 P) (.node (o376v2 P) (.node (o632v2 P) .nil .nil) (.node (o888v3 P) .nil .nil)) (.node (o504v2 P) (.node (o760v3 P) .nil .nil) .nil)))))) (.node (o12v3 P) (.node (o20v1 P) (.node (o36v1 P) (.node (o68v1 P) (.node (o132v1 P) (.node (o260v1 P) (.node (o516v2 P) .nil .nil) (.node (o772v3 P) .nil .nil)) (.node (o388v2 P) (.node (o644v2 P) .nil .nil) (.node (o900v3 P) .nil .nil))) (.node (o196v1 P) (.node (o324v1 P) (.node (o580v2 P) .nil .nil) (.node (o836v3 P) .nil .nil)) (.node (o452v2 P) (.node (o708v3 P) .nil .nil) (.node (o964v3 P) .nil .nil)))) (.node (o100v1 P) (.node (o164v1 P) (.node (o292v1 P) (.node (o548v2 P) .nil .nil) (.node (o804v3 P) .nil .nil)) (.node (o420v2 P) (.node (o676v3 P) .nil .nil) (.node (o932v3 P) .nil .nil))) (.node (o228v1 P) (.node (o356v2 P) (.node (o612v2 P) .nil .nil) (.node (o868v3 P) .nil .nil)) (.node (o484v2 P) (.node (o740v3 P) .nil .nil) .nil)))) (.node (o52v1 P) (.node (o84v1 P) (.node (o148v1 P) (.node (o276v1 P) (.node (o532v2 P) .nil .nil) (.node (o788v3 P) .nil .nil)) (.node (o404v2 P) (.node (o660v2 P) .nil .nil) (.node (o916v3 P) .nil .nil))) (.node (o212v1 P) (.node (o340v2 P) (.node (o596v2 P) .nil .nil) (.node (o852v3 P) .nil .nil)) (.node (o468v2 P) (.node (o724v3 P) .nil .nil) (.node (o980v3 P) .nil .nil)))) (.node (o116v1 P) (.node (o180v1 P) (.node (o308v1 P) (.node (o564v2 P) .nil .nil) (.node (o820v3 P) .nil .nil)) (.node (o436v2 P) (.node (o692v3 P) .nil .nil) (.node (o948v3 P) .nil .nil))) (.node (o244v1 P) (.node (o372v2 P) (.node (o628v2 P) .nil .nil) (.node (o884v3 P) .nil .nil)) (.node (o500v2 P) (.node (o756v3 P) .nil .nil) .nil))))) (.node (o28v1 P) (.node (o44v1 P) (.node (o76v1 P) (.node (o140v1 P) (.node (o268v1 P) (.node (o524v2 P) .nil .nil) (.node (o780v3 P) .nil .nil)) (.node (o396v2 P) (.node (o652v2 P) .nil .nil) (.node (o908v3 P) .nil .nil))) (.node (o204v1 P) (.node (o332v1 P) (.node (o588v2 P) .nil .nil) (.node (o844v3 P) .nil .nil)) (.node (o460v2 P) (.node (o716v3 P) .nil .nil) (.node (o972v3 P) .nil .nil)))) (.node (o108v1 P) (.node (o172v1 P) (.node (o300v1 P) (.node (o556v2 P) .nil .nil) (.node (o812v3 P) .nil .nil)) (.node (o428v2 P) (.node (o684v3 P) .nil .nil) (.node (o940v3 P) .nil .nil))) (.node (o236v1 P) (.node (o364v2 P) (.node (o620v2 P) .nil .nil) (.node (o876v3 P) .nil .nil)) (.node (o492v2 P) (.node (o748v3 P) .nil .nil) .nil)))) (.node (o60v1 P) (.node (o92v1 P) (.node (o156v1 P) (.node (o284v1 P) (.node (o540v2 P) .nil .nil) (.node (o796v3 P) .nil .nil)) (.node (o412v2 P) (.node (o668v3 P) .nil .nil) (.node (o924v3 P) .nil .nil))) (.node (o220v1 P) (.node (o348v2 P) (.node (o604v2 P) .nil .nil) (.node (o860v3 P) .nil .nil)) (.node (o476v2 P) (.node (o732v3 P) .nil .nil) .nil))) (.node (o124v1 P) (.node (o188v1 P) (.node (o316v1 P) (.node (o572v2 P) .nil .nil) (.node (o828v3 P) .nil .nil)) (.node (o444v2 P) (.node (o700v3 P) .nil .nil) (.node (o956v3 P) .nil .nil))) (.node (o252v1 P) (.node (o380v2 P) (.node (o636v2 P) .nil .nil) (.node (o892v3 P) .nil .nil)) (.node (o508v2 P) (.node (o764v3 P) .nil .nil) .nil))))))) (.node (o6 P) (.node (o10 P) (.node (o18v1 P) (.node (o34v1 P) (.node (o66v1 P) (.node (o130v1 P) (.node (o258v1 P) (.node (o514v2 P) .nil .nil) (.node (o770v3 P) .nil .nil)) (.node (o386v2 P) (.node (o642v2 P) .nil .nil) (.node (o898v3 P) .nil .nil))) (.node (o194v1 P) (.node (o322v1 P) (.node (o578v2 P) .nil .nil) (.node (o834v3 P) .nil .nil)) (.node (o450v2 P) (.node (o706v3 P) .nil .nil) (.node (o962v3 P) .nil .nil)))) (.node (o98v1 P) (.node (o162v1 P) (.node (o290v1 P) (.node (o546v2 P) .nil .nil) (.node (o802v3 P) .nil .nil)) (.node (o418v2 P) (.node (o674v3 P) .nil .nil) (.node (o930v3 P) .nil .nil))) (.node (o226v1 P) (.node (o354v2 P) (.node (o610v2 P) .nil .nil) (.node (o866v3 P) .nil .nil)) (.node (o482v2 P) (.node (o738v3 P) .nil .nil) .nil)))) (.node (o50v1 P) (.node (o82v1 P) (.node (o146v1 P) (.node (o274v1 P) (.node (o530v2 P) .nil .nil) (.node (o786v3 P) .nil .nil)) (.node (o402v2 P) (.node (o658v2 P) .nil .nil) (.node (o914v3 P) .nil .nil))) (.node (o210v1 P) (.node (o338v1 P) (.node (o594v2 P) .nil .nil) (.node (o850v3 P) .nil .nil)) (.node (o466v2 P) (.node (o722v3 P) .nil .nil) (.node (o978v3 P) .nil .nil)))) (.node (o114v1 P) (.node (o178v1 P) (.node (o306v1 P) (.node (o562v2 P) .nil .nil) (.node (o818v3 P) .nil .nil)) (.node (o434v2 P) (.node (o690v3 P) .nil .nil) (.node (o946v3 P) .nil .nil))) (.node (o242v1 P) (.node (o370v2 P) (.node (o626v2 P) .nil .nil) (.node (o882v3 P) .nil .nil)) (.node (o498v2 P) (.node (o754v3 P) .nil .nil) .nil))))) (.node (o26v1 P) (.node (o42v1 P) (.node (o74v1 P) (.node (o138v1 P) (.node (o266v1 P) (.node (o522v2 P) .nil .nil) (.node (o778v3 P) .nil .nil)) (.node (o394v2 P) (.node (o650v2 P) .nil .nil) (.node (o906v3 P) .nil .nil))) (.node (o202v1 P) (.node (o330v1 P) (.node (o586v2 P) .nil .nil) (.node (o842v3 P) .nil .nil)) (.node (o458v2 P) (.node (o714v3 P) .nil .nil) (.node (o970v3 P) .nil .nil)))) (.node (o106v1 P) (.node (o170v1 P) (.node (o298v1 P) (.node (o554v2 P) .nil .nil) (.node (o810v3 P) .nil .nil)) (.node (o426v2 P) (.node (o682v3 P) .nil .nil) (.node (o938v3 P) .nil .nil))) (.node (o234v1 P) (.node (o362v2 P) (.node (o618v2 P) .nil .nil) (.node (o874v3 P) .nil .nil)) (.node (o490v2 P) (.node (o746v3 P) .nil .nil) .nil)))) (.node (o58v1 P) (.node (o90v1 P) (.node (o154v1 P) (.node (o282v1 P) (.node (o538v2 P) .nil .nil) (.node (o794v3 P) .nil .nil)) (.node (o410v2 P) (.node (o666v3 P) .nil .nil) (.node (o922v3 P) .nil .nil))) (.node (o218v1 P) (.node (o346v2 P) (.node (o602v2 P) .nil .nil) (.node (o858v3 P) .nil .nil)) (.node (o474v2 P) (.node (o730v3 P) .nil .nil) (.node (o986v3 P) .nil .nil)))) (.node (o122v1 P) (.node (o186v1 P) (.node (o314v1 P) (.node (o570v2 P) .nil .nil) (.node (o826v3 P) .nil .nil)) (.node (o442v2 P) (.node (o698v3 P) .nil .nil) (.node (o954v3 P) .nil .nil))) (.node (o250v1 P) (.node (o378v2 P) (.node (o634v2 P) .nil .nil) (.node (o890v3 P) .nil .nil)) (.node (o506v2 P) (.node (o762v3 P) .nil .nil) .nil)))))) (.node (o14 P) (.node (o22v1 P) (.node (o38v1 P) (.node (o70v1 P) (.node (o134v1 P) (.node (o262v1 P) (.node (o518v2 P) .nil .nil) (.node (o774v3 P) .nil .nil)) (.node (o390v2 P) (.node (o646v2 P) .nil .nil) (.node (o902v3 P) .nil .nil))) (.node (o198v1 P) (.node (o326v1 P) (.node (o582v2 P) .nil .nil) (.node (o838v3 P) .nil .nil)) (.node (o454v2 P) (.node (o710v3 P) .nil .nil) (.node (o966v3 P) .nil .nil)))) (.node (o102v1 P) (.node (o166v1 P) (.node (o294v1 P) (.node (o550v2 P) .nil .nil) (.node (o806v3 P) .nil .nil)) (.node (o422v2 P) (.node (o678v3 P) .nil .nil) (.node (o934v3 P) .nil .nil))) (.node (o230v1 P) (.node (o358v2 P) (.node (o614v2 P) .nil .nil) (.node (o870v3 P) .nil .nil)) (.node (o486v2 P) (.node (o742v3 P) .nil .nil) .nil)))) (.node (o54v1 P) (.node (o86v1 P) (.node (o150v1 P) (.node (o278v1 P) (.node (o534v2 P) .nil .nil) (.node (o790v3 P) .nil .nil)) (.node (o406v2 P) (.node (o662v3 P) .nil .nil) (.node (o918v3 P) .nil .nil))) (.node (o214v1 P) (.node (o342v2 P) (.node (o598v2 P) .nil .nil) (.node (o854v3 P) .nil .nil)) (.node (o470v2 P) (.node (o726v3 P) .nil .nil) (.node (o982v3 P) .nil .nil)))) (.node (o118v1 P) (.node (o182v1 P) (.node (o310v1 P) (.node (o566v2 P) .nil .nil) (.node (o822v3 P) .nil .nil)) (.node (o438v2 P) (.node (o694v3 P) .nil .nil) (.node (o950v3 P) .nil .nil))) (.node (o246v1 P) (.node (o374v2 P) (.node (o630v2 P) .nil .nil) (.node (o886v3 P) .nil .nil)) (.node (o502v2 P) (.node (o758v3 P) .nil .nil) .nil))))) (.node (o30v1 P) (.node (o46v1 P) (.node (o78v1 P) (.node (o142v1 P) (.node (o270v1 P) (.node (o526v2 P) .nil .nil) (.node (o782v3 P) .nil .nil)) (.node (o398v2 P) (.node (o654v2 P) .nil .nil) (.node (o910v3 P) .nil .nil))) (.node (o206v1 P) (.node (o334v1 P) (.node (o590v2 P) .nil .nil) (.node (o846v3 P) .nil .nil)) (.node (o462v2 P) (.node (o718v3 P) .nil .nil) (.node (o974v3 P) .nil .nil)))) (.node (o110v1 P) (.node (o174v1 P) (.node (o302v1 P) (.node (o558v2 P) .nil .nil) (.node (o814v3 P) .nil .nil)) (.node (o430v2 P) (.node (o686v3 P) .nil .nil) (.node (o942v3 P) .nil .nil))) (.node (o238v1 P) (.node (o366v2 P) (.node (o622v2 P) .nil .nil) (.node (o878v3 P) .nil .nil)) (.node (o494v2 P) (.node (o750v3 P) .nil .nil) .nil)))) (.node (o62v1 P) (.node (o94v1 P) (.node (o158v1 P) (.node (o286v1 P) (.node (o542v2 P) .nil .nil) (.node (o798v3 P) .nil .nil)) (.node (o414v2 P) (.node (o670v3 P) .nil .nil) (.node (o926v3 P) .nil .nil))) (.node (o222v1 P) (.node (o350v2 P) (.node (o606v2 P) .nil .nil) (.node (o862v3 P) .nil .nil)) (.node (o478v2 P) (.node (o734v3 P) .nil .nil) .nil))) (.node (o126v1 P) (.node (o190v1 P) (.node (o318v1 P) (.node (o574v2 P) .nil .nil) (.node (o830v3 P) .nil .nil)) (.node (o446v2 P) (.node (o702v3 P) .nil .nil) (.node (o958v3 P) .nil .nil))) (.node (o254v1 P) (.node (o382v2 P) (.node (o638v2 P) .nil .nil) (.node (o894v3 P) .nil .nil)) (.node (o510v2 P) (.node (o766v3 P) .nil .nil) .nil))))))))
def S3 : World → OsState → SharedT := My.endS T3 987 {} (Array.mk []) {} 1461
def env : Env := { scope := PySem.Challenge.rw_onestaff_k09_refusals_apart.row.prog.main.scope, locals := mainNs, globals := mainNs, cells := [], code := (.ref 13), frame := some 14 }
def bE : List Stmt := behindTheImports PySem.Challenge.rw_onestaff_k09_refusals_apart.row.prog
abbrev cE : Code := .body bE env
abbrev annE : Option PySem.Value := (some (.ref 6))
abbrev fq : Pos := ⟨0, 0, 0, 0⟩
theorem pre : ∀ (w : World) (os : OsState), topGo treeTable PySem.Challenge.rw_onestaff_k09_refusals_apart.row.prog w 11 annE 12 ⟨boot_heap w.params, Array.mk [], boot_drawn, boot_toks, os⟩ (topStub PySem.Challenge.rw_onestaff_k09_refusals_apart.row.prog) = some ((S0 w os).abs, ⟨denote treeTable cE, cE, ⟨0, 0, 0, 0⟩, [topFrame fq]⟩) := by intro w os; kernel_rfl
theorem block : ∀ (w : World) (os : OsState), segRun treeTable PySem.Challenge.rw_onestaff_k09_refusals_apart.row.prog w 11 annE 1 1 (S0 w os).abs (blockOf bE env cE ⟨0, 0, 0, 0⟩ [topFrame fq]) = some (.next, (S0 w os).abs, cE, ⟨0, 0, 0, 0⟩) := by intro w os; kernel_rfl
theorem g1 : ∀ w : World, My.Go PySem.Challenge.rw_onestaff_k09_refusals_apart.row.prog 11 annE env fq 4147 S0 S1 ((bE.drop 0).take 18) cE ⟨0, 0, 0, 0⟩ ⟨81, 0, 85, 26⟩ w := by intro w os; kernel_rfl
theorem g2 : ∀ w : World, My.Go PySem.Challenge.rw_onestaff_k09_refusals_apart.row.prog 11 annE env fq 4166 S1 S2 ((bE.drop 18).take 17) cE ⟨81, 0, 85, 26⟩ ⟨166, 0, 170, 26⟩ w := by intro w os; kernel_rfl
theorem g3 : ∀ w : World, My.Go PySem.Challenge.rw_onestaff_k09_refusals_apart.row.prog 11 annE env fq 3703 S2 S3 ((bE.drop 35).take 24) cE ⟨166, 0, 170, 26⟩ ⟨308, 0, 314, 84⟩ w := by intro w os; kernel_rfl
theorem fin : ∀ w : World, My.Fin1 PySem.Challenge.rw_onestaff_k09_refusals_apart.row.prog 11 annE fq 2 S3 S3 cE ⟨308, 0, 314, 84⟩ w := by intro w os; kernel_rfl
theorem run (w : World) (os : OsState) : topRun treeTable PySem.Challenge.rw_onestaff_k09_refusals_apart.row.prog w 11 annE (12 + (1 + (4147 + (4166 + (3703 + 2))))) ⟨boot_heap w.params, Array.mk [], boot_drawn, boot_toks, os⟩ (topStub PySem.Challenge.rw_onestaff_k09_refusals_apart.row.prog) = some (S3 w os).abs :=
  go_top (pre w os) (piece_block (block w os) (My.Go.next (body := bE) (i := 0) (k := 18) (g1 w) rfl (My.Go.next (body := bE) (i := 18) (k := 17) (g2 w) rfl (My.Go.next (body := bE) (i := 35) (k := 24) (g3 w) rfl (My.Fin1.run (env := env) (body := bE) (i := 59) (fin w) (by kernel_rfl))))))
noncomputable abbrev sn (w : World) (os : OsState) := My.seenS PySem.Challenge.rw_onestaff_k09_refusals_apart.row.prog E9.Hd.hd.view_39 looseH (fun s => xlAt E9.Hd.hd.view_39 [] s && recOk PySem.Challenge.rw_onestaff_k09_refusals_apart.row.records s) (S3 w os)
theorem s1 : ∀ (w : World) (os : OsState), (sn w os).1 = expectedOf E9.Hd.hd.view_39 := by intro w os; kernel_rfl
theorem s2 : ∀ (w : World) (os : OsState), (sn w os).2.1 = bltViewBooted := by intro w os; kernel_rfl
theorem s3 : ∀ (w : World) (os : OsState), (sn w os).2.2.1 = true := by intro w os; kernel_rfl
theorem s4 : ∀ (w : World) (os : OsState), (sn w os).2.2.2.1 = true := by intro w os; kernel_rfl
theorem s5 : ∀ (w : World) (os : OsState), (sn w os).2.2.2.2.1 = pinGoodD (drecsOf E9.Hd.hd.view_39) := by intro w os; kernel_rfl
theorem s6 : ∀ (w : World) (os : OsState), (sn w os).2.2.2.2.2.1 = plainGoodE E9.Hd.hd.view_39 (looseW E9.Hd.hd.view_39 looseH) := by intro w os; kernel_rfl
theorem s7 : ∀ (w : World) (os : OsState), (sn w os).2.2.2.2.2.2.1 = plainGoodD E9.Hd.hd.view_39 looseH := by intro w os; kernel_rfl
theorem s8 : ∀ (w : World) (os : OsState), (sn w os).2.2.2.2.2.2.2.1 = wideGood E9.Hd.hd.view_39 := by intro w os; kernel_rfl
theorem s9 : ∀ (w : World) (os : OsState), (sn w os).2.2.2.2.2.2.2.2 = clsGoodW E9.Hd.hd.view_39 looseH := by intro w os; kernel_rfl
theorem sL : ∀ (w : World) (os : OsState), looksF PySem.Challenge.rw_onestaff_k09_refusals_apart.row.prog (boot_heap w.params) (S3 w os).abs = true := by intro w os; kernel_rfl
theorem sA : ∀ (w : World) (os : OsState), asH.map (getT (S3 w os)) = (E9.Hd.hd.heap_39 w.params).map fun x => some x.2 := by intro w os; kernel_rfl
theorem sz : ∀ w : World, ((boot_heap w.params).isNs mainGlobals && (Array.mk [] : Array GenState).size == 0, (boot_heap w.params).objs.size, (boot_heap w.params).nsMap mainGlobals "__annotations__") = (true, 11, annE) := by intro w; kernel_rfl
theorem hs (w : World) (os : OsState) : seenQ E9.Hd.hd.view_39 looseH (importedModules PySem.Challenge.rw_onestaff_k09_refusals_apart.row.prog.main.body) (fun s => xlAt E9.Hd.hd.view_39 [] s && recOk PySem.Challenge.rw_onestaff_k09_refusals_apart.row.records s) (S3 w os).abs = openGood E9.Hd.hd.view_39 looseH := Prod.ext (s1 w os) (Prod.ext (s2 w os) (Prod.ext (s3 w os) (Prod.ext (s4 w os) (Prod.ext (s5 w os) (Prod.ext (s6 w os) (Prod.ext (s7 w os) (Prod.ext (s8 w os) (s9 w os))))))))
end E9.Hd

set_option maxRecDepth 100000
set_option maxHeartbeats 4000000
/-! Defs that show lists and tuples: they run where no display is under way. -/
namespace Gd
open PySem PySem.Spec PyProof.Rows L2

/-- a def's promise, kept wherever no display is under way -/
structure GOk (P : Program) (w : World) (K : PySem.W.Frag) (mg : Str → Option Value) (base : Heap) (CX : CXT) (k : Nat) (f : Addr) (fd : FuncData) (ps : List Str) (sp : Sp) : Prop where
  size : ∀ vs H Q E, sp vs H Q E → vs.length = ps.length
  go : ∀ (A : Around) (out : List Env) (s : Shared) (H : Hp) (ar : Args) (us : List Value) (vs : List V) (Q : VK) (E : XK), A.guards = some [] →
    Room k A → Env0 P w K mg base A out s H → BindsTo s fd ar (ps.zip us) → Vals vs us → sp vs H Q E →
    codeAny (model P w) A (.call (.ref f) ar) (CR CX out P w H s Q E) s

section
variable {P : Program} {w : World} {K : PySem.W.Frag} {mg : Str → Option Value} {base : Heap}

/-- by its body -/
theorem gok_body {CX : CXT} {k : Nat} {x qual : Str} {st : Stmt} {f : Addr} {fd : FuncData} {N ps : List Str} {sp : Sp} (F : Fun K x qual st f fd) (S : FnScope N ps (defScope st))
    (size : ∀ vs H Q E, sp vs H Q E → vs.length = ps.length)
    (body : ∀ (cd : Value) (A : Around) (out : List Env) (s : Shared) (H : Hp) (vs : List V) (Q : VK) (E : XK), A.guards = some [] →
      Room k (A.deeper (envOfC qual (defScope st) s.heap.objs.size f cd)) → sp vs H Q E →
      ∃ t, PSs (cxOf CX P w K mg base N qual (defScope st) f cd A out s H E) (defBody st) t ∧ t { nx := fun _ H' => Q .non H', rt := Q } (start N vs) H) :
    GOk P w K mg base CX (k + 1) f fd ps sp := by
  obtain ⟨oc, od, kV, doc, pm, an, cd, ct, osl, rfl, lk, hcd⟩ := F.ex
  refine ⟨size, fun A out s H ar us vs Q E gd hr e0 hb r hsp => ?_⟩
  have hl := size _ _ _ _ hsp
  have KX : K.In s.heap := e0.mod.kin.keeps fun b o z => (e0.bs b o z).1
  have kinds : ∀ y ∈ ps.zip us, (defScope st).names.lookup y.1 = some .local ∨
      ((defScope st).names.lookup y.1 = some .cell ∧ ((cellsFrom (s.heap.objs.size + 1) (defScope st).names []).lookup y.1).isSome = true) := by
    rintro ⟨n, v⟩ hy
    have hm := (List.of_mem_zip hy).1
    cases S.par n hm with
    | inl q => exact .inl q
    | inr q => exact .inr ⟨q, PySem.W.cellsFrom_some _ _ _ (.inl q)⟩
  have Z := PySem.W.codeRec_of KX hcd
  refine codeAny_call_function hr.depth (KX _ _ lk) rfl S.co S.gen rfl Z (hb _ _ _ _ ?_)
  refine wpAny_newFunctionEnv_cells S.kind kinds fun env he s1 ic => ?_
  subst he
  have lim : s.heap.NoLimit := e0.mod.nolimit.keeps fun b o z => (e0.bs b o z).1
  refine ⟨lim.keeps ic.toInCall.keep, codeAny_func ?_⟩
  obtain ⟨t, ht, hq⟩ := body cd A out s H vs Q E gd (hr.deeper _) hsp
  have I := inv_start (CX := CX) (E := E) S hr.hd e0 hl r ic
  refine wpAny_mono (ht.run [] s1 (start N vs) H _ I hq) ?_ (fun _ _ z => z)
  intro fl s' hs
  cases fl with
  | brk => obtain ⟨_, _, _, q⟩ := hs; exact q.elim
  | cont => obtain ⟨_, _, _, q⟩ := hs; exact q.elim
  | next =>
    obtain ⟨σ', H', J, q⟩ := hs
    exact ⟨V.non, H', J.os, J.bare, J.base, J.hok, rfl, q⟩
  | ret u =>
    obtain ⟨v, σ', H', J, rv, q⟩ := hs
    exact ⟨v, H', J.os, J.bare, J.base, J.hok, rv, q⟩
/-- the same where nothing is raised -/
theorem gok {k : Nat} {x qual : Str} {st : Stmt} {f : Addr} {fd : FuncData} {N ps : List Str} {sp : Sp} (F : Fun K x qual st f fd) (S : FnScope N ps (defScope st))
    (size : ∀ vs H Q E, sp vs H Q E → vs.length = ps.length)
    (body : ∀ (cd : Value) (A : Around) (out : List Env) (s : Shared) (H : Hp) (vs : List V) (Q : VK) (E : XK), A.guards = some [] →
      Room k (A.deeper (envOfC qual (defScope st) s.heap.objs.size f cd)) → sp vs H Q E →
      ∃ t, PSs (cxOf CX0 P w K mg base N qual (defScope st) f cd A out s H E).nox (defBody st) t ∧ t { nx := fun _ H' => Q .non H', rt := Q } (start N vs) H) :
    GOk P w K mg base CX0 (k + 1) f fd ps sp := by
  refine gok_body F S size fun cd A out s H vs Q E gd hr q => ?_
  obtain ⟨t, h, z⟩ := body cd A out s H vs Q E gd hr q
  exact ⟨t, h.nox, z⟩
theorem GOk.mono {CX : CXT} {j k : Nat} {f : Addr} {fd : FuncData} {ps : List Str} {sp : Sp} (F : GOk P w K mg base CX j f fd ps sp) (h : j ≤ k) : GOk P w K mg base CX k f fd ps sp :=
  ⟨F.size, fun A out s H ar us vs Q E gd hr => F.go A out s H ar us vs Q E gd (hr.mono h)⟩
theorem gok_of {CX : CXT} {k : Nat} {f : Addr} {fd : FuncData} {ps : List Str} {sp : Sp} (F : FnOk P w K mg base CX k f fd ps sp) : GOk P w K mg base CX k f fd ps sp :=
  ⟨F.len, fun A out s H ar us vs Q E _ hr => F.run A out s H ar us vs Q E hr⟩
end

section
variable {X : Cx} {CX : CXT} {k : Nat} {f : Addr} {fd : FuncData} {ps : List Str} {sp : Sp} {dvs : List V} {ds : List Value} {E : XK} {x : Str} {p pos : Pos} {e : Expr} {es : List Expr} {t : TA}
/-- f(e, ..), f such a def, from a body of such a def -/
theorem pe_gcall (gd : X.A.guards = some []) (F : GOk X.prog X.w X.K X.mg X.base CX k f fd ps sp) (hr : Room k X.A) (hg : Gl X x) (hm : X.mg x = some (.ref f)) (hk : PySem.W.keepIn X.K (.ref f) = true)
    (hb : Binds X.K fd ps ds) (hd : Vals dvs ds) (hx : Passes CX X E) (ha : PA X (e :: es) t) (hdb : (x == ("__debug__" : Str)) = false := by decide)
    (he : starEach (e :: es) X.env = (false, eval e X.env) :: starEach es X.env := by rfl) (hpl : (backTo pos (starEach es X.env)).any (·.1) = false := by rfl) :
    PE X (.Call (.Name x p) (e :: es) [] pos) (tCall sp dvs E t) := by
  refine ⟨fun pins s σ H Q I h => wpAny_Call_Name_kw (ld_glob I hg hm ?_ hdb)⟩
  have A1 := ha.run pos pins s σ H _ I h
  refine PySem.W.callWith_K (h₀ := X.base) I.ok.mod.kin hk (thn A1 ?_) he hpl
  rintro us s1 ⟨vs, H1, I1, r, q⟩
  refine ⟨I1.kIn, ?_⟩
  have both := r.append hd
  have hl : (us ++ ds).length = ps.length := (both.length).symm.trans (F.size _ _ _ _ q)
  have run1 := F.go X.A X.stack s1 H1 ⟨us, []⟩ (us ++ ds) (vs ++ dvs) Q E gd hr I1.env0 (hb s1 us I1.kIn hl) both q
  refine wpAny_call (codeAny_mono run1 ?_)
  intro res s' hq
  match res, hq with
  | .error e, hq => exact hx pins σ H1 s1 e s' I1 hq
  | .ok (.ret u), hq => exact I1.after hq
  | .ok .next, hq => exact hq.elim
  | .ok .brk, hq => exact hq.elim
  | .ok .cont, hq => exact hq.elim

/-! ### repr of data -/
mutual
theorem dp_noDict {K : PySem.W.Frag} {H : Hp} : ∀ {v : V} {d : PyData}, Dp K H v d → d.hasDict = false
  | _, _, .non => by simp only [PyData.hasDict]
  | _, _, .bl _ => by simp only [PyData.hasDict]
  | _, _, .int _ => by simp only [PyData.hasDict]
  | _, _, .str _ => by simp only [PyData.hasDict]
  | _, _, .lst _ h => by simp only [PyData.hasDict]; exact dpAll_noDict h
  | _, _, .tup _ h => by simp only [PyData.hasDict]; exact dpAll_noDict h
theorem dpAll_noDict {K : PySem.W.Frag} {H : Hp} : ∀ {vs : List V} {ds : List PyData}, DpAll K H vs ds → PyData.hasDictAll ds = false
  | _, _, .nil => by simp only [PyData.hasDictAll]
  | _, _, .cons h t => by simp only [PyData.hasDictAll, dp_noDict h, dpAll_noDict t, Bool.or_self]
end
/-- repr(v), v some data d -/
def rRepr (K : PySem.W.Frag) : List V → Hp → VK → Prop := fun xs H Q => ∃ v d, xs = [v] ∧ Dp K H v d ∧ d.showable = true ∧ d.depth ≤ 100 ∧ d.shown.length ≤ sizeLine ∧ Q (.str d.shown) H
theorem call_repr (gd : X.A.guards = some []) (hr : Room k X.A) : CallR X (.builtin "repr") (rRepr X.K) := by
  intro pins s σ H xs us Q I r h
  obtain ⟨v, d, rfl, dp, hs, hdep, hsz, q⟩ := h
  cases r with
  | cons rv rn =>
    cases rn
    have hun := hr.un
    cases dp with
    | non =>
      cases rv
      refine PySem.P.repr_of_none ⟨.str _, H, I.tok _, ⟨_, rfl⟩, ?_⟩
      simpa only [PyData.shown] using q
    | bl b =>
      cases rv
      refine PySem.P.repr_of_bool ⟨.str _, H, I.tok _, ⟨_, rfl⟩, ?_⟩
      simpa only [PyData.shown] using q
    | int i =>
      obtain ⟨t, rfl⟩ := rv
      refine PySem.P.repr_of_int (by simpa [PyData.showable] using hs) ⟨.str _, H, I.tok _, ⟨_, rfl⟩, ?_⟩
      simpa only [PyData.shown] using q
    | str z =>
      obtain ⟨t, rfl⟩ := rv
      refine PySem.P.repr_of_str ⟨.str _, H, I.tok _, ⟨_, rfl⟩, ?_⟩ (by simpa only [PyData.shown] using hsz)
      simpa only [PyData.shown] using q
    | lst hl ha =>
      cases rv
      obtain ⟨as, rd⟩ := Dp.reads I _ _ _ (.lst hl ha) rfl
      refine repr_of_reads' rd hs (PyData.noDict_hsm (dp_noDict (.lst hl ha))) gd (by omega) (fun _ _ z => z) (fun h' u tk hk => ?_) hsz
      exact ⟨.str _, H, I.kept hk, ⟨_, rfl⟩, q⟩
    | tup hl ha =>
      cases rv
      obtain ⟨as, rd⟩ := Dp.reads I _ _ _ (.tup hl ha) rfl
      refine repr_of_reads' rd hs (PyData.noDict_hsm (dp_noDict (.tup hl ha))) gd (by omega) (fun _ _ z => z) (fun h' u tk hk => ?_) hsz
      exact ⟨.str _, H, I.kept hk, ⟨_, rfl⟩, q⟩
end
end Gd

set_option maxRecDepth 100000
set_option maxHeartbeats 4000000
/-! The end of a law whose own def shows data: no display is under way at its call. -/
namespace Gd
open PySem PySem.Spec PyProof.Rows L2 GxR

/-- the script's own object -/
def scriptO (vs : List Value) : Obj := { cls := .type "list", data := .seq vs.toArray }
def tabO : Obj := { cls := .none, data := .fields #[] }
open Classical in
/-- what is tracked at the law's call: the script (where the written part hasn't it), the tables -/
noncomputable def h0 (K : PySem.W.Frag) (a : Addr) (vs : List Value) (ns : List Int) (T : List Addr) : Hp := fun b =>
  if b = a ∧ K.lookup a = none then some (.frz (scriptO vs) (.lst (ns.map V.int))) else if b ∈ T then some (.tbl #[]) else none

theorem h0_inv {K : PySem.W.Frag} {a b : Addr} {vs : List Value} {ns : List Int} {T : List Addr} {u : HO} (h : h0 K a vs ns T b = some u) :
    (b = a ∧ K.lookup a = none ∧ u = .frz (scriptO vs) (.lst (ns.map V.int))) ∨ (b ∈ T ∧ u = .tbl #[]) := by
  unfold h0 at h
  by_cases c1 : b = a ∧ K.lookup a = none
  · rw [if_pos c1] at h
    exact .inl ⟨c1.1, c1.2, (Option.some.inj h).symm⟩
  · rw [if_neg c1] at h
    by_cases c2 : b ∈ T
    · rw [if_pos c2] at h
      exact .inr ⟨c2, (Option.some.inj h).symm⟩
    · rw [if_neg c2] at h
      cases h

section
variable {P : Program} {w : World} {K : PySem.W.Frag} {mg mb : Str → Option Value} {CX : CXT} {k : Nat} {fa a : Addr} {cs : List (Addr × Addr)} {fd : FuncData} {x : Str} {sp : Sp} {s1 : Shared} {vs : List Value} {ns : List Int}
theorem law_gcall (KX : K.In s1.heap) (nsG : s1.heap.Ns mainGlobals mg) (nsB : s1.heap.Ns builtinsNs mb) (isB : ∀ x : Str, x ≠ "__name__" → mb x = bootBuiltins x) (lim : s1.heap.NoLimit) (gens : s1.gens = #[])
    (tabs : ∀ p ∈ cs, s1.heap.get? p.2 = some tabO) (tabK : ∀ p ∈ cs, K.lookup p.2 = none) (codes : ∀ p ∈ cs, PySem.W.CodeHd s1.heap p.1 p.2)
    (bmain : ∃ (bm : Addr) (ob : Obj), mg "__builtins__" = some (.ref bm) ∧ bm ≠ builtinsNs ∧ s1.heap.get? bm = some ob ∧ ob.cls = .type "module" ∧ ob.dict = some builtinsNs ∧ ob.data = .plain)
    (ha : s1.heap.get? a = some (scriptO vs)) (hi : IntsAre vs ns) (hl : ns.length ≤ sizeLine) (hr : Room k callerA)
    (F : ∀ base : Heap, K.In base → base.Ns mainGlobals mg → (∀ p ∈ cs, TabB base mg p.1 p.2) → GOk P w K mg base CX k fa fd [x] sp)
    (hbind : ∀ (s : Shared) (u : Value), BindsTo s fd ⟨[u], []⟩ [(x, u)])
    (hsp : ∀ H : Hp, (∀ p ∈ cs, H p.2 = some (.tbl #[])) → SqL K H a (ns.map V.int) → sp [.ref a] H (fun v _ => v = .bl true) fun _ _ _ => False)
    (hCX : ∀ H e s', CX [] H s1 (fun _ _ _ => False) e s' → False) :
    codeAny (model P w) callerA (.call (.ref fa) ⟨[.ref a], []⟩) (fun r s' => r = .ok (.ret (.bool true)) ∧ OldK s1.heap s'.heap ∧ s'.os = s1.os ∧ AllBare s'.gens) s1 := by
  have rv := vals_ints hi
  have hlen := hi.length
  let T := cs.map Prod.snd
  have inT : ∀ p ∈ cs, p.2 ∈ T := fun p hp => List.mem_map.mpr ⟨p, hp, rfl⟩
  have ofT : ∀ b ∈ T, s1.heap.get? b = some tabO ∧ K.lookup b = none := by
    intro b hb
    obtain ⟨p, hp, rfl⟩ := List.mem_map.mp hb
    exact ⟨tabs p hp, tabK p hp⟩
  have neT : a ∉ T := fun z => by
    have q := (ofT a z).1
    rw [ha] at q
    cases q
  let H := h0 K a vs ns T
  -- a tracked object is the script or a table
  have seen : ∀ {b : Addr} {o : Obj}, s1.heap.get? b = some o → (∀ us n, o.data ≠ .seq us n) → o.data ≠ .fields #[] → H b = none := by
    intro b o e n1 n2
    cases q : H b with
    | none => rfl
    | some u =>
      exfalso
      rcases h0_inv q with ⟨rfl, _, _⟩ | ⟨hb, _⟩
      · rw [ha] at e
        cases e
        exact n1 _ _ rfl
      · rw [(ofT b hb).1] at e
        cases e
        exact n2 rfl
  have keepHid : ∀ {b : Addr} {o : Obj}, s1.heap.get? b = some o → H b = none → (hidT s1.heap H).get? b = some o := fun e n => hidT_get e n
  have dictHid : ∀ {b : Addr} {o : Obj} {es : Array DictEntry} {ep : Nat}, s1.heap.get? b = some o → o.data = .dict es ep → (hidT s1.heap H).get? b = some o := by
    intro b o es ep e d
    refine keepHid e (seen e (fun us n z => ?_) fun z => ?_) <;> (rw [d] at z; cases z)
  have nsHid : ∀ {b : Addr} {m : Str → Option Value}, s1.heap.Ns b m → (hidT s1.heap H).Ns b m := by
    rintro b m ⟨o, es, ep, e, d, rest⟩
    exact ⟨o, es, ep, dictHid e d, d, rest⟩
  have KH : K.In (hidT s1.heap H) := by
    intro b o e
    refine keepHid (KX b o e) ?_
    cases q : H b with
    | none => rfl
    | some u =>
      exfalso
      rcases h0_inv q with ⟨rfl, z, _⟩ | ⟨hb, _⟩
      · rw [z] at e
        cases e
      · rw [(ofT b hb).2] at e
        cases e
  have limH : (hidT s1.heap H).NoLimit := by
    obtain ⟨mc, h1, h2⟩ := lim
    exact ⟨mc, nsHid h1, h2⟩
  have M : L2.Mod K mg (hidT s1.heap H) := ⟨KH, nsHid nsG, ⟨mb, nsHid nsB, isB⟩, limH⟩
  have TB : ∀ p ∈ cs, TabB (hidT s1.heap H) mg p.1 p.2 := by
    intro p hp
    have tp := tabs p hp
    refine ⟨?_, ?_, ?_⟩
    · obtain ⟨o, us, file, tf, flags, tg, inF, text, tt, e1, r1, r2, r3, rest⟩ := codes p hp
      refine ⟨o, us, file, tf, flags, tg, inF, text, tt, keepHid e1 (seen e1 (fun vs n z => ?_) fun z => ?_), r1, r2, r3, rest⟩
      · rw [r2] at z
        cases z
      · rw [r2] at z
        cases z
        simp at r3
    · obtain ⟨bm, ob, b1, b2, b3, b4, b5, b6⟩ := bmain
      have g1 : bm ≠ mainGlobals := by
        rintro rfl
        obtain ⟨o, es, ep, e, d, _⟩ := nsG
        rw [b3] at e
        cases e
        rw [b6] at d
        cases d
      have g2 : bm ≠ p.2 := by
        rintro rfl
        rw [tp] at b3
        cases b3
        cases b6
      refine ⟨bm, ob, b1, b2, g1, g2, keepHid b3 (seen b3 (fun vs n z => ?_) fun z => ?_), b4, b5, b6⟩ <;> (rw [b6] at z; cases z)
    · intro z
      obtain ⟨o, es, ep, e, d, _⟩ := nsG
      rw [z, tp] at e
      cases e
      cases d
  have hH : ∀ p ∈ cs, H p.2 = some (.tbl #[]) := by
    intro p hp
    have n1 : ¬ (p.2 = a ∧ K.lookup a = none) := fun z => neT (z.1 ▸ inT p hp)
    exact (if_neg n1).trans (if_pos (inT p hp))
  have hS : SqL K H a (ns.map V.int) := by
    cases q : K.lookup a with
    | none => exact .inl (.inr ⟨scriptO vs, if_pos ⟨rfl, q⟩⟩)
    | some o =>
      have e := KX a o q
      rw [ha] at e
      cases e
      exact .inr ⟨_, vs.toArray, _, q, rfl, rfl, rfl, by rw [List.size_toArray, hlen]; exact hl, by simpa using rv⟩
  have hok : HOk P w H s1.heap := by
    intro b u q
    rcases h0_inv q with ⟨rfl, _, rfl⟩ | ⟨hb, rfl⟩
    · exact ⟨ha, by rw [List.length_map]; exact hl, vs, _, rv, ha⟩
    · exact (ofT b hb).1
  have e0 : Env0 P w K mg (hidT s1.heap H) callerA [] s1 H :=
    ⟨rfl, M, fun b o e => of_hidT e, Nat.le_of_eq (hidT_size _ _), trivial, (fun b hb => by cases (show b ∈ ([] : List Addr) from hb)), hok, .of_eq gens⟩
  have run := (F _ KH (nsHid nsG) TB).go callerA [] s1 H ⟨[.ref a], []⟩ [.ref a] [.ref a] (fun v _ => v = .bl true) (fun _ _ _ => False) rfl hr e0 (hbind s1 (.ref a)) (.cons rfl .nil) (hsp H hH hS)
  refine codeAny_mono run ?_
  intro r s' h
  match r, h with
  | .error e, h => exact (hCX H e s' h).elim
  | .ok .next, h => exact h.elim
  | .ok .brk, h => exact h.elim
  | .ok .cont, h => exact h.elim
  | .ok (.ret u), h =>
    obtain ⟨v, H', os, bare, un, hok', r', q⟩ := h
    obtain rfl : v = .bl true := q
    obtain rfl : u = Value.bool true := r'
    have plain : ∀ b o, b ∉ T → s1.heap.get? b = some o → s'.heap.get? b = some o := by
      intro b o nb e
      cases q : H b with
      | none => exact un.keep b o e q (fun z => by cases (show b ∈ ([] : List Addr) from z)) (by simp)
      | some y =>
        rcases h0_inv q with ⟨rfl, _, rfl⟩ | ⟨hb, _⟩
        · obtain ⟨e2, _⟩ := hok' b _ (un.frzs b _ _ q)
          rw [ha] at e
          cases e
          exact e2
        · exact absurd hb nb
    have grown : ∀ p ∈ cs, ∃ more : Array Value, s'.heap.get? p.2 = some { cls := .none, data := .fields more } := by
      intro p hp
      obtain ⟨more, z⟩ := un.tbls p.2 #[] (hH p hp)
      exact ⟨_, hok' p.2 _ z⟩
    refine ⟨rfl, ⟨fun b o e => ?_, fun b o e => ?_⟩, os, bare⟩ <;> by_cases hb : b ∈ T
    · obtain ⟨p, hp, rfl⟩ := List.mem_map.mp hb
      obtain ⟨more, hm⟩ := grown p hp
      rw [tabs p hp] at e
      cases e
      exact .inr (.inl ⟨((codes p hp).tab (tabs p hp)).isCodeTable, rfl, #[], more, rfl, by rw [Array.empty_append]; exact hm⟩)
    · exact .inl (plain b o hb e)
    · obtain ⟨p, hp, rfl⟩ := List.mem_map.mp hb
      obtain ⟨more, hm⟩ := grown p hp
      exact ⟨_, hm⟩
    · exact ⟨o, plain b o hb e⟩
end

/-- the tables of the text's own defs are empty behind the top -/
def Empt (q : Program) (K : PySem.W.Frag) (h : Heap) : Prop := ∀ (x : Str) (f c t : Addr) (o : Obj) (fd : FuncData) (e : Value) (dd : Option Addr) (us : Array Value) (sl : Array (Option Value)),
  ((PyProof.Rows.recsOf q).any fun r => r.name == x) = true → PySem.W.nsIn K mainGlobals x = some (some (.ref f)) → K.lookup f = some o → o.data = .func fd → fd.code = .ref c →
  K.lookup c = some ⟨e, dd, .fields us, sl⟩ → us[11]? = some (.ref t) → PySem.W.CodeHd h c t ∧ h.get? t = some tabO
/-- what is to be known of the law at the head's heap -/
def GLaw (l : PySem.W.OpenLaw) (w : World) (K : PySem.W.Frag) (CX : CXT) (k n : Nat) (x : Str) (mg : Str → Option Value) (fa : Addr) (h : Heap) : Prop :=
  ∃ (fd : FuncData) (cs : List (Addr × Addr)) (sp : Sp), (∀ p ∈ cs, h.get? p.2 = some tabO) ∧ (∀ p ∈ cs, K.lookup p.2 = none) ∧ (∀ p ∈ cs, PySem.W.CodeHd h p.1 p.2) ∧
    (∀ (s : Shared) (u : Value), BindsTo s fd ⟨[u], []⟩ [(x, u)]) ∧
    (∀ (H : Hp) (a : Addr) (ns : List Int), ns.length ≤ n → (∀ z ∈ ns, Builtin.Int.intBits z ≤ 1048576) → (∀ p ∈ cs, H p.2 = some (.tbl #[])) → SqL K H a (ns.map V.int) →
      sp [.ref a] H (fun v _ => v = .bl true) fun _ _ _ => False) ∧
    ∀ base : Heap, K.In base → base.Ns mainGlobals mg → (∀ p ∈ cs, TabB base mg p.1 p.2) → GOk l.prog w K mg base CX k fa fd [x] sp
theorem walk_g {l : PySem.W.OpenLaw} {n k : Nat} {q : Program} {loose : List Str} {XP : (Str → Option Value) → Heap → Prop} {YP : World → Heap → Prop} {d : DefRec} {K : Params → PySem.W.Frag} {CX : World → CXT} {x : Str}
    (hn : l.most = some n) (small : n ≤ sizeLine) (hdf : d.params.defaults = []) (hr : Room k callerA) (hY : ∀ (w : World) (h : Heap), YP w h → (K w.params).In h)
    (F : ∀ (w : World) (mg : Str → Option Value) (fa : Addr) (h : Heap), YP w h → (K w.params).In h → h.Ns mainGlobals mg → mg d.name = some (.ref fa) → Empt q (K w.params) h → GLaw l w (K w.params) (CX w) k n x mg fa h)
    (hCX : ∀ (w : World) (H : Hp) (s : Shared) (e : Value) (s' : Shared), CX w [] H s (fun _ _ _ => False) e s' → False) :
    PySem.W.WalkO q loose XP YP l.row.toRowW d [] (fun f vs => PySem.call f vs) := by
  refine Att.attach_callB hn hdf ?_
  intro w sA s1 mg mb fa o pm cd doc a vs ns G Y ho hd hcd hmg hobj hints hlen hbits hg
  have KX := hY w _ Y
  have em : Empt q (K w.params) s1.heap := by
    intro x f c t o1 fd1 e dd us sl hx k1 k2 k3 k4 k5 k6
    obtain ⟨r, hr1, hr2⟩ := List.any_eq_true.mp hx
    have hn1 : r.name = x := beq_iff_eq.mp hr2
    obtain ⟨a1, o2, fd2, c2, t2, y1, y2, y3, y4, y5, y6⟩ := G.T.tab r hr1
    have z1 := PySem.W.mg_of KX G.T.g k1
    rw [hn1, z1] at y1
    cases y1
    have z2 := KX _ _ k2
    rw [z2] at y2
    cases y2
    rw [k3] at y3
    cases y3
    rw [k4] at y4
    cases y4
    have y6b := y6
    obtain ⟨⟨oc, vc, e1, e2, e3, e4⟩, hP⟩ := y6b
    have z5 := KX _ _ k5
    rw [z5] at e1
    cases e1
    cases e3
    rw [k6] at e4
    cases e4
    exact ⟨PySem.W.CodeHd.of y5 y6, hP⟩
  obtain ⟨fd, cs, sp, t1, t2, t3, hb, hsp, hF⟩ := F w mg fa _ Y KX G.T.g hmg em
  exact law_gcall KX G.T.g G.T.b G.T.builtins G.T.nolimit hg t1 t2 t3 G.T.bmain hobj hints (Nat.le_trans hlen small) hr hF hb (fun H a1 a2 => hsp H a ns hlen hbits a1 a2) (fun H e s' => hCX w H s1 e s')
end Gd

set_option maxRecDepth 100000
set_option maxHeartbeats 4000000
/-! Things, boxes, texts: what the laws share, over no program. -/
namespace My
open PySem PySem.Spec PyProof.Rows L2 GxR Gd TL
/-! ### things -/
def Good (z : Str) : Prop := ∀ c ∈ z.cps.toList, c < 1114112
inductive Th (H : Hp) : V → Prop
  | non : Th H .non
  | bl (b : Bool) : Th H (.bl b)
  | int (i : Int) : Th H (.int i)
  | str (z : Str) (h : z.length ≤ 1000000) (g : Good z) : Th H (.str z)
  | lst (a : Addr) (xs : List V) (h : H a = some (.lst xs)) : Th H (.ref a)
  | tup (a : Addr) (xs : List V) (h : H a = some (.tup xs)) : Th H (.ref a)
  | dic (a : Addr) {kvs : List (Key × V)} (h : H a = some (.dK kvs)) : Th H (.ref a)
def lc (c : Nat) : Bool := decide (97 ≤ c) && decide (c ≤ 122)
def nm : V → Bool
  | .str z => decide (1 ≤ z.length) && decide (z.length ≤ 6) && z.cps.toList.all lc
  | _ => false
def wh (lo hi : Int) : V → Bool
  | .int i => decide (lo ≤ i) && decide (i ≤ hi)
  | _ => false
/-- its kind -/
theorem Th.ty {K : PySem.W.Frag} {H : Hp} {v : V} (h : Th H v) : ∃ t, TyX K H v (.type t) ∧
    ((∃ i, v = .int i ∧ t = "int") ∨ (∃ b, v = .bl b ∧ t = "bool") ∨ (∃ z, v = .str z ∧ (z.length ≤ 1000000 ∧ Good z) ∧ t = "str") ∨
     ((∀ i, v ≠ .int i) ∧ (∀ b, v ≠ .bl b) ∧ (∀ z, v ≠ .str z) ∧ (t = "NoneType" ∨ t = "list" ∨ t = "tuple" ∨ t = "dict"))) := by
  cases h with
  | non => exact ⟨_, .base .non, .inr (.inr (.inr ⟨by simp, by simp, by simp, .inl rfl⟩))⟩
  | bl b => exact ⟨_, .base (.bl b), .inr (.inl ⟨b, rfl, rfl⟩)⟩
  | int i => exact ⟨_, .base (.int i), .inl ⟨i, rfl, rfl⟩⟩
  | str z h g => exact ⟨_, .base (.str z), .inr (.inr (.inl ⟨z, rfl, ⟨h, g⟩, rfl⟩))⟩
  | lst a xs h => exact ⟨_, .base (.lst h), .inr (.inr (.inr ⟨by simp, by simp, by simp, .inr (.inl rfl)⟩))⟩
  | tup a xs h => exact ⟨_, .base (.tup h), .inr (.inr (.inr ⟨by simp, by simp, by simp, .inr (.inr (.inl rfl))⟩))⟩
  | dic a h => exact ⟨_, .base (.dK h), .inr (.inr (.inr ⟨by simp, by simp, by simp, .inr (.inr (.inr rfl))⟩))⟩
/-- all but the table stays -/
structure KT (P : Addr) (H H' : Hp) : Prop where
  keep : ∀ c o, c ≠ P → H c = some o → H' c = some o
  tab : TabG H' P
theorem TabG.at {H : Hp} {P : Addr} (t : TabG H P) : ∃ ps, H P = some (.tbl ps) := let ⟨ps, h, _⟩ := t; ⟨ps, h⟩
theorem ne_tab {H : Hp} {P a : Addr} {o : HO} (t : TabG H P) (h : H a = some o) (n : ∀ ps, o ≠ .tbl ps) : a ≠ P := by
  rintro rfl
  obtain ⟨ps, e⟩ := TabG.at t
  rw [h] at e
  exact n ps (Option.some.inj e)
theorem KT.refl {P : Addr} {H : Hp} (t : TabG H P) : KT P H H := ⟨fun _ _ _ h => h, t⟩
theorem KT.trans {P : Addr} {H H1 H2 : Hp} (a : KT P H H1) (b : KT P H1 H2) : KT P H H2 := ⟨fun c o n h => b.keep c o n (a.keep c o n h), b.tab⟩
theorem KT.of {P : Addr} {H H' : Hp} (t : Tabbed P H H') : KT P H H' := ⟨fun c o n h => by rw [t.2 c n]; exact h, t.1⟩
theorem KT.alloc {P p : Addr} {H : Hp} {o : HO} (t : TabG H P) (n : H p = none) : KT P H (upd H p o) := by
  obtain ⟨ps, e, ht⟩ := t
  refine ⟨fun c q _ h => by rw [upd_ne (ne_of_none h n)]; exact h, ps, by rw [upd_ne (ne_of_none e n)]; exact e, ht⟩
theorem Th.kt {P : Addr} {H H' : Hp} (t : TabG H P) (k : KT P H H') {v : V} (h : Th H v) : Th H' v := by
  cases h with
  | non => exact .non
  | bl b => exact .bl b
  | int i => exact .int i
  | str z h g => exact .str z h g
  | lst a xs h => exact .lst a xs (k.keep _ _ (ne_tab t h (by simp)) h)
  | tup a xs h => exact .tup a xs (k.keep _ _ (ne_tab t h (by simp)) h)
  | dic a h => exact .dic a (k.keep _ _ (ne_tab t h (by simp)) h)

theorem elt_between {prog : Program} {w : World} {scope : Scope} {x a b : Str} {j1 j2 : Nat} {p1 p2 p3 p4 : Pos} (hk : scope.kind = .function) (hl : scope.names.lookup x = some .local)
    (hd : (x == ("__debug__" : Str)) = false := by decide) :
    EltP prog w scope x (.Compare (.Constant (.str a) j1 p1) [.LtE, .LtE] [.Name x p2, .Constant (.str b) j2 p3] p4) (fun c => !decide ([c] < a.cps.toList) && !decide (b.cps.toList < [c])) := by
  intro cenv A' E' c t s2 m2 hs hn hm
  refine Compare_chain ?_ (by with_unfolding_all rfl)
  refine Calls.Constant_str (chain_link ?_)
  refine wpAny_Name (wpAny_loadName_local (by rw [hs]; exact hk) (show cenv.scope.names.lookup x = some .local by rw [hs]; exact hl) hn hm ?_) hd
  refine PySem.P.le_str ?_
  refine wpAny_truthy_bool ?_
  cases q : decide ([c] < a.cps.toList) with
  | true =>
    refine ite_ff ⟨?_, keeps_tok _ _⟩
    have q' : decide ((⟨#[c]⟩ : Str).cps.toList < a.cps.toList) = true := q
    simp [q']
  | false =>
    refine ite_tt (chain_last ?_)
    refine Calls.Constant_str ?_
    refine PySem.P.le_str ⟨?_, keeps_tok _ _⟩
    have q2 : ¬ [c] < a.cps.toList := of_decide_eq_false q
    simp [List.not_lt.mp q2]
def genSc : Scope := { kind := ScopeKind.function, names := [(Str.ofString ".0", NameKind.local), (Str.ofString "sign", NameKind.local)], isGenerator := true, isCoroutine := false }
theorem no_free : ∀ y ∈ genSc.names, y.2 ≠ NameKind.free := by decide +kernel
theorem one_lt (c d : Nat) : [c] < [d] ↔ c < d := by
  rw [List.cons_lt_cons_iff]
  constructor
  · rintro (h | ⟨_, h⟩)
    · exact h
    · exact absurd h (List.not_lt_nil _)
  · exact .inl
theorem lc_eq (c : Nat) : (!decide ([c] < [97]) && !decide ([122] < [c])) = lc c := by
  unfold lc
  rw [Bool.eq_iff_iff]
  simp only [Bool.and_eq_true, Bool.not_eq_true', decide_eq_false_iff_not, decide_eq_true_eq, one_lt]
  omega
/-! ### the box -/
def Bx (b : Addr) (n : Int) (H : Hp) : Prop := ∃ x y z : Int, H b = some (.lst [.int x, .int y, .int z]) ∧ 0 ≤ x ∧ 0 ≤ y ∧ y < 2147483629 ∧ 0 ≤ z ∧ z ≤ n
theorem Bx.same {b : Addr} {n : Int} {H H' : Hp} (h : Bx b n H) (e : H' b = H b) : Bx b n H' := by
  obtain ⟨x, y, z, h1, r⟩ := h
  exact ⟨x, y, z, e.trans h1, r⟩
theorem Bx.mono {b : Addr} {n m : Int} {H : Hp} (h : Bx b n H) (e : n ≤ m) : Bx b m H := by
  obtain ⟨x, y, z, h1, h2, h3, h4, h5, h6⟩ := h
  exact ⟨x, y, z, h1, h2, h3, h4, h5, by omega⟩
theorem i0 (a b c : V) : atI [a, b, c] 0 = some a := rfl
theorem i1 (a b c : V) : atI [a, b, c] 1 = some b := rfl
theorem i2 (a b c : V) : atI [a, b, c] 2 = some c := rfl
theorem j0 : ixN 3 0 = some 0 := rfl
theorem j2 : ixN 3 2 = some 2 := rfl
/-! ### lists and texts -/
theorem atI_ex {α : Type} {xs : List α} {d : Int} (h0 : 0 ≤ d) (h1 : d < xs.length) : ∃ v, v ∈ xs ∧ atI xs d = some v := by
  obtain ⟨j, rfl⟩ := Int.eq_ofNat_of_zero_le h0
  have hj : j < xs.length := by omega
  exact ⟨xs[j], List.getElem_mem hj, atI_nat (List.getElem?_eq_getElem hj)⟩
theorem joinL_len (S : List Nat) : ∀ ps : List (List Nat), (joinL S ps).length ≤ (ps.map List.length).sum + ps.length * S.length
  | [] => by simp [joinL]
  | [p] => by simp [joinL]
  | p :: q :: r => by
    have ih := joinL_len S (q :: r)
    have e : joinL S (p :: q :: r) = p ++ (S ++ joinL S (q :: r)) := rfl
    rw [e, List.length_append, List.length_append, List.map_cons, List.sum_cons, List.length_cons, Nat.succ_mul]
    omega
theorem tl_len (z : Str) : (tl z).length = z.length := by
  show z.cps.toList.length = z.cps.size
  simp
theorem join_len (y : Str) (ps : List Str) : (Txt.join y ps).length ≤ (ps.map (·.length)).sum + ps.length * y.length := by
  have h := joinL_len (tl y) (ps.map tl)
  rw [← tl_len, join_eq, tl_join]
  have e : (ps.map tl).map List.length = ps.map (·.length) := by
    rw [List.map_map]
    exact List.map_congr_left fun z _ => tl_len z
  rw [e, List.length_map, tl_len] at h
  exact h
theorem sum_ones (ps : List Str) (h : ∀ z ∈ ps, z.length ≤ 1) : (ps.map (·.length)).sum ≤ ps.length := by
  induction ps with
  | nil => simp
  | cons a r ih =>
    have h1 := h a List.mem_cons_self
    have h2 := ih fun z hz => h z (List.mem_cons_of_mem _ hz)
    simp only [List.map_cons, List.sum_cons, List.length_cons]
    omega
theorem lcY {A : TE} {σ : L2.St} {H : Hp} {G : VK} {B : Hp → Prop} (h : A σ H G) : tYes σ H (fun b H3 => if b = true then A σ H3 G else B H3) := by
  show if true = true then A σ H G else B H
  exact iteT h
theorem good_app {a b : Str} (h : Good a) (k : Good b) : Good (a ++ b) := fun c hc => by
  have e : (a ++ b).cps.toList = a.cps.toList ++ b.cps.toList := tl_append a b
  rw [e] at hc
  exact (List.mem_append.mp hc).elim (h c) (k c)
theorem good_cut {a : Str} (h : Good a) (lo hi : Option Int) : Good (cutS a lo hi) := fun c hc => by
  unfold cutS at hc
  exact h c (List.mem_of_mem_drop (List.mem_of_mem_take (by simpa using hc)))
theorem good_joinL {S : List Nat} (hS : ∀ c ∈ S, c < 1114112) : ∀ ps : List (List Nat), (∀ p ∈ ps, ∀ c ∈ p, c < 1114112) → ∀ c ∈ joinL S ps, c < 1114112
  | [], _, c, h => by simp [joinL] at h
  | [p], hp, c, h => hp p List.mem_cons_self c (by simpa [joinL] using h)
  | p :: q :: r, hp, c, h => by
    have e : joinL S (p :: q :: r) = p ++ (S ++ joinL S (q :: r)) := rfl
    rw [e, List.mem_append, List.mem_append] at h
    rcases h with h | h | h
    · exact hp p List.mem_cons_self c h
    · exact hS c h
    · exact good_joinL hS (q :: r) (fun z hz => hp z (List.mem_cons_of_mem _ hz)) c h
theorem good_join {y : Str} {ps : List Str} (hy : Good y) (h : ∀ z ∈ ps, Good z) : Good (Txt.join y ps) := fun c hc => by
  have e : (Txt.join y ps).cps.toList = joinL (tl y) (ps.map tl) := by rw [join_eq]; exact tl_join y ps
  rw [e] at hc
  refine good_joinL hy _ (fun p hp => ?_) c hc
  obtain ⟨z, hz, rfl⟩ := List.mem_map.mp hp
  exact h z hz
theorem good_of (x : String) : Good (Str.ofString x) := fun c hc => by
  have e : (Str.ofString x).cps.toList = x.toList.map Char.toNat := by
    rw [Str.ofString_eq_toList]
  rw [e] at hc
  obtain ⟨d, _, rfl⟩ := List.mem_map.mp hc
  have := d.valid
  unfold UInt32.isValidChar Nat.isValidChar at this
  show d.val.toNat < 1114112
  omega
theorem good_one {z : Str} {c : Nat} (h : Good z) (hc : c ∈ z.cps.toList) : Good ⟨#[c]⟩ := fun d hd => by
  have e : d = c := by simpa using hd
  rw [e]
  exact h c hc
/-- all but the box stays -/
def KB (b : Addr) (H H' : Hp) : Prop := ∀ c o, c ≠ b → H c = some o → H' c = some o
theorem KB.refl (b : Addr) (H : Hp) : KB b H H := fun _ _ _ h => h
theorem KB.trans {b : Addr} {H H1 H2 : Hp} (a : KB b H H1) (c : KB b H1 H2) : KB b H H2 := fun x o n h => c x o n (a x o n h)
theorem KB.off {b : Addr} {H H' : Hp} (h : ∀ a, a ≠ b → H' a = H a) : KB b H H' := fun c o n e => (h c n).trans e
theorem KB.alloc {b p : Addr} {H : Hp} {o : HO} (n : H p = none) : KB b H (upd H p o) := fun c u _ h => by rw [upd_ne (ne_of_none h n)]; exact h
theorem Bx.alloc {b p : Addr} {n : Int} {H : Hp} {o : HO} (h : Bx b n H) (f : H p = none) : Bx b n (upd H p o) := by
  obtain ⟨x, y, z, h1, r⟩ := h
  exact ⟨x, y, z, by rw [upd_ne (ne_of_none h1 f)]; exact h1, r⟩
theorem Bx.put {b p : Addr} {n : Int} {H : Hp} {o : HO} (h : Bx b n H) (f : p ≠ b) : Bx b n (upd H p o) := by
  obtain ⟨x, y, z, h1, r⟩ := h
  exact ⟨x, y, z, by rw [upd_ne f.symm]; exact h1, r⟩
/-- a comprehension over a text's signs -/
theorem lc_text {z : Str} {g : TG} {tt : TT} {te : TE} {vs : List Nat} {σ : L2.St} {H1 : Hp} {D : Addr} {Qd : Hp → Prop} (Pv : Nat → Hp → Prop) (h0 : Pv 0 (upd H1 D (.lst [])))
    (hs : ∀ i c H, z.cps.toList[i]? = some c → Pv i H → g (.str ⟨#[c]⟩) (wipe σ vs) H fun σ2 H2 => wipe σ2 vs = wipe σ vs ∧ tt σ2 H2 fun b H3 =>
      if b = true then te σ2 H3 fun y H4 => ∃ acc, H4 D = some (.lst acc) ∧ acc.length < sizeLine ∧ Pv (i + 1) (upd H4 D (.lst (acc ++ [y]))) else Pv (i + 1) H3) (hd : ∀ H, Pv z.length H → Qd H) :
    ∃ W : Nat → Nat → Hp → Prop, (∃ m, W 0 m (upd H1 D (.lst []))) ∧ ∀ i m H, W i m H →
      ((Its z).stop i H ∧ Qd H) ∨ ((Its z).go i H ∧ ∃ Nx : Hp → Prop, (∀ H', Nx H' → ∃ m', m' < m ∧ W (i + 1) m' H') ∧ ∀ x H', (Its z).yld i H x H' → g x (wipe σ vs) H' fun σ2 H2 => wipe σ2 vs = wipe σ vs ∧ tt σ2 H2 fun b H3 =>
        if b = true then te σ2 H3 fun y H4 => ∃ acc, H4 D = some (.lst acc) ∧ acc.length < sizeLine ∧ Nx (upd H4 D (.lst (acc ++ [y]))) else Nx H3) := by
  refine ⟨fun i m H => i + m = z.cps.size ∧ Pv i H, ⟨z.cps.size, by simp, h0⟩, fun i m H hW => ?_⟩
  obtain ⟨e, p⟩ := hW
  cases m with
  | zero =>
    have ei : i = z.cps.size := e
    subst ei
    exact .inl ⟨Nat.le_refl _, hd H p⟩
  | succ m =>
    refine .inr ⟨show i < z.cps.size by omega, Pv (i + 1), fun H' q => ⟨m, Nat.lt_succ_self m, by omega, q⟩, ?_⟩
    rintro x H' ⟨rfl, c, hc, rfl⟩
    exact hs i c _ (by rw [← hc]; simp) p
def badOf (l : List Nat) : List V := (l.filter fun c => !lc c).map fun c => V.str ⟨#[c]⟩
theorem bad_data {K : PySem.W.Frag} {H : Hp} : ∀ l : List Nat, DpAll K H (l.map fun c => V.str ⟨#[c]⟩) (l.map fun c => PyData.str ⟨#[c]⟩)
  | [] => .nil
  | c :: r => .cons (.str _) (bad_data r)
theorem one_ok {c : Nat} (h : c < 1114112) : PyData.strOk ⟨#[c]⟩ = true := by
  simp [PyData.strOk, h]
theorem bad_shaped : ∀ l : List Nat, (∀ c ∈ l, c < 1114112) → PyData.canLayAll0 (l.map fun c => PyData.str ⟨#[c]⟩) = true
  | [], _ => by simp [PyData.canLayAll0]
  | c :: r, h => by
    simp only [List.map_cons, PyData.canLayAll0, PyData.canLay0, Bool.and_eq_true]
    exact ⟨one_ok (h c List.mem_cons_self), bad_shaped r fun d hd => h d (List.mem_cons_of_mem _ hd)⟩
theorem bad_depth : ∀ l : List Nat, PyData.depthAll (l.map fun c => PyData.str ⟨#[c]⟩) = 0
  | [] => by simp [PyData.depthAll]
  | c :: r => by
    simp only [List.map_cons, PyData.depthAll, PyData.depth, bad_depth r]
    rfl
theorem letters_mem (c : Nat) : decide (c ∈ (Str.ofString "abcdefghijklmnopqrstuvwxyz").cps.toList) = lc c := by
  have e : (Str.ofString "abcdefghijklmnopqrstuvwxyz").cps.toList = (List.range 26).map (· + 97) := by decide +kernel
  rw [e]
  unfold lc
  rw [Bool.eq_iff_iff]
  simp only [decide_eq_true_eq, List.mem_map, List.mem_range, Bool.and_eq_true]
  constructor
  · rintro ⟨a, h, rfl⟩
    omega
  · intro h
    exact ⟨c - 97, by omega, by omega⟩
/-- a fresh place is no box -/
theorem Bx.fresh {b p : Addr} {n : Int} {H : Hp} (h : Bx b n H) (f : H p = none) : p ≠ b := by
  rintro rfl
  obtain ⟨x, y, z, e, _⟩ := h
  rw [f] at e
  cases e
theorem dec9000 {m : Int} (h0 : 0 < m) (h : m ≤ 10 ^ 30) : m.natAbs.log2 < 9000 := by
  have h1 : m.natAbs ≤ 10 ^ 30 := by omega
  have h2 : m.natAbs < 2 ^ 100 := Nat.lt_of_le_of_lt h1 (by decide)
  have h3 := (Nat.log2_lt (by omega)).mpr h2
  omega
theorem log1900 {m : Int} (h : m.natAbs ≤ 10 ^ 31) : m.natAbs.log2 < 1900 := by
  by_cases h0 : m.natAbs = 0
  · rw [h0]
    decide
  · have h2 : m.natAbs < 2 ^ 110 := Nat.lt_of_le_of_lt h (by decide)
    have h3 := (Nat.log2_lt h0).mpr h2
    omega
/-- a place in a list of the script stays -/
theorem seq_kt {K : PySem.W.Frag} {P a : Addr} {H H' : Hp} {xs : List V} (t : TabG H P) (k : KT P H H') (h : SqL K H a xs) : SqL K H' a xs := by
  rcases h with (h | ⟨o, h⟩) | h
  · exact .inl (.inl (k.keep _ _ (ne_tab t h (by simp)) h))
  · exact .inl (.inr ⟨o, k.keep _ _ (ne_tab t h (by simp)) h⟩)
  · exact .inr h
/-- what a row of steps with the box does to all else -/
theorem KT.box {P b : Addr} {H H' H1 : Hp} (t : TabG H P) (f : H b = none) (e : ∀ a, a ≠ b → H1 a = H a) (k : KB b H1 H') : KT P H H' := by
  obtain ⟨ps, ht, tr⟩ := t
  have nb : P ≠ b := ne_of_none ht f
  exact ⟨fun c o _ h => k c o (ne_of_none h f) ((e c (ne_of_none h f)).trans h), ps, k P _ nb ((e P nb).trans ht), tr⟩
theorem two_bools (a b : Bool) : (PyData.list [.bool a, .bool b]).shown.length ≤ sizeLine := by
  cases a <;> cases b <;> decide +kernel
end My

set_option maxRecDepth 100000
set_option maxHeartbeats 4000000
namespace E9
open PySem PySem.Spec PyProof.Rows L2 GxR Gd TL My
/-! ### the text -/
def top (i : Nat) : Stmt := PySem.Challenge.pw_onestaff_k09_refusals_apart.main.body.getD i (.Pass ⟨0, 0, 0, 0⟩)
abbrev sCell : Stmt := top 50
abbrev sBox : Stmt := top 51
abbrev sTake : Stmt := top 52
structure Txt (mg : Str → Option Value) : Prop where
  isinstance_ : mg "isinstance" = none
  int_ : mg "int" = none
  bool_ : mg "bool" = none
  str_ : mg "str" = none
  len_ : mg "len" = none
  all_ : mg "all" = none
  max_ : mg "max" = none
  min_ : mg "min" = none
  range_ : mg "range" = none
  repr_ : mg "repr" = none
  list_ : mg "list" = none
  tuple_ : mg "tuple" = none
  enumerate_ : mg "enumerate" = none
  sorted_ : mg "sorted" = none
structure Fn (K : PySem.W.Frag) (mg : Str → Option Value) (x : Str) (st : Stmt) (ps : List Str) (f : Addr) (fd : FuncData) : Prop where
  fn : Fun K x x st f fd
  g : mg x = some (.ref f)
  b : Binds K fd ps []
theorem Fn.kp {K : PySem.W.Frag} {mg : Str → Option Value} {x : Str} {st : Stmt} {ps : List Str} {f : Addr} {fd : FuncData} (h : Fn K mg x st ps f fd) : PySem.W.keepIn K (.ref f) = true := h.fn.kp
section
variable {P : Program} {w : World} {K : PySem.W.Frag} {mg : Str → Option Value} {base : Heap}
def spCell (K : PySem.W.Frag) : Sp := fun vs H Q _ => ∃ (l : Addr) (ns : List Int) (j : Nat), vs = [.ref l, .int (j : Int)] ∧ SqL K H l (ns.map V.int) ∧ ∀ i : Int, Q (.int i) H
theorem scCell : FnScope ["_law_script", "_law_k"] ["_law_script", "_law_k"] (defScope sCell) := ⟨rfl, rfl, rfl, by decide +kernel, rfl, by decide +kernel, by decide +kernel⟩
theorem ok_cell {f : Addr} {fd : FuncData} (F : Fun K "_law_cell" "_law_cell" sCell f fd) (T : Txt mg) : FnOk P w K mg base CX0 1 f fd ["_law_script", "_law_k"] (spCell K) := by
  refine F.ok scCell (fun vs H Q E h => ?_) (fun cdv A outer s H vs Q E hr h => ?_)
  · obtain ⟨l, ns, j, rfl, _⟩ := h
    rfl
  · obtain ⟨l, ns, j, rfl, hS, k⟩ := h
    refine ⟨_, pss_cons (ps_if (pt_cmpR op_lt (pv 1) (pe_callB call_len_seq (by rfl) T.len_ PySem.boot_len (pa_cons (pv 0) pa_nil)) (nomark _)) (pss_one (ps_ret (pe_ix ix_list (pv 0) (pv 1) (fun _ _ => rfl)))) pss_nil)
      (pss_one (ps_ret (pe_op op_add (pe_op op_mul pe_int (pv 1)) pe_int))), ?_⟩
    refine ⟨_, rfl, _, rfl, l, _, rfl, .inl hS, _, _, rfl, rfl, _, rfl, ite2 (fun c => ?_) (fun c => ?_)⟩
    · have c1 : (j : Int) < ((ns.map V.int).length : Nat) := of_decide_eq_true c
      have c2 : j < ns.length := by rw [List.length_map] at c1; omega
      refine ⟨_, rfl, _, rfl, l, _, _, _, rfl, rfl, hS, atI_nat (v := .int ns[j]) ?_, k _⟩
      rw [List.getElem?_map, List.getElem?_eq_getElem c2]
      rfl
    · exact ⟨_, rfl, _, _, rfl, rfl, .inl ⟨by decide, by decide⟩, _, _, rfl, rfl, k _⟩
def spBox : Sp := fun vs H Q _ => ∃ c : Int, vs = [.int c] ∧ ∀ b H', H b = none → (∀ a, a ≠ b → H' a = H a) → Bx b 0 H' → Q (.ref b) H'
theorem scBox : FnScope ["_law_cell_here"] ["_law_cell_here"] (defScope sBox) := ⟨rfl, rfl, rfl, by decide +kernel, rfl, by decide +kernel, by decide +kernel⟩
theorem ok_box {f : Addr} {fd : FuncData} (F : Fun K "_law_box" "_law_box" sBox f fd) (T : Txt mg) : FnOk P w K mg base CX0 1 f fd ["_law_cell_here"] spBox := by
  refine F.ok scBox (fun vs H Q E h => ?_) (fun cdv A outer s H vs Q E hr h => ?_)
  · obtain ⟨c, rfl, _⟩ := h
    rfl
  · obtain ⟨c, rfl, k⟩ := h
    refine ⟨_, pss_one (ps_ret (pe_lst (pa_cons (pe_callB (call_max2 rfl) (by rfl) T.max_ (by decide +kernel) (pa_cons pe_int (pa_cons (pe_op op_sub (pv 0) (pe_op op_pow pe_int pe_int)) pa_nil))) (pa_cons (pe_op op_mod (pv 0) pe_int) (pa_cons pe_int pa_nil))))), ?_⟩
    refine ⟨_, rfl, _, _, rfl, rfl, ⟨by decide, by decide, by decide⟩, _, _, rfl, rfl, _, _, rfl, ?_⟩
    refine ⟨_, rfl, _, _, rfl, rfl, (by show (0 : Int) < 2147483629; decide), ?_⟩
    refine ⟨(by show 3 ≤ sizeLine; decide), fun b hb => ?_⟩
    refine k b _ hb (fun a na => upd_ne na) ⟨_, _, 0, upd_same, ?_, ?_, ?_, Int.le_refl _, Int.le_refl _⟩
    · split <;> omega
    · exact Int.emod_nonneg _ (by decide)
    · exact Int.emod_lt_of_pos _ (by decide)
def spTake : Sp := fun vs H Q _ => ∃ (b : Addr) (many n : Int), vs = [.ref b, .int many] ∧ Bx b n H ∧ n ≤ 100000 ∧ 0 < many ∧ many.natAbs.log2 < 9000 ∧
  ∀ d H', 0 ≤ d → d < many → (∀ a, a ≠ b → H' a = H a) → Bx b (n + 1) H' → Q (.int d) H'
theorem scTake : FnScope ["_law_box_here", "_law_many", "_law_digit", "_law_number"] ["_law_box_here", "_law_many"] (defScope sTake) := ⟨rfl, rfl, rfl, by decide +kernel, rfl, by decide +kernel, by decide +kernel⟩
theorem ok_take {f : Addr} {fd : FuncData} (F : Fun K "_law_take" "_law_take" sTake f fd) : FnOk P w K mg base CX0 1 f fd ["_law_box_here", "_law_many"] spTake := by
  refine F.ok scTake (fun vs H Q E h => ?_) (fun cdv A outer s H vs Q E hr h => ?_)
  · obtain ⟨b, many, n, rfl, _⟩ := h
    rfl
  · obtain ⟨b, many, n, rfl, ⟨x, y, z, hb, x0, y0, y1, z0, zn⟩, hn, m0, ml, k⟩ := h
    refine ⟨_, pss_cons (ps_if (pt_cmpR op_gt (pe_ix ix_list (pv 0) pe_int (fun _ _ => rfl)) pe_int (nomark _))
        (pss_cons (ps_set (i := 2) scTake.nd rfl (Or.inl rfl) (pe_op op_mod (pe_ix ix_list (pv 0) pe_int (fun _ _ => rfl)) (pv 1)))
        (pss_cons (ps_asg (pe_op op_fdivW (pe_ix ix_list (pv 0) pe_int (fun _ _ => rfl)) (pv 1)) (pg_sub (pv 0) pe_int set_list))
        (pss_one (ps_ret (pv 2))))) pss_nil)
      (pss_cons (ps_asg (pe_op op_add (pe_ix ix_list (pv 0) pe_int (fun _ _ => rfl)) pe_int) (pg_sub (pv 0) pe_int set_list))
      (pss_cons (ps_set (i := 3) scTake.nd rfl (Or.inl rfl) (pe_op op_mod (pe_op op_pow (pe_op op_add (pe_op op_add (pe_ix ix_list (pv 0) pe_int (fun _ _ => rfl)) (pe_op op_mul pe_int (pe_ix ix_list (pv 0) pe_int (fun _ _ => rfl)))) pe_int) pe_int) pe_int))
      (pss_cons (ps_set (i := 3) scTake.nd rfl (Or.inl rfl) (pe_op op_mod (pe_op op_pow (pe_op op_add (pv 3) (pe_op op_mul pe_int (pe_ix ix_list (pv 0) pe_int (fun _ _ => rfl)))) pe_int) pe_int))
      (pss_one (ps_ret (pe_op op_mod (pe_op op_fdiv (pv 3) pe_int) (pv 1))))))), ?_⟩
    have hL : SqL K H b [.int x, .int y, .int z] := SqL.of hb
    refine ⟨_, rfl, b, _, _, _, rfl, rfl, hL, i0 _ _ _, _, _, rfl, rfl, _, rfl, ite2 (fun c => ?_) (fun c => ?_)⟩
    · refine ⟨_, rfl, b, _, _, _, rfl, rfl, hL, i0 _ _ _, _, rfl, _, _, rfl, rfl, m0, ?_⟩
      refine ⟨_, rfl, b, _, _, _, rfl, rfl, hL, i0 _ _ _, _, rfl, _, _, rfl, rfl, ⟨m0, ml⟩, ?_⟩
      refine ⟨_, rfl, b, _, _, _, rfl, rfl, hb, j0, ?_⟩
      refine ⟨_, rfl, ?_⟩
      exact k _ _ (Int.emod_nonneg _ (by omega)) (Int.emod_lt_of_pos _ m0) (fun a na => upd_ne na) ⟨_, _, _, upd_same, Int.ediv_nonneg x0 (by omega), y0, y1, z0, by omega⟩
    · refine ⟨_, rfl, b, _, _, _, rfl, rfl, hL, i2 _ _ _, _, _, rfl, rfl, ?_⟩
      refine ⟨_, rfl, b, _, _, _, rfl, rfl, hb, j2, ?_⟩
      have h1 : upd H b (.lst ([V.int x, .int y, .int z].set 2 (.int (z + 1)))) b = some (.lst [.int x, .int y, .int (z + 1)]) := upd_same
      have hL1 : SqL K (upd H b (.lst ([V.int x, .int y, .int z].set 2 (.int (z + 1))))) b [.int x, .int y, .int (z + 1)] := SqL.of h1
      refine ⟨_, rfl, b, _, _, _, rfl, rfl, hL1, i1 _ _ _, _, rfl, b, _, _, _, rfl, rfl, hL1, i2 _ _ _, _, _, rfl, rfl, .inl ⟨by decide, by decide⟩, _, _, rfl, rfl, _, _, rfl, rfl,
        _, _, rfl, rfl, ⟨by decide, by decide, ?_⟩, _, _, rfl, rfl, (by show (0 : Int) < 2147483647; decide), ?_⟩
      · omega
      refine ⟨_, rfl, _, rfl, b, _, _, _, rfl, rfl, hL1, i2 _ _ _, _, _, rfl, rfl, .inl ⟨by decide, by decide⟩, _, _, rfl, rfl,
        _, _, rfl, rfl, ⟨by decide, by decide, ?_⟩, _, _, rfl, rfl, (by show (0 : Int) < 2147483587; decide), ?_⟩
      · have g0 := Int.emod_nonneg ((y + 7919 * (z + 1) + 11) ^ (5 : Int).toNat) (show (2147483647 : Int) ≠ 0 by decide)
        have g1 := Int.emod_lt_of_pos ((y + 7919 * (z + 1) + 11) ^ (5 : Int).toNat) (show (0 : Int) < 2147483647 by decide)
        generalize (y + 7919 * (z + 1) + 11) ^ (5 : Int).toNat % 2147483647 = q at g0 g1 ⊢
        omega
      refine ⟨_, rfl, _, _, rfl, rfl, ⟨by decide, by decide⟩, _, rfl, _, _, rfl, rfl, m0, ?_⟩
      exact k _ _ (Int.emod_nonneg _ (by omega)) (Int.emod_lt_of_pos _ m0) (fun a na => upd_ne na) ⟨_, _, _, h1, x0, y0, y1, by omega, by omega⟩
end
end E9


set_option maxRecDepth 100000
set_option maxHeartbeats 1000000
/-! Refusals: a try with clauses, named or not, in any order; a class's def called by the class; isinstance of what was caught. -/
namespace My
open PySem PySem.Spec PyProof.Rows L2 GxR
/-! ### a try with clauses, named or not -/
abbrev Cl := Value × Option Nat × (Addr → Value → Option Addr → TS)
/-- what follows is the same by two ways: I holds there -/
theorem cutR {A : Prop} {G : Hp → Prop} (I : Hp → Prop) (main : (∀ H, I H → G H) → A) (last : ∀ H, I H → G H) : A := main last
def endsOff (i : Nat) (D : Ends) : Ends :=
  { nx := fun τ G => D.nx (τ.set i none) G, rt := D.rt, bk := fun τ G => D.bk (τ.set i none) G, ct := fun τ G => D.ct (τ.set i none) G }
def suiteOf (i : Option Nat) (t : TS) (a : Addr) (D : Ends) (σ : L2.St) (H : Hp) : Prop :=
  match i with
  | none => t D σ H
  | some i => t (endsOff i D) (σ.set i (some (.ref a))) H
/-- what the clauses wish, one behind the other -/
def wCl (K : PySem.W.Frag) (Wout : WX) (D : Ends) : List Cl → WX
  | [] => Wout
  | p :: l => fun cls d σ H => ∃ b, PySem.W.exmOne K cls p.1 = some b ∧
      (b = true → ∀ a, H a = none → suiteOf p.2.1 (p.2.2 a cls d) a D σ H) ∧ (b = false → wCl K Wout D l cls d σ H)
def SuiteOk (X : Cx) (ss : List Stmt) (ts : Addr → Value → Option Addr → TS) : Prop :=
  ∀ (a : Addr) (oe : Obj) (cls : Value) (d : Option Addr) (pn : List (Addr × Obj)), Zc cls d oe → (∃ fv, oe.data = .fields fv) → PSs (X.suite a ((a, oe) :: pn)) ss (ts a cls d)
inductive Clauses (X : Cx) : List ExceptHandler → List Cl → Prop
  | nil : Clauses X [] []
  | plain {x : Str} {c : Value} {ts : Addr → Value → Option Addr → TS} {st : Stmt} {ss : List Stmt} {p q : Pos} {hds : List ExceptHandler} {l : List Cl}
      (hc : Names X x c) (hsu : SuiteOk X (st :: ss) ts) (r : Clauses X hds l) : Clauses X (.ExceptHandler (some (.Name x p)) none (st :: ss) q :: hds) ((c, none, ts) :: l)
  | named {x n : Str} {i : Nat} {c : Value} {ts : Addr → Value → Option Addr → TS} {st : Stmt} {ss : List Stmt} {p q : Pos} {hds : List ExceptHandler} {l : List Cl}
      (hc : Names X x c) (hi : X.N[i]? = some n) (hn : X.env.kindOf n = some .local) (hsu : SuiteOk X (st :: ss) ts) (r : Clauses X hds l) :
      Clauses X (.ExceptHandler (some (.Name x p)) (some n) (st :: ss) q :: hds) ((c, some i, ts) :: l)
/-- an exception in hand -/
structure InHand (X : Cx) (pins : List (Addr × Obj)) (σ : L2.St) (H : Hp) (cls : Value) (d : Option Addr) (a : Addr) (B : Heap) (sI s : Shared) : Prop where
  inv : Inv X pins σ H sI
  grd : ∀ b o, sI.heap.get? b = some o → b ∉ frs X.stack → B.get? b = some o
  up : sI.heap.UpToSlots s.heap
  fly : HandSPX.FlyingZ B (X.env :: X.outer) a (Zc cls d) s.heap
  new : H a = none
  os : s.os = sI.os
  ag : AllBare s.gens
section
variable {X : Cx} {pins : List (Addr × Obj)} {σ : L2.St} {H : Hp} {cls : Value} {d : Option Addr} {a : Addr} {B : Heap} {sI s : Shared}
theorem InHand.now (h : InHand X pins σ H cls d a B sI s) : Inv X pins σ H s := h.inv.landed h.grd h.fly.1 h.up h.os h.ag
theorem InHand.move (h : InHand X pins σ H cls d a B sI s) {g : Heap} (f : HandSPX.FlyingZ B (X.env :: X.outer) a (Zc cls d) g) (u : s.heap.UpToSlots g) :
    InHand X pins σ H cls d a B sI { s with heap := g } := ⟨h.inv, h.grd, h.up.trans u, f, h.new, h.os, h.ag⟩
theorem InHand.seen (h : InHand X pins σ H cls d a B sI s) (hf : X.env.frame = some X.env.locals) :
    ∃ oe fv, s.heap.get? a = some oe ∧ Zc cls d oe ∧ oe.data = .fields fv ∧ a ≠ X.env.locals ∧ a ∉ X.fs := by
  obtain ⟨oe, fv, e1, e2, e3⟩ := h.fly.there
  have off : a ∉ frs (X.env :: X.outer) := by
    intro m
    obtain ⟨_, o2, e4, no⟩ := h.fly.2.2.1.mem m
    rw [e1] at e4
    obtain rfl := Option.some.inj e4
    exact no _ e3
  refine ⟨oe, fv, e1, e2, e3, fun z => off ?_, fun z => off ?_⟩
  · rw [z]
    exact List.mem_filterMap.mpr ⟨X.env, by simp, hf⟩
  · obtain ⟨v, hv, q⟩ := List.mem_filterMap.mp z
    exact List.mem_filterMap.mpr ⟨v, by simp [hv], q⟩
/-- the suite of a clause behind the try's own end -/
theorem InHand.leave (ok : X.Ok) {oe : Obj} {D : Ends} {f : Flow} {s2 : Shared} (h : SP (X.suite a ((a, oe) :: (X.pn ++ pins))) [] D f s2) : SP X pins D f s2 := by
  cases f with
  | ret u => obtain ⟨v, τ, G, J, r, q⟩ := h; exact ⟨v, τ, G, J.unsuite ok, r, q⟩
  | next => obtain ⟨τ, G, J, q⟩ := h; exact ⟨τ, G, J.unsuite ok, q⟩
  | brk => obtain ⟨τ, G, J, q⟩ := h; exact ⟨τ, G, J.unsuite ok, q⟩
  | cont => obtain ⟨τ, G, J, q⟩ := h; exact ⟨τ, G, J.unsuite ok, q⟩
/-- no clause took it -/
theorem InHand.out (hs : X.stack = X.env :: X.outer) (hf : X.env.frame = some X.env.locals) {Wout : WX} (tk : Takes X Wout) (h : InHand X pins σ H cls d a B sI s) (w : Wout cls d σ H) {Q : Flow → Shared → Prop} :
    wpAny (model X.prog X.w) X.A (handleBy (.ref a) X.env []) Q X.xe s := by
  have fly := h.fly
  refine wpAny_handleBy_nil ?_
  obtain ⟨_, _, _, oe, fv, T, _, _, e1, _, e2, e3, _⟩ := id h.fly
  unfold PySem.passOn
  refine wpAny_bind (wpAny_field e1 e2 e3 ?_)
  rw [if_neg (by simp)]
  have last : wpAny (model X.prog X.w) X.A (setFlight (.ref a) X.env.frame) (fun _ z => wpAny (model X.prog X.w) X.A (throw (.ref a) : Sem Flow) Q X.xe z) X.xe s := by
    rw [hf]
    refine HandSPX.setFlight_upZ fly fun g held up => wpAny_throw (tk _ _ ⟨a, B, sI, pins, σ, H, cls, d, rfl, h.inv, h.grd, h.up.trans up, .inr (.inr ?_), h.new, h.os, h.ag, w⟩)
    rw [hs]
    exact held
  first
    | exact wpAny_bind last
    | exact wpAny_bind (wpAny_pure (wpAny_bind last))
/-- the class that a clause names, told -/
theorem InHand.named (h : InHand X pins σ H cls d a B sI s) (hf : X.env.frame = some X.env.locals) {x : Str} {c : Value} {p : Pos} (hc : Names X x c) {Q : Value → Shared → Prop} {E : Value → Shared → Prop} (q : Q c s) :
    wpAny (model X.prog X.w) (X.A.mark (some (.ref a))) (eval (.Name x p) X.env) Q E s := by
  obtain ⟨oe, fv, e1, _, e3, n1, n2⟩ := h.seen hf
  have S := h.now.suite e1 e3 h.new n1 n2
  obtain ⟨hg, hd, hm | ⟨hm, hv, hn⟩⟩ := hc
  · exact ld_glob (X := X.suite a ((a, oe) :: (X.pn ++ pins))) S hg hm q hd
  · exact ld_blt (X := X.suite a ((a, oe) :: (X.pn ++ pins))) S hg hm hv q hn hd
theorem InHand.through (hs : X.stack = X.env :: X.outer) (hf : X.env.frame = some X.env.locals) (hN : X.N.Nodup) {Wout : WX} (tk : Takes X Wout) {D : Ends} {hds : List ExceptHandler} {l : List Cl}
    (ck : Clauses X hds l) : ∀ {s : Shared}, InHand X pins σ H cls d a B sI s → wCl X.K Wout D l cls d σ H → wpAny (model X.prog X.w) X.A (handleBy (.ref a) X.env hds) (SP X pins D) X.xe s := by
  induction ck with
  | nil => exact fun h w => h.out hs hf tk w
  | @plain x c ts st ss p q hds l hc hsu r ih =>
    rintro s h ⟨b, hb, yes, no⟩
    have fly := h.fly
    obtain ⟨oe, fv, e1, e2, _⟩ := h.seen hf
    have own : PySem.W.Looks (model X.prog X.w) s.heap (typeOf (.ref a)) cls := fun _ _ _ z k q => wpAny_typeOf_ref (k _ _ e1) (by rw [e2.1]; exact q)
    refine wpAny_handleBy_cons (codeAny_handlers_test (h.named hf hc ((PySem.W.exm_one h.now.kIn own hb).here ?_))) (fun z => by cases z)
    cases b with
    | false => exact ih h (no rfl)
    | true =>
      refine codeAny_handlers_suite (HandSPX.lands_againZ fly fun g f2 u2 => ?_)
      have h2 := h.move f2 u2
      obtain ⟨oe2, fv2, i1, i2, i3, i4, i5⟩ := h2.seen hf
      exact wpAny_mono ((hsu a oe2 cls d (X.pn ++ pins) i2 ⟨_, i3⟩).run [] _ _ _ _ (h2.now.suite i1 i3 h.new i4 i5) (yes rfl a h.new)) (fun f z y => InHand.leave h.inv.ok y) fun _ _ z => z.elim
  | @named x n i c ts st ss p q hds l hc hi hn hsu r ih =>
    rintro s h ⟨b, hb, yes, no⟩
    have fly := h.fly
    obtain ⟨oe, fv, e1, e2, _⟩ := h.seen hf
    have own : PySem.W.Looks (model X.prog X.w) s.heap (typeOf (.ref a)) cls := fun _ _ _ z k q => wpAny_typeOf_ref (k _ _ e1) (by rw [e2.1]; exact q)
    refine wpAny_handleBy_cons (codeAny_handlers_test (h.named hf hc ((PySem.W.exm_one h.now.kIn own hb).here ?_))) (fun z => by cases z)
    cases b with
    | false => exact ih h (no rfl)
    | true =>
      refine codeAny_handlers_suite_as (HandSPX.lands_againZ fly fun g f2 u2 => ?_)
      have h2 := h.move f2 u2
      obtain ⟨oe2, fv2, i1, i2, i3, i4, i5⟩ := h2.seen hf
      refine store_ok (X := X.suite a ((a, oe2) :: (X.pn ++ pins))) (v := .ref a) (h2.now.suite i1 i3 h.new i4 i5) hN hi (.inl hn) rfl (fun z J => ?_) (.inr hn)
      refine wpAny_mono ((hsu a oe2 cls d (X.pn ++ pins) i2 ⟨_, i3⟩).run [] z _ _ _ J (yes rfl a h.new)) (fun f y k => ?_) fun _ _ z => z.elim
      have k' := InHand.leave h.inv.ok k
      cases f with
      | next => obtain ⟨τ, G, J2, q2⟩ := k'; exact gone_ok J2 hN hi hn fun _ J3 => ⟨_, _, J3, q2⟩
      | brk => obtain ⟨τ, G, J2, q2⟩ := k'; exact gone_ok J2 hN hi hn fun _ J3 => ⟨_, _, J3, q2⟩
      | cont => obtain ⟨τ, G, J2, q2⟩ := k'; exact gone_ok J2 hN hi hn fun _ J3 => ⟨_, _, J3, q2⟩
      | ret u => obtain ⟨v, τ, G, J2, r2, q2⟩ := k'; exact gone_ok J2 hN hi hn fun _ J3 => ⟨_, _, _, J3, r2, q2⟩
end
/-- try: body, any clauses -/
theorem ps_try_cl {X : Cx} {body : List Stmt} {hd : ExceptHandler} {hds : List ExceptHandler} {l : List Cl} {pos : Pos} {tb : WX → TS} {Wout : WX} (hs : X.stack = X.env :: X.outer) (hf : X.env.frame = some X.env.locals) (hN : X.N.Nodup)
    (tk : Takes X Wout) (ck : Clauses X (hd :: hds) l)
    (hb : ∀ (W : WX) (pn : List (Addr × Obj)) (xe : Value → Shared → Prop), Takes (X.tr pn xe) W → PassesOwn (model X.prog X.w) X.A X.env xe → PSs (X.tr pn xe) body (tb W)) :
    PS X (.Try body (hd :: hds) [] [] pos) (fun D σ H => tb (wCl X.K Wout D l) D σ H) := by
  refine ⟨fun pins s σ H D I h => wpAny_Try_except ?_⟩
  have ok := I.ok
  have fr : X.A.frames = some (X.env :: X.outer) := by rw [ok.frames, hs]
  let xe : Value → Shared → Prop := fun e z => wpAny (model X.prog X.w) X.A (noteFrame e X.env) (fun _ z2 => wpAny (model X.prog X.w) X.A (setFlight e none)
    (fun _ z3 => wpAny (model X.prog X.w) X.A (handleBy e X.env (hd :: hds)) (SP X pins D) X.xe z3) X.xe z2) X.xe z
  have take : Takes (X.tr (X.pn ++ pins) xe) (wCl X.K Wout D l) := by
    rintro _ z ⟨a, B, sI, pn, τ, G, cls, d, rfl, J, grd, up, sky, new, os, ag, w⟩
    rw [show (X.tr (X.pn ++ pins) xe).stack = X.env :: X.outer from hs] at sky
    refine Sky.land Zc.steady fr hf sky fun g fly u => ?_
    exact InHand.through hs hf hN tk ck (s := { z with heap := g }) ⟨J.ofTry ok, grd, up.trans u, fly, new, os, ag⟩ w
  refine wpAny_mono ((hb _ _ xe take PassesOwn.looking).run [] s σ H D (I.toTry _) h) (fun f z k => ?_) fun _ _ z => z
  cases f with
  | next => obtain ⟨τ, G, J, q⟩ := k; exact wpAny_execs_nil ⟨τ, G, J.ofTry ok, q⟩
  | brk => obtain ⟨τ, G, J, q⟩ := k; exact ⟨τ, G, J.ofTry ok, q⟩
  | cont => obtain ⟨τ, G, J, q⟩ := k; exact ⟨τ, G, J.ofTry ok, q⟩
  | ret u => obtain ⟨v, τ, G, J, r, q⟩ := k; exact ⟨v, τ, G, J.ofTry ok, r, q⟩
/-! ### C.m(e, ..), C a class of the program -/
/-- what the written part says of a def f that a class at C tells by its name -/
structure ClsDef (K : PySem.W.Frag) (C f : Addr) (n : Str) : Prop where
  ga : PySem.W.specialIn K (.ref C) "__getattribute__" = some (some (.builtin "type.__getattribute__"))
  rd : PySem.W.readsIn K C (.type "type") = true
  at_ : PySem.W.findCls K (.ref C) (.type "type") n = some (.val (.ref f))
section
variable {X : Cx} {CX : CXT} {k : Nat} {C f : Addr} {fd : FuncData} {ps : List Str} {sp : Sp} {dvs : List V} {ds : List Value} {E : XK} {x n : Str} {p1 p2 pos : Pos} {e : Expr} {es : List Expr} {t : TA}
theorem pe_ccall {pl : Sem Bool} (T : ClsDef X.K C f n) (F : FnOk X.prog X.w X.K X.mg X.base CX k f fd ps sp) (hr : Room k X.A) (hg : Gl X x) (hm : X.mg x = some (.ref C)) (hk : PySem.W.keepIn X.K (.ref f) = true)
    (hb : Binds X.K fd ps ds) (hd : Vals dvs ds) (hx : Passes CX X E) (ha : PA X (e :: es) t) (hdb : (x == ("__debug__" : Str)) = false := by decide)
    (hc : eval (.Call (.Attribute (.Name x p1) n p2) (e :: es) [] pos) X.env = (do
      let ov ← eval (.Name x p1) X.env
      standAt p2.atName
      let (f, first) ← holding [ov] (getMethod ov n pl)
      callWith pos f first (backTo pos (starEach (e :: es) X.env)) (backToKw pos (keywordEach [] X.env))) := by rfl)
    (he : starEach (e :: es) X.env = (false, eval e X.env) :: starEach es X.env := by rfl) (hpl : (backTo pos (starEach es X.env)).any (·.1) = false := by rfl) :
    PE X (.Call (.Attribute (.Name x p1) n p2) (e :: es) [] pos) (tCall sp dvs E t) := by
  refine ⟨fun pins s σ H Q I h => PySem.W.methodCall_KW (ld_glob I hg hm ?_ hdb) hc⟩
  refine PySem.W.method_cls I.kIn T.ga (PySem.W.cls_value I.kIn T.rd T.at_ rfl ?_)
  refine PySem.W.callWith_K (h₀ := X.base) I.ok.mod.kin hk (thn (ha.run pos pins _ σ H _ (I.tok _) h) ?_) he hpl
  rintro us s1 ⟨vs, H1, I1, r, q⟩
  refine ⟨I1.kIn, ?_⟩
  have both := r.append hd
  have len : (us ++ ds).length = ps.length := (both.length).symm.trans (F.len _ _ _ _ q)
  refine wpAny_call (codeAny_mono (F.run X.A X.stack s1 H1 ⟨us, []⟩ (us ++ ds) (vs ++ dvs) Q E hr I1.env0 (hb s1 us I1.kIn len) both q) ?_)
  intro res z hz
  match res, hz with
  | .ok (.ret u), hz => exact I1.after hz
  | .error e, hz => exact hx pins σ H1 s1 e z I1 hz
  | .ok .next, hz => exact hz.elim
  | .ok .brk, hz => exact hz.elim
  | .ok .cont, hz => exact hz.elim
end
/-! ### o.m(e, ..) in a try's body -/
section
variable {X : Cx} {CX : CXT} {k : Nat} {C f : Addr} {fd : FuncData} {ps : List Str} {sp : Sp} {E : L2.St → XK} {m : Str} {pos apos : Pos} {e o : Expr} {es : List Expr} {ta : TE} {t : TA}
def tMethX (C : Addr) (m : Str) (sp : Sp) (E : L2.St → XK) (ta : TE) (t : TA) : TE := fun σ H Q => ta σ H fun x G => ∃ a dx fs, x = .ref a ∧ G a = some (.ins C dx fs) ∧ fs.lookup m = none ∧
  t σ G fun vs G2 => sp (x :: vs) G2 Q (E σ)
theorem pe_methX {pl : Sem Bool} (he : PE X o ta) (c : Cls X.K C) (hm : Meth X.K C m f) (F : FnOk X.prog X.w X.K X.mg X.base CX k f fd ps sp) (hr : Room k X.A) (hb : Binds X.K fd ps []) (hx : ∀ σ, PassesAt CX X σ (E σ)) (ha : PA X (e :: es) t)
    (hst : starEach (e :: es) X.env = (false, eval e X.env) :: starEach es X.env := by rfl) (hpl : (backTo pos (starEach es X.env)).any (·.1) = false := by rfl)
    (ht : eval (.Call (.Attribute o m apos) (e :: es) [] pos) X.env = (do
      let ov ← eval o X.env
      standAt apos.atName
      let (f, first) ← holding [ov] (getMethod ov m pl)
      callWith pos f first (backTo pos (starEach (e :: es) X.env)) (backToKw pos (keywordEach [] X.env))) := by rfl) :
    PE X (.Call (.Attribute o m apos) (e :: es) [] pos) (tMethX C m sp E ta t) := by
  refine ⟨fun pins s σ H Q I h => PySem.W.methodCall_KW (pl := pl) (thn (he.run pins s σ H _ I h) ?_) ht⟩
  rintro u z ⟨x, G, J, rx, a, dx, fs, rfl, ea, l, q⟩
  obtain rfl : u = Value.ref a := rx
  refine getmeth_ok J ea c hm l (PySem.W.callWith_K (first := [.ref a]) (h₀ := X.base) I.ok.mod.kin hm.kp (thn (ha.run pos pins z σ G _ J q) ?_) hst hpl)
  rintro us y ⟨vs, G2, J2, r, q2⟩
  exact ⟨J2.kIn, run_fnS (us := .ref a :: us) (vs := .ref a :: vs) F hr hb (hx σ) J2 (.cons rfl r) q2⟩
end
/-! ### the family: an __init__ over another class's, one field -/
/-- StaffError.__init__(self, text) and the like -/
def spUp (K : PySem.W.Frag) : Sp := fun vs H Q _ => ∃ (a C : Addr) (z : Str), vs = [.ref a, .str z] ∧ OexC K C ∧ H a = some (exo a C none) ∧ Q .non H
/-- C.__init__(self, x), its one field f -/
def spOne (K : PySem.W.Frag) (C : Addr) (f : Str) : Sp := fun vs H Q _ => ∃ (a : Addr) (v : V), vs = [.ref a, v] ∧ H a = some (exo a C none) ∧
  ∀ dx, H dx = none → dx ≠ a → Q .non (upd (upd H dx (exd dx [(f, v)])) a (exo a C (some dx)))
/-- what is left of a made exception: its dict alone -/
theorem made_eq {H : Hp} {a d C : Addr} {fs : List (Str × V)} (n : H a = none) (ne : d ≠ a) :
    upd (del (upd (upd (upd H a (exo a C none)) d (exd d fs)) a (exo a C (some d))) a) d (.xd fs) = upd H d (.xd fs) := by
  funext b
  by_cases hd : b = d
  · rw [hd, upd_same, upd_same]
  · rw [upd_ne hd, upd_ne hd]
    by_cases ha : b = a
    · rw [ha, del_same, n]
    · rw [del_ne ha, upd_ne ha, upd_ne hd, upd_ne ha]
/-- raise C(x): what is to be shown -/
theorem made_one {K : PySem.W.Frag} {C : Addr} {f : Str} {v : V} {H : Hp} {W : Value → Option Addr → Hp → Prop} (k : ∀ d, H d = none → W (.ref C) (some d) (upd H d (.xd [(f, v)]))) :
    ([v] : List V).length ≤ 1000 ∧ ∀ a, H a = none → spOne K C f (.ref a :: ([v] ++ [])) (upd H a (exo a C none))
      (fun u H2 => u = .non ∧ ∃ (d : Addr) (fs : List (Str × V)), H2 a = some (exo a C (some d)) ∧ H2 d = some (exd d fs) ∧ H d = none ∧ W (.ref C) (some d) (upd (del H2 a) d (.xd fs))) (fun _ _ _ => False) := by
  refine ⟨by simp, fun a n => ⟨a, v, rfl, upd_same, fun dx hdx ne => ⟨rfl, dx, [(f, v)], upd_same, ?_, ?_, ?_⟩⟩⟩
  · rw [upd_ne ne, upd_same]
  · rw [upd_ne ne] at hdx
    exact hdx
  · rw [made_eq n ne]
    rw [upd_ne ne] at hdx
    exact k dx hdx
/-- a class is its own -/
theorem sub_self {K : PySem.W.Frag} {C : Addr} {cd : ClassData} {r : List Value} (h : PySem.W.clsIn K C = some cd) (e : cd.mro = .ref C :: r) : PySem.W.subIn K (.ref C) (.ref C) = some true := by
  show PySem.W.mroIn K C (.ref C) = some true
  unfold PySem.W.mroIn
  rw [h]
  simp [e]
/-! ### isinstance of what was caught -/
structure CauC (K : PySem.W.Frag) (D : Addr) : Prop where
  cl : (PySem.W.clsIn K D).isSome = true
  ga : PySem.W.findIn K (.ref D) "__getattribute__" = some (some (.builtin "BaseException.__getattribute__"))
  gg : PySem.W.findIn K (.ref D) "__getattr__" = some none
  sub : PySem.W.subIn K (.ref D) (.type "BaseException") = some true
  co : PySem.W.findIn K (.ref D) "__class__" = some (some (.builtin "object.__class__"))
  cg : PySem.W.specialIn K (.builtin "object.__class__") "__get__" = some (some (.builtin "getset_descriptor.__get__"))
  ct : PySem.W.takesIn K (.builtin "object.__class__") = some true
  mo : PySem.W.mroIn K D (.type "object") = some true
/-- isinstance(e, c), e what the suite holds (cls its class, d its dict) -/
def rIsD (K : PySem.W.Frag) (D a : Addr) (cls : Value) (d : Option Addr) : List V → Hp → VK → Prop := fun xs H Q => ∃ (c : V) (cv : Value) (b : Bool) (dd : Addr) (fs : List (Str × V)),
  xs = [.ref a, c] ∧ (∀ u, RelV c u → u = cv) ∧ PySem.W.kitOne K (.ref D) cv = some b ∧ cls = .ref D ∧ d = some dd ∧ H dd = some (.xd fs) ∧ Q (.bl b) H
theorem call_isD {X : Cx} {a D : Addr} {cls : Value} {d : Option Addr} {oe : Obj} {pn : List (Addr × Obj)} (T : CauC X.K D) (hz : Zc cls d oe) (hf : ∃ fv, oe.data = .fields fv) :
    CallR (X.suite a ((a, oe) :: pn)) (.builtin "isinstance") (rIsD X.K D a cls d) := by
  rintro pins s σ H xs us Q I r ⟨c, cv, b, dd, fs, rfl, hcv, e, rfl, rfl, ed, q⟩
  cases r with
  | cons rx rr =>
    cases rr with
    | cons rt rr =>
      cases rr
      cases rx
      obtain rfl := hcv _ rt
      obtain ⟨hget, _⟩ := I.pin (a, oe) (by simp)
      obtain ⟨fv, hv⟩ := hf
      have hx : ObjOk X.prog X.w H s.heap dd (.xd fs) := I.hok dd _ ed
      obtain ⟨mA, hns, _⟩ := hx
      obtain ⟨od, ho, _⟩ := lookIn_ns hns
      have J : PySem.W.InstAt s.heap a oe D (some od) := ⟨hget, hz.1, by unfold PySem.W.notCls; rw [hv] <;> rfl, by rw [hz.2]; exact ho⟩
      exact PySem.W.kia_one (PySem.W.kitx_exc T.cl T.ga T.gg T.sub T.co T.cg T.ct T.mo) I.kIn J e (fun z => nomatch z) fun tk => ⟨.bl b, H, I.tok _, rfl, q⟩
/-- a call of a def that may raise, where it does not -/
theorem pass_no {X : Cx} : Passes (L2.CX X.prog X.w) X E0 := fun _ _ _ _ _ _ _ ⟨_, _, _, _, _, _, _, _, _, _, _, _, z⟩ => z.elim
theorem takes_never {X : Cx} : Takes X (fun _ _ _ _ => False) := fun _ _ ⟨_, _, _, _, _, _, _, _, _, _, _, _, _, _, _, _, z⟩ => z.elim
end My

set_option maxRecDepth 100000
set_option maxHeartbeats 400000
/-! Several refusals of one family: what the written part says of each. -/
namespace My
open PySem PySem.Spec PyProof.Rows L2 GxR Gd TL
/-- the class above them -/
structure SeT (K : PySem.W.Frag) (mg : Str → Option Value) (CS fS : Addr) (fdS : FuncData) (st : Stmt) : Prop where
  ve : mg "ValueError" = none
  vi : PySem.W.findCls K (.type "ValueError") (.type "type") "__init__" = some (.val (.builtin "ValueError.__init__"))
  g : mg "StaffError" = some (.ref CS)
  c : ClsDef K CS fS "__init__"
  k : PySem.W.keepIn K (.ref fS) = true
  F : Fun K "__init__" "StaffError.__init__" st fS fdS
  b : Binds K fdS ["self", "text"] []
/-- one of them -/
structure ExC (K : PySem.W.Frag) (mg : Str → Option Value) (x q : Str) (st : Stmt) (C f : Addr) (fd : FuncData) : Prop where
  g : mg x = some (.ref C)
  F : Fun K "__init__" q st f fd
  b : Binds K fd ["self", "found"] []
  o : OexC K C
  i : PySem.W.findIn K (.ref C) "__init__" = some (some (.ref f))
  t : PySem.W.typeIn K (.ref f) = some (.type "function")
  n : PySem.W.findIn K (.ref C) "found" = some none
  e : PySem.W.exmOne K (.ref C) (.ref C) = some true
  x : XfC K C
  u : CauC K C
section
variable {X : Cx} {CX : CXT} {k : Nat} {C f : Addr} {fd : FuncData} {ps : List Str} {sp : Sp} {E : L2.St → XK} {m : Str} {pos apos : Pos} {o : Expr} {ta : TE}
def tMethX0 (C : Addr) (m : Str) (sp : Sp) (E : L2.St → XK) (ta : TE) : TE := fun σ H Q => ta σ H fun x G => ∃ a dx fs, x = .ref a ∧ G a = some (.ins C dx fs) ∧ fs.lookup m = none ∧ sp [x] G Q (E σ)
/-- o.m() in a try's body -/
theorem pe_methX0 {pl : Sem Bool} (he : PE X o ta) (c : Cls X.K C) (hm : Meth X.K C m f) (F : FnOk X.prog X.w X.K X.mg X.base CX k f fd ps sp) (hr : Room k X.A) (hb : Binds X.K fd ps []) (hx : ∀ σ, PassesAt CX X σ (E σ))
    (ht : eval (.Call (.Attribute o m apos) [] [] pos) X.env = (do
      let who ← eval o X.env
      standAt apos.atName
      let (g, ahead) ← holding [who] (getMethod who m pl)
      callWith pos g ahead (backTo pos (starEach [] X.env)) (backToKw pos (keywordEach [] X.env))) := by rfl) :
    PE X (.Call (.Attribute o m apos) [] [] pos) (tMethX0 C m sp E ta) := by
  refine ⟨fun pins s σ H Q I h => PySem.W.methodCall_KW (pl := pl) (thn (he.run pins s σ H _ I h) ?_) ht⟩
  rintro u z ⟨x, G, J, rx, a, dx, fs, rfl, ea, l, q⟩
  obtain rfl := show u = Value.ref a from rx
  refine getmeth_ok J ea c hm l ?_
  exact PySem.W.callWith_K0 (first := [.ref a]) J.kIn hm.kp (run_fnS (us := [.ref a]) (vs := [.ref a]) F hr hb (hx σ) J (.cons rfl .nil) q)
end
end My

set_option maxRecDepth 100000
set_option maxHeartbeats 2000000
/-! An own exception as a value: made, kept, asked. -/
namespace My
open PySem PySem.Spec PyProof.Rows L2
/-- C(e, ..) as a value: a new exception, then its own __init__ -/
def tMkV (C : Addr) (sp : Sp) (ta : TA) : TE := fun σ H Q => ta σ H fun vs H1 => vs.length ≤ 1000 ∧ ∀ a, H1 a = none → sp (.ref a :: vs) (upd H1 a (exo a C none)) (fun v H2 => v = .non ∧ Q (.ref a) H2) (fun _ _ _ => False)
section
variable {X : Cx} {CX : CXT} {e o : Expr} {es : List Expr} {ta : TA} {te : TE} {p pos : Pos} {x : Str} {C fI : Addr} {k : Nat} {fd : FuncData} {ps : List Str} {sp : Sp}
theorem run_oexV {pins : List (Addr × Obj)} {σ : L2.St} {H1 : Hp} {s1 : Shared} {Q : VK} {us : List Value} {vs : List V} (T : OexC X.K C) (iC : PySem.W.findIn X.K (.ref C) "__init__" = some (some (.ref fI))) (tI : PySem.W.typeIn X.K (.ref fI) = some (.type "function"))
    (F1 : FnOk X.prog X.w X.K X.mg X.base CX k fI fd ps sp) (hr : Room (k + 1) X.A) (hb : Binds X.K fd ps []) (hx : Passes CX X (fun _ _ _ => False)) (I1 : Inv X pins σ H1 s1) (r1 : Vals vs us) (hz : vs.length ≤ 1000)
    (q1 : ∀ a, H1 a = none → sp (.ref a :: vs) (upd H1 a (exo a C none)) (fun v H2 => v = .non ∧ Q (.ref a) H2) (fun _ _ _ => False)) :
    wpAny (model X.prog X.w) X.A (call (.ref C) us) (EP X pins σ Q) X.xe s1 := by
  obtain ⟨nm, q, N, bs, bm, sn, sub, ab, col, dd, k0, k1, k2, k3, k5, hC, hbm⟩ := T.cls
  obtain ⟨hp, g, dr, tk, os⟩ := s1
  have hsz : hp.objs.size ≤ hp.objs.size + 1 := Nat.le_succ _
  have hn : H1 (hp.objs.size + 1) = none := I1.hok.fresh hsz
  have hq := q1 (hp.objs.size + 1) hn
  have kk : ∀ b o, hp.get? b = some o → ((hp.push (PySem.W.kdv_tup us)).push (PySem.HandSPX.excO C hp.objs.size)).get? b = some o := fun b o e => Heap.get?_push_of_some _ (Heap.get?_push_of_some _ e)
  have hget : ((hp.push (PySem.W.kdv_tup us)).push (PySem.HandSPX.excO C hp.objs.size)).get? (hp.objs.size + 1) = some (PySem.HandSPX.excO C hp.objs.size) := by heap_get
  have I2 : Inv X pins σ (upd H1 (hp.objs.size + 1) (exo (hp.objs.size + 1) C none)) ⟨(hp.push (PySem.W.kdv_tup us)).push (PySem.HandSPX.excO C hp.objs.size), g, dr, tk, os⟩ :=
    I1.laid (t' := tk) (a := hp.objs.size + 1) (o := exo (hp.objs.size + 1) C none) (h' := (hp.push (PySem.W.kdv_tup us)).push (PySem.HandSPX.excO C hp.objs.size)) kk hsz (exo_ok hget)
  have r2 : Vals (V.ref (hp.objs.size + 1) :: vs) (Value.ref (hp.objs.size + 1) :: us) := .cons rfl r1
  have hl : ((Value.ref (hp.objs.size + 1) :: us) ++ []).length = ps.length := by
    have e := r2.length
    rw [F1.len _ _ _ _ hq] at e
    rw [List.append_nil]
    exact e.symm
  have hus : us.length ≤ sizeLine := by
    rw [← Paired.length r1, sizeLine_eq]
    omega
  have hb' := hb _ (Value.ref (hp.objs.size + 1) :: us) I2.kIn hl
  rw [List.append_nil] at hb'
  refine wpAny_call (PySem.HandSPX.call_own F.excBase_ValueError (fun Y => PySem.HandSPX.refsVE_contains Y bm hbm) (I1.kIn _ _ hC) (PySem.W.looks_findIn I1.kIn iC) (fun self => PySem.W.bind_fn I1.kIn self tI) hus
    (codeAny_mono (F1.run _ X.stack _ _ ⟨Value.ref (hp.objs.size + 1) :: us, []⟩ (Value.ref (hp.objs.size + 1) :: us) _ _ (fun _ _ _ => False) (hr.make C us []) (I2.env0.make C us []) hb' r2 hq) fun r s' hq' => ?_))
  cases r with
  | error er => exact hx pins σ _ _ er s' I2 hq'
  | ok fl =>
    cases fl with
    | ret u =>
      obtain ⟨v, H2, J, rv, ev, q2⟩ := I2.after hq'
      subst ev
      exact ⟨rv, .ref (hp.objs.size + 1), H2, J, rfl, q2⟩
    | next => exact False.elim hq'
    | brk => exact False.elim hq'
    | cont => exact False.elim hq'
theorem pe_oexV (T : OexC X.K C) (iC : PySem.W.findIn X.K (.ref C) "__init__" = some (some (.ref fI))) (tI : PySem.W.typeIn X.K (.ref fI) = some (.type "function")) (F1 : FnOk X.prog X.w X.K X.mg X.base CX k fI fd ps sp) (hr : Room (k + 1) X.A) (hb : Binds X.K fd ps [])
    (hx : Passes CX X (fun _ _ _ => False)) (hg : Gl X x) (hm : X.mg x = some (.ref C)) (ha : PA X (e :: es) ta)
    (hdb : (x == ("__debug__" : Str)) = false := by decide) (he : starEach (e :: es) X.env = (false, eval e X.env) :: starEach es X.env := by rfl) (hpl : (backTo pos (starEach es X.env)).any (·.1) = false := by rfl) :
    PE X (.Call (.Name x p) (e :: es) [] pos) (tMkV C sp ta) := by
  refine ⟨fun pins s σ H Q I h => ?_⟩
  refine wpAny_Call_Name_kw (ld_glob I hg hm ?_ hdb)
  refine PySem.W.callWith_K (h₀ := X.base) I.ok.mod.kin T.kC (thn (ha.run pos pins s σ H _ I h) fun us s1 ⟨vs, H1, I1, r, hz, q⟩ => ⟨I1.kIn, ?_⟩) he hpl
  exact run_oexV T iC tI F1 hr hb hx I1 r hz q
theorem pe_oexV0 (T : OexC X.K C) (iC : PySem.W.findIn X.K (.ref C) "__init__" = some (some (.ref fI))) (tI : PySem.W.typeIn X.K (.ref fI) = some (.type "function")) (F1 : FnOk X.prog X.w X.K X.mg X.base CX k fI fd ps sp) (hr : Room (k + 1) X.A) (hb : Binds X.K fd ps [])
    (hx : Passes CX X (fun _ _ _ => False)) (hg : Gl X x) (hm : X.mg x = some (.ref C)) (hdb : (x == ("__debug__" : Str)) = false := by decide) :
    PE X (.Call (.Name x p) [] [] pos) (tMkV C sp tNil) := by
  refine ⟨fun pins s σ H Q I h => ?_⟩
  refine wpAny_Call_Name_kw (ld_glob I hg hm ?_ hdb)
  have h' : ([] : List V).length ≤ 1000 ∧ ∀ a, H a = none → sp [.ref a] (upd H a (exo a C none)) (fun v H2 => v = .non ∧ Q (.ref a) H2) (fun _ _ _ => False) := h
  exact PySem.W.callWith_K0 I.kIn T.kC (run_oexV (us := []) T iC tI F1 hr hb hx I .nil h'.1 h'.2)
/-- x.f, x an exception that is kept -/
def tXo (K : PySem.W.Frag) (f : Str) (te : TE) : TE := fun σ H Q => te σ H fun x H1 => ∃ (a C d : Addr) (fs : List (Str × V)) (v : V), x = .ref a ∧ XfC K C ∧ PySem.W.findIn K (.ref C) f = some none ∧ H1 a = some (exo a C (some d)) ∧ H1 d = some (exd d fs) ∧ fs.lookup f = some v ∧ Q v H1
theorem pe_xo {n : Str} (he : PE X e te) (hb : attributeBase e n X.env (eval e X.env) = eval e X.env := by rfl) : PE X (.Attribute e n pos) (tXo X.K n te) := by
  refine ⟨fun pins s σ H Q I h => ?_⟩
  refine attr_of hb (thn (he.run pins s σ H _ I h) fun u s1 hh => ?_)
  obtain ⟨x, H1, I1, rx, a, C, d, fs, v, ex, T, hno, ea, ed, l, q⟩ := hh
  subst ex
  obtain rfl : u = Value.ref a := rx
  obtain ⟨t1, ha⟩ := exo_at I1.hok ea
  obtain ⟨mA, hns, hr⟩ := exd_at I1.hok ed
  obtain ⟨od, ho, hl⟩ := lookIn_ns hns
  obtain ⟨u, hu, ru⟩ := RelO.some_of (v := v) (o := mA n) (by rw [← l]; exact hr n)
  have J : PySem.W.InstAt s1.heap a _ C (some od) := ⟨ha, rfl, rfl, ho⟩
  exact HandSPX.exc_get I1.kIn J T.ga T.gg T.exC (PySem.W.findObj_own T.hdC hno rfl (by rw [hl, hu])) (handed_of ru) ⟨v, H1, I1.tok _, ru, q⟩
/-- isinstance(x, c), x an exception that is kept -/
def rIsX (K : PySem.W.Frag) : List V → Hp → VK → Prop := fun xs H Q => ∃ (a C : Addr) (d : Option Addr) (c : V) (cv : Value) (b : Bool), xs = [.ref a, c] ∧ ExcC K C ∧ H a = some (exo a C d) ∧ (d = none ∨ ∃ dx fs, d = some dx ∧ H dx = some (exd dx fs)) ∧ (∀ u, RelV c u → u = cv) ∧ PySem.W.kitOne K (.ref C) cv = some b ∧ Q (.bl b) H
theorem call_isX : CallR X (.builtin "isinstance") (rIsX X.K) := by
  intro pins s σ H xs us Q I r h
  obtain ⟨a, D, d, c, cv, b, rfl, C, ea, hd, hcv, e, q⟩ := h
  cases r with
  | cons rx rr =>
    cases rr with
    | cons rt rr =>
      cases rr
      cases rx
      have ec := hcv _ rt
      subst ec
      obtain ⟨t1, ha⟩ := exo_at I.hok ea
      have cl : (PySem.W.clsIn X.K D).isSome = true := by
        obtain ⟨cd, hc, _⟩ := PySem.W.any_some C.hd
        rw [hc]
        rfl
      rcases hd with rfl | ⟨dx, fs, rfl, ed⟩
      · have J : PySem.W.InstAt s.heap a _ D none := ⟨ha, rfl, rfl, trivial⟩
        exact PySem.W.kia_one (PySem.W.kitx_exc cl C.hg C.hk C.hs C.ha C.hn C.ht C.hm) I.kIn J e (fun z => nomatch z) fun tk => ⟨.bl b, H, I.kept (t' := tk) fun _ _ z => z, rfl, q⟩
      · obtain ⟨mA, hns, hr⟩ := exd_at I.hok ed
        obtain ⟨od, ho, hl⟩ := lookIn_ns hns
        have J : PySem.W.InstAt s.heap a _ D (some od) := ⟨ha, rfl, rfl, ho⟩
        exact PySem.W.kia_one (PySem.W.kitx_exc cl C.hg C.hk C.hs C.ha C.hn C.ht C.hm) I.kIn J e (fun z => nomatch z) fun tk => ⟨.bl b, H, I.kept (t' := tk) fun _ _ z => z, rfl, q⟩
end
end My

set_option maxRecDepth 100000
set_option maxHeartbeats 1600000
namespace E9
open PySem PySem.Spec PyProof.Rows L2 GxR Gd TL My
abbrev sSE : Stmt := inClass (top 1) 0
theorem scSE : FnScope ["self", "text"] ["self", "text"] (defScope sSE) := ⟨rfl, rfl, rfl, by decide +kernel, rfl, by decide +kernel, by decide +kernel⟩
/-- what is known of a class of these, the field being fld -/
structure KX1 (P : Program) (w : World) (K : PySem.W.Frag) (mg : Str → Option Value) (base : Heap) (x fld : Str) (C : Addr) : Prop where
  g : mg x = some (.ref C)
  o : OexC K C
  e : ExcC K C
  x : XfC K C
  n : PySem.W.findIn K (.ref C) fld = some none
  m : ∃ f fd, PySem.W.findIn K (.ref C) "__init__" = some (some (.ref f)) ∧ PySem.W.typeIn K (.ref f) = some (.type "function") ∧ Binds K fd ["self", fld] [] ∧ FnOk P w K mg base CX0 2 f fd ["self", fld] (spOne K C fld)
/-- the same of one without a field -/
def spNil (K : PySem.W.Frag) (C : Addr) : Sp := fun vs H Q _ => ∃ (a : Addr), vs = [.ref a] ∧ H a = some (exo a C none) ∧ Q .non H
structure KX0 (P : Program) (w : World) (K : PySem.W.Frag) (mg : Str → Option Value) (base : Heap) (x : Str) (C : Addr) : Prop where
  g : mg x = some (.ref C)
  o : OexC K C
  e : ExcC K C
  m : ∃ f fd, PySem.W.findIn K (.ref C) "__init__" = some (some (.ref f)) ∧ PySem.W.typeIn K (.ref f) = some (.type "function") ∧ Binds K fd ["self"] [] ∧ FnOk P w K mg base CX0 2 f fd ["self"] (spNil K C)
section
variable {X : Cx} {e : Expr} {es : List Expr} {ta : TA} {p pos : Pos} {x fld : Str} {C : Addr}
theorem KX1.pe (T : KX1 X.prog X.w X.K X.mg X.base x fld C) (hr : Room 3 X.A) (hg : Gl X x) (ha : PA X (e :: es) ta)
    (hdb : (x == ("__debug__" : Str)) = false := by decide) (he : starEach (e :: es) X.env = (false, eval e X.env) :: starEach es X.env := by rfl) (hpl : (backTo pos (starEach es X.env)).any (·.1) = false := by rfl) :
    PE X (.Call (.Name x p) (e :: es) [] pos) (tMkV C (spOne X.K C fld) ta) := by
  obtain ⟨f, fd, iC, tI, hb, F⟩ := T.m
  exact pe_oexV T.o iC tI F hr hb pass0 hg T.g ha hdb he hpl
theorem KX0.pe (T : KX0 X.prog X.w X.K X.mg X.base x C) (hr : Room 3 X.A) (hg : Gl X x) (hdb : (x == ("__debug__" : Str)) = false := by decide) : PE X (.Call (.Name x p) [] [] pos) (tMkV C (spNil X.K C) tNil) := by
  obtain ⟨f, fd, iC, tI, hb, F⟩ := T.m
  exact pe_oexV0 T.o iC tI F hr hb pass0 hg T.g hdb
end
section
variable {P : Program} {w : World} {K : PySem.W.Frag} {mg : Str → Option Value} {base : Heap} {CS fS C fN : Addr} {fdS fdN : FuncData}
theorem ok_SE (T : SeT K mg CS fS fdS sSE) : FnOk P w K mg base CX0 1 fS fdS ["self", "text"] (spUp K) := by
  refine T.F.ok scSE (fun vs H Q E h => ?_) (fun cdv A outer s H vs Q E hr h => ?_)
  · obtain ⟨a, C, z, rfl, _⟩ := h
    rfl
  · obtain ⟨a, C, z, rfl, o, e, k⟩ := h
    refine ⟨_, pss_one (ps_expr (pe_veinit (by rfl) T.ve T.vi (pa_cons (pv 0) (pa_cons (pv 1) pa_nil)))), ?_⟩
    exact ⟨_, rfl, _, rfl, a, C, _, rfl, by simp, o, e, k⟩
abbrev sNoName : Stmt := inClass (top 2) 0
theorem scNoName : FnScope ["self", "found"] ["self", "found"] (defScope sNoName) := ⟨rfl, rfl, rfl, by decide +kernel, rfl, by decide +kernel, by decide +kernel⟩
theorem ok_NoName (S : SeT K mg CS fS fdS sSE) (F : Fun K "__init__" "NoName.__init__" sNoName fN fdN) (o : OexC K C) (n : PySem.W.findIn K (.ref C) "found" = some none) : FnOk P w K mg base CX0 2 fN fdN ["self", "found"] (spOne K C "found") := by
  refine F.ok scNoName (fun vs H Q E h => ?_) (fun cdv A outer s H vs Q E hr h => ?_)
  · obtain ⟨a, v, rfl, _⟩ := h
    rfl
  · obtain ⟨a, v, rfl, e, k⟩ := h
    refine ⟨_, pss_cons (ps_expr (pe_ccall S.c (ok_SE S) hr (by rfl) S.g S.k S.b .nil pass0 (pa_cons (pv 0) (pa_cons pe_str pa_nil))))
      (pss_one (ps_ost (pv 0) (pv 1))), ?_⟩
    refine ⟨_, rfl, a, C, _, rfl, o, e, ?_⟩
    exact ⟨_, rfl, _, rfl, a, C, rfl, o, n, .inl ⟨e, fun dx h1 h2 => k dx h1 h2⟩⟩
abbrev sNoPlace : Stmt := inClass (top 3) 0
theorem scNoPlace : FnScope ["self", "found"] ["self", "found"] (defScope sNoPlace) := ⟨rfl, rfl, rfl, by decide +kernel, rfl, by decide +kernel, by decide +kernel⟩
theorem ok_NoPlace (S : SeT K mg CS fS fdS sSE) (F : Fun K "__init__" "NoPlace.__init__" sNoPlace fN fdN) (o : OexC K C) (n : PySem.W.findIn K (.ref C) "found" = some none) : FnOk P w K mg base CX0 2 fN fdN ["self", "found"] (spOne K C "found") := by
  refine F.ok scNoPlace (fun vs H Q E h => ?_) (fun cdv A outer s H vs Q E hr h => ?_)
  · obtain ⟨a, v, rfl, _⟩ := h
    rfl
  · obtain ⟨a, v, rfl, e, k⟩ := h
    refine ⟨_, pss_cons (ps_expr (pe_ccall S.c (ok_SE S) hr (by rfl) S.g S.k S.b .nil pass0 (pa_cons (pv 0) (pa_cons pe_str pa_nil))))
      (pss_one (ps_ost (pv 0) (pv 1))), ?_⟩
    refine ⟨_, rfl, a, C, _, rfl, o, e, ?_⟩
    exact ⟨_, rfl, _, rfl, a, C, rfl, o, n, .inl ⟨e, fun dx h1 h2 => k dx h1 h2⟩⟩
abbrev sNoTrain : Stmt := inClass (top 4) 0
theorem scNoTrain : FnScope ["self", "found"] ["self", "found"] (defScope sNoTrain) := ⟨rfl, rfl, rfl, by decide +kernel, rfl, by decide +kernel, by decide +kernel⟩
theorem ok_NoTrain (S : SeT K mg CS fS fdS sSE) (F : Fun K "__init__" "NoTrain.__init__" sNoTrain fN fdN) (o : OexC K C) (n : PySem.W.findIn K (.ref C) "found" = some none) : FnOk P w K mg base CX0 2 fN fdN ["self", "found"] (spOne K C "found") := by
  refine F.ok scNoTrain (fun vs H Q E h => ?_) (fun cdv A outer s H vs Q E hr h => ?_)
  · obtain ⟨a, v, rfl, _⟩ := h
    rfl
  · obtain ⟨a, v, rfl, e, k⟩ := h
    refine ⟨_, pss_cons (ps_expr (pe_ccall S.c (ok_SE S) hr (by rfl) S.g S.k S.b .nil pass0 (pa_cons (pv 0) (pa_cons pe_str pa_nil))))
      (pss_one (ps_ost (pv 0) (pv 1))), ?_⟩
    refine ⟨_, rfl, a, C, _, rfl, o, e, ?_⟩
    exact ⟨_, rfl, _, rfl, a, C, rfl, o, n, .inl ⟨e, fun dx h1 h2 => k dx h1 h2⟩⟩
abbrev sNoTrains : Stmt := inClass (top 5) 0
theorem scNoTrains : FnScope ["self", "found"] ["self", "found"] (defScope sNoTrains) := ⟨rfl, rfl, rfl, by decide +kernel, rfl, by decide +kernel, by decide +kernel⟩
theorem ok_NoTrains (S : SeT K mg CS fS fdS sSE) (F : Fun K "__init__" "NoTrains.__init__" sNoTrains fN fdN) (o : OexC K C) (n : PySem.W.findIn K (.ref C) "found" = some none) : FnOk P w K mg base CX0 2 fN fdN ["self", "found"] (spOne K C "found") := by
  refine F.ok scNoTrains (fun vs H Q E h => ?_) (fun cdv A outer s H vs Q E hr h => ?_)
  · obtain ⟨a, v, rfl, _⟩ := h
    rfl
  · obtain ⟨a, v, rfl, e, k⟩ := h
    refine ⟨_, pss_cons (ps_expr (pe_ccall S.c (ok_SE S) hr (by rfl) S.g S.k S.b .nil pass0 (pa_cons (pv 0) (pa_cons pe_str pa_nil))))
      (pss_one (ps_ost (pv 0) (pv 1))), ?_⟩
    refine ⟨_, rfl, a, C, _, rfl, o, e, ?_⟩
    exact ⟨_, rfl, _, rfl, a, C, rfl, o, n, .inl ⟨e, fun dx h1 h2 => k dx h1 h2⟩⟩
abbrev sNoEnds : Stmt := inClass (top 6) 0
theorem scNoEnds : FnScope ["self", "found"] ["self", "found"] (defScope sNoEnds) := ⟨rfl, rfl, rfl, by decide +kernel, rfl, by decide +kernel, by decide +kernel⟩
theorem ok_NoEnds (S : SeT K mg CS fS fdS sSE) (F : Fun K "__init__" "NoEnds.__init__" sNoEnds fN fdN) (o : OexC K C) (n : PySem.W.findIn K (.ref C) "found" = some none) : FnOk P w K mg base CX0 2 fN fdN ["self", "found"] (spOne K C "found") := by
  refine F.ok scNoEnds (fun vs H Q E h => ?_) (fun cdv A outer s H vs Q E hr h => ?_)
  · obtain ⟨a, v, rfl, _⟩ := h
    rfl
  · obtain ⟨a, v, rfl, e, k⟩ := h
    refine ⟨_, pss_cons (ps_expr (pe_ccall S.c (ok_SE S) hr (by rfl) S.g S.k S.b .nil pass0 (pa_cons (pv 0) (pa_cons pe_str pa_nil))))
      (pss_one (ps_ost (pv 0) (pv 1))), ?_⟩
    refine ⟨_, rfl, a, C, _, rfl, o, e, ?_⟩
    exact ⟨_, rfl, _, rfl, a, C, rfl, o, n, .inl ⟨e, fun dx h1 h2 => k dx h1 h2⟩⟩
abbrev sNoStretch : Stmt := inClass (top 7) 0
theorem scNoStretch : FnScope ["self", "found"] ["self", "found"] (defScope sNoStretch) := ⟨rfl, rfl, rfl, by decide +kernel, rfl, by decide +kernel, by decide +kernel⟩
theorem ok_NoStretch (S : SeT K mg CS fS fdS sSE) (F : Fun K "__init__" "NoStretch.__init__" sNoStretch fN fdN) (o : OexC K C) (n : PySem.W.findIn K (.ref C) "found" = some none) : FnOk P w K mg base CX0 2 fN fdN ["self", "found"] (spOne K C "found") := by
  refine F.ok scNoStretch (fun vs H Q E h => ?_) (fun cdv A outer s H vs Q E hr h => ?_)
  · obtain ⟨a, v, rfl, _⟩ := h
    rfl
  · obtain ⟨a, v, rfl, e, k⟩ := h
    refine ⟨_, pss_cons (ps_expr (pe_ccall S.c (ok_SE S) hr (by rfl) S.g S.k S.b .nil pass0 (pa_cons (pv 0) (pa_cons pe_str pa_nil))))
      (pss_one (ps_ost (pv 0) (pv 1))), ?_⟩
    refine ⟨_, rfl, a, C, _, rfl, o, e, ?_⟩
    exact ⟨_, rfl, _, rfl, a, C, rfl, o, n, .inl ⟨e, fun dx h1 h2 => k dx h1 h2⟩⟩
abbrev sNoLong : Stmt := inClass (top 8) 0
theorem scNoLong : FnScope ["self", "found"] ["self", "found"] (defScope sNoLong) := ⟨rfl, rfl, rfl, by decide +kernel, rfl, by decide +kernel, by decide +kernel⟩
theorem ok_NoLong (S : SeT K mg CS fS fdS sSE) (F : Fun K "__init__" "NoLong.__init__" sNoLong fN fdN) (o : OexC K C) (n : PySem.W.findIn K (.ref C) "found" = some none) : FnOk P w K mg base CX0 2 fN fdN ["self", "found"] (spOne K C "found") := by
  refine F.ok scNoLong (fun vs H Q E h => ?_) (fun cdv A outer s H vs Q E hr h => ?_)
  · obtain ⟨a, v, rfl, _⟩ := h
    rfl
  · obtain ⟨a, v, rfl, e, k⟩ := h
    refine ⟨_, pss_cons (ps_expr (pe_ccall S.c (ok_SE S) hr (by rfl) S.g S.k S.b .nil pass0 (pa_cons (pv 0) (pa_cons pe_str pa_nil))))
      (pss_one (ps_ost (pv 0) (pv 1))), ?_⟩
    refine ⟨_, rfl, a, C, _, rfl, o, e, ?_⟩
    exact ⟨_, rfl, _, rfl, a, C, rfl, o, n, .inl ⟨e, fun dx h1 h2 => k dx h1 h2⟩⟩
abbrev sNoPlaces : Stmt := inClass (top 9) 0
theorem scNoPlaces : FnScope ["self", "found"] ["self", "found"] (defScope sNoPlaces) := ⟨rfl, rfl, rfl, by decide +kernel, rfl, by decide +kernel, by decide +kernel⟩
theorem ok_NoPlaces (S : SeT K mg CS fS fdS sSE) (F : Fun K "__init__" "NoPlaces.__init__" sNoPlaces fN fdN) (o : OexC K C) (n : PySem.W.findIn K (.ref C) "found" = some none) : FnOk P w K mg base CX0 2 fN fdN ["self", "found"] (spOne K C "found") := by
  refine F.ok scNoPlaces (fun vs H Q E h => ?_) (fun cdv A outer s H vs Q E hr h => ?_)
  · obtain ⟨a, v, rfl, _⟩ := h
    rfl
  · obtain ⟨a, v, rfl, e, k⟩ := h
    refine ⟨_, pss_cons (ps_expr (pe_ccall S.c (ok_SE S) hr (by rfl) S.g S.k S.b .nil pass0 (pa_cons (pv 0) (pa_cons pe_str pa_nil))))
      (pss_one (ps_ost (pv 0) (pv 1))), ?_⟩
    refine ⟨_, rfl, a, C, _, rfl, o, e, ?_⟩
    exact ⟨_, rfl, _, rfl, a, C, rfl, o, n, .inl ⟨e, fun dx h1 h2 => k dx h1 h2⟩⟩
abbrev sNoStretches : Stmt := inClass (top 10) 0
theorem scNoStretches : FnScope ["self", "found"] ["self", "found"] (defScope sNoStretches) := ⟨rfl, rfl, rfl, by decide +kernel, rfl, by decide +kernel, by decide +kernel⟩
theorem ok_NoStretches (S : SeT K mg CS fS fdS sSE) (F : Fun K "__init__" "NoStretches.__init__" sNoStretches fN fdN) (o : OexC K C) (n : PySem.W.findIn K (.ref C) "found" = some none) : FnOk P w K mg base CX0 2 fN fdN ["self", "found"] (spOne K C "found") := by
  refine F.ok scNoStretches (fun vs H Q E h => ?_) (fun cdv A outer s H vs Q E hr h => ?_)
  · obtain ⟨a, v, rfl, _⟩ := h
    rfl
  · obtain ⟨a, v, rfl, e, k⟩ := h
    refine ⟨_, pss_cons (ps_expr (pe_ccall S.c (ok_SE S) hr (by rfl) S.g S.k S.b .nil pass0 (pa_cons (pv 0) (pa_cons pe_str pa_nil))))
      (pss_one (ps_ost (pv 0) (pv 1))), ?_⟩
    refine ⟨_, rfl, a, C, _, rfl, o, e, ?_⟩
    exact ⟨_, rfl, _, rfl, a, C, rfl, o, n, .inl ⟨e, fun dx h1 h2 => k dx h1 h2⟩⟩
abbrev sNoLongs : Stmt := inClass (top 11) 0
theorem scNoLongs : FnScope ["self", "found"] ["self", "found"] (defScope sNoLongs) := ⟨rfl, rfl, rfl, by decide +kernel, rfl, by decide +kernel, by decide +kernel⟩
theorem ok_NoLongs (S : SeT K mg CS fS fdS sSE) (F : Fun K "__init__" "NoLongs.__init__" sNoLongs fN fdN) (o : OexC K C) (n : PySem.W.findIn K (.ref C) "found" = some none) : FnOk P w K mg base CX0 2 fN fdN ["self", "found"] (spOne K C "found") := by
  refine F.ok scNoLongs (fun vs H Q E h => ?_) (fun cdv A outer s H vs Q E hr h => ?_)
  · obtain ⟨a, v, rfl, _⟩ := h
    rfl
  · obtain ⟨a, v, rfl, e, k⟩ := h
    refine ⟨_, pss_cons (ps_expr (pe_ccall S.c (ok_SE S) hr (by rfl) S.g S.k S.b .nil pass0 (pa_cons (pv 0) (pa_cons pe_str pa_nil))))
      (pss_one (ps_ost (pv 0) (pv 1))), ?_⟩
    refine ⟨_, rfl, a, C, _, rfl, o, e, ?_⟩
    exact ⟨_, rfl, _, rfl, a, C, rfl, o, n, .inl ⟨e, fun dx h1 h2 => k dx h1 h2⟩⟩
abbrev sNoNumber : Stmt := inClass (top 12) 0
theorem scNoNumber : FnScope ["self", "found"] ["self", "found"] (defScope sNoNumber) := ⟨rfl, rfl, rfl, by decide +kernel, rfl, by decide +kernel, by decide +kernel⟩
theorem ok_NoNumber (S : SeT K mg CS fS fdS sSE) (F : Fun K "__init__" "NoNumber.__init__" sNoNumber fN fdN) (o : OexC K C) (n : PySem.W.findIn K (.ref C) "found" = some none) : FnOk P w K mg base CX0 2 fN fdN ["self", "found"] (spOne K C "found") := by
  refine F.ok scNoNumber (fun vs H Q E h => ?_) (fun cdv A outer s H vs Q E hr h => ?_)
  · obtain ⟨a, v, rfl, _⟩ := h
    rfl
  · obtain ⟨a, v, rfl, e, k⟩ := h
    refine ⟨_, pss_cons (ps_expr (pe_ccall S.c (ok_SE S) hr (by rfl) S.g S.k S.b .nil pass0 (pa_cons (pv 0) (pa_cons pe_str pa_nil))))
      (pss_one (ps_ost (pv 0) (pv 1))), ?_⟩
    refine ⟨_, rfl, a, C, _, rfl, o, e, ?_⟩
    exact ⟨_, rfl, _, rfl, a, C, rfl, o, n, .inl ⟨e, fun dx h1 h2 => k dx h1 h2⟩⟩
abbrev sNoThing : Stmt := inClass (top 13) 0
theorem scNoThing : FnScope ["self", "found"] ["self", "found"] (defScope sNoThing) := ⟨rfl, rfl, rfl, by decide +kernel, rfl, by decide +kernel, by decide +kernel⟩
theorem ok_NoThing (S : SeT K mg CS fS fdS sSE) (F : Fun K "__init__" "NoThing.__init__" sNoThing fN fdN) (o : OexC K C) (n : PySem.W.findIn K (.ref C) "found" = some none) : FnOk P w K mg base CX0 2 fN fdN ["self", "found"] (spOne K C "found") := by
  refine F.ok scNoThing (fun vs H Q E h => ?_) (fun cdv A outer s H vs Q E hr h => ?_)
  · obtain ⟨a, v, rfl, _⟩ := h
    rfl
  · obtain ⟨a, v, rfl, e, k⟩ := h
    refine ⟨_, pss_cons (ps_expr (pe_ccall S.c (ok_SE S) hr (by rfl) S.g S.k S.b .nil pass0 (pa_cons (pv 0) (pa_cons pe_str pa_nil))))
      (pss_one (ps_ost (pv 0) (pv 1))), ?_⟩
    refine ⟨_, rfl, a, C, _, rfl, o, e, ?_⟩
    exact ⟨_, rfl, _, rfl, a, C, rfl, o, n, .inl ⟨e, fun dx h1 h2 => k dx h1 h2⟩⟩
abbrev sNoKind : Stmt := inClass (top 14) 0
theorem scNoKind : FnScope ["self", "found"] ["self", "found"] (defScope sNoKind) := ⟨rfl, rfl, rfl, by decide +kernel, rfl, by decide +kernel, by decide +kernel⟩
theorem ok_NoKind (S : SeT K mg CS fS fdS sSE) (F : Fun K "__init__" "NoKind.__init__" sNoKind fN fdN) (o : OexC K C) (n : PySem.W.findIn K (.ref C) "found" = some none) : FnOk P w K mg base CX0 2 fN fdN ["self", "found"] (spOne K C "found") := by
  refine F.ok scNoKind (fun vs H Q E h => ?_) (fun cdv A outer s H vs Q E hr h => ?_)
  · obtain ⟨a, v, rfl, _⟩ := h
    rfl
  · obtain ⟨a, v, rfl, e, k⟩ := h
    refine ⟨_, pss_cons (ps_expr (pe_ccall S.c (ok_SE S) hr (by rfl) S.g S.k S.b .nil pass0 (pa_cons (pv 0) (pa_cons pe_str pa_nil))))
      (pss_one (ps_ost (pv 0) (pv 1))), ?_⟩
    refine ⟨_, rfl, a, C, _, rfl, o, e, ?_⟩
    exact ⟨_, rfl, _, rfl, a, C, rfl, o, n, .inl ⟨e, fun dx h1 h2 => k dx h1 h2⟩⟩
abbrev sNoWord : Stmt := inClass (top 15) 0
theorem scNoWord : FnScope ["self", "found"] ["self", "found"] (defScope sNoWord) := ⟨rfl, rfl, rfl, by decide +kernel, rfl, by decide +kernel, by decide +kernel⟩
theorem ok_NoWord (S : SeT K mg CS fS fdS sSE) (F : Fun K "__init__" "NoWord.__init__" sNoWord fN fdN) (o : OexC K C) (n : PySem.W.findIn K (.ref C) "found" = some none) : FnOk P w K mg base CX0 2 fN fdN ["self", "found"] (spOne K C "found") := by
  refine F.ok scNoWord (fun vs H Q E h => ?_) (fun cdv A outer s H vs Q E hr h => ?_)
  · obtain ⟨a, v, rfl, _⟩ := h
    rfl
  · obtain ⟨a, v, rfl, e, k⟩ := h
    refine ⟨_, pss_cons (ps_expr (pe_ccall S.c (ok_SE S) hr (by rfl) S.g S.k S.b .nil pass0 (pa_cons (pv 0) (pa_cons pe_str pa_nil))))
      (pss_one (ps_ost (pv 0) (pv 1))), ?_⟩
    refine ⟨_, rfl, a, C, _, rfl, o, e, ?_⟩
    exact ⟨_, rfl, _, rfl, a, C, rfl, o, n, .inl ⟨e, fun dx h1 h2 => k dx h1 h2⟩⟩
abbrev sNoDeed : Stmt := inClass (top 16) 0
theorem scNoDeed : FnScope ["self", "found"] ["self", "found"] (defScope sNoDeed) := ⟨rfl, rfl, rfl, by decide +kernel, rfl, by decide +kernel, by decide +kernel⟩
theorem ok_NoDeed (S : SeT K mg CS fS fdS sSE) (F : Fun K "__init__" "NoDeed.__init__" sNoDeed fN fdN) (o : OexC K C) (n : PySem.W.findIn K (.ref C) "found" = some none) : FnOk P w K mg base CX0 2 fN fdN ["self", "found"] (spOne K C "found") := by
  refine F.ok scNoDeed (fun vs H Q E h => ?_) (fun cdv A outer s H vs Q E hr h => ?_)
  · obtain ⟨a, v, rfl, _⟩ := h
    rfl
  · obtain ⟨a, v, rfl, e, k⟩ := h
    refine ⟨_, pss_cons (ps_expr (pe_ccall S.c (ok_SE S) hr (by rfl) S.g S.k S.b .nil pass0 (pa_cons (pv 0) (pa_cons pe_str pa_nil))))
      (pss_one (ps_ost (pv 0) (pv 1))), ?_⟩
    refine ⟨_, rfl, a, C, _, rfl, o, e, ?_⟩
    exact ⟨_, rfl, _, rfl, a, C, rfl, o, n, .inl ⟨e, fun dx h1 h2 => k dx h1 h2⟩⟩
abbrev sNoWay : Stmt := inClass (top 17) 0
theorem scNoWay : FnScope ["self", "found"] ["self", "found"] (defScope sNoWay) := ⟨rfl, rfl, rfl, by decide +kernel, rfl, by decide +kernel, by decide +kernel⟩
theorem ok_NoWay (S : SeT K mg CS fS fdS sSE) (F : Fun K "__init__" "NoWay.__init__" sNoWay fN fdN) (o : OexC K C) (n : PySem.W.findIn K (.ref C) "found" = some none) : FnOk P w K mg base CX0 2 fN fdN ["self", "found"] (spOne K C "found") := by
  refine F.ok scNoWay (fun vs H Q E h => ?_) (fun cdv A outer s H vs Q E hr h => ?_)
  · obtain ⟨a, v, rfl, _⟩ := h
    rfl
  · obtain ⟨a, v, rfl, e, k⟩ := h
    refine ⟨_, pss_cons (ps_expr (pe_ccall S.c (ok_SE S) hr (by rfl) S.g S.k S.b .nil pass0 (pa_cons (pv 0) (pa_cons pe_str pa_nil))))
      (pss_one (ps_ost (pv 0) (pv 1))), ?_⟩
    refine ⟨_, rfl, a, C, _, rfl, o, e, ?_⟩
    exact ⟨_, rfl, _, rfl, a, C, rfl, o, n, .inl ⟨e, fun dx h1 h2 => k dx h1 h2⟩⟩
abbrev sNoUse : Stmt := inClass (top 18) 0
theorem scNoUse : FnScope ["self", "found"] ["self", "found"] (defScope sNoUse) := ⟨rfl, rfl, rfl, by decide +kernel, rfl, by decide +kernel, by decide +kernel⟩
theorem ok_NoUse (S : SeT K mg CS fS fdS sSE) (F : Fun K "__init__" "NoUse.__init__" sNoUse fN fdN) (o : OexC K C) (n : PySem.W.findIn K (.ref C) "found" = some none) : FnOk P w K mg base CX0 2 fN fdN ["self", "found"] (spOne K C "found") := by
  refine F.ok scNoUse (fun vs H Q E h => ?_) (fun cdv A outer s H vs Q E hr h => ?_)
  · obtain ⟨a, v, rfl, _⟩ := h
    rfl
  · obtain ⟨a, v, rfl, e, k⟩ := h
    refine ⟨_, pss_cons (ps_expr (pe_ccall S.c (ok_SE S) hr (by rfl) S.g S.k S.b .nil pass0 (pa_cons (pv 0) (pa_cons pe_str pa_nil))))
      (pss_one (ps_ost (pv 0) (pv 1))), ?_⟩
    refine ⟨_, rfl, a, C, _, rfl, o, e, ?_⟩
    exact ⟨_, rfl, _, rfl, a, C, rfl, o, n, .inl ⟨e, fun dx h1 h2 => k dx h1 h2⟩⟩
abbrev sNoBooks : Stmt := inClass (top 19) 0
theorem scNoBooks : FnScope ["self", "found"] ["self", "found"] (defScope sNoBooks) := ⟨rfl, rfl, rfl, by decide +kernel, rfl, by decide +kernel, by decide +kernel⟩
theorem ok_NoBooks (S : SeT K mg CS fS fdS sSE) (F : Fun K "__init__" "NoBooks.__init__" sNoBooks fN fdN) (o : OexC K C) (n : PySem.W.findIn K (.ref C) "found" = some none) : FnOk P w K mg base CX0 2 fN fdN ["self", "found"] (spOne K C "found") := by
  refine F.ok scNoBooks (fun vs H Q E h => ?_) (fun cdv A outer s H vs Q E hr h => ?_)
  · obtain ⟨a, v, rfl, _⟩ := h
    rfl
  · obtain ⟨a, v, rfl, e, k⟩ := h
    refine ⟨_, pss_cons (ps_expr (pe_ccall S.c (ok_SE S) hr (by rfl) S.g S.k S.b .nil pass0 (pa_cons (pv 0) (pa_cons pe_str pa_nil))))
      (pss_one (ps_ost (pv 0) (pv 1))), ?_⟩
    refine ⟨_, rfl, a, C, _, rfl, o, e, ?_⟩
    exact ⟨_, rfl, _, rfl, a, C, rfl, o, n, .inl ⟨e, fun dx h1 h2 => k dx h1 h2⟩⟩
abbrev sNoRows : Stmt := inClass (top 20) 0
theorem scNoRows : FnScope ["self", "found"] ["self", "found"] (defScope sNoRows) := ⟨rfl, rfl, rfl, by decide +kernel, rfl, by decide +kernel, by decide +kernel⟩
theorem ok_NoRows (S : SeT K mg CS fS fdS sSE) (F : Fun K "__init__" "NoRows.__init__" sNoRows fN fdN) (o : OexC K C) (n : PySem.W.findIn K (.ref C) "found" = some none) : FnOk P w K mg base CX0 2 fN fdN ["self", "found"] (spOne K C "found") := by
  refine F.ok scNoRows (fun vs H Q E h => ?_) (fun cdv A outer s H vs Q E hr h => ?_)
  · obtain ⟨a, v, rfl, _⟩ := h
    rfl
  · obtain ⟨a, v, rfl, e, k⟩ := h
    refine ⟨_, pss_cons (ps_expr (pe_ccall S.c (ok_SE S) hr (by rfl) S.g S.k S.b .nil pass0 (pa_cons (pv 0) (pa_cons pe_str pa_nil))))
      (pss_one (ps_ost (pv 0) (pv 1))), ?_⟩
    refine ⟨_, rfl, a, C, _, rfl, o, e, ?_⟩
    exact ⟨_, rfl, _, rfl, a, C, rfl, o, n, .inl ⟨e, fun dx h1 h2 => k dx h1 h2⟩⟩
abbrev sNoMove : Stmt := inClass (top 21) 0
theorem scNoMove : FnScope ["self", "found"] ["self", "found"] (defScope sNoMove) := ⟨rfl, rfl, rfl, by decide +kernel, rfl, by decide +kernel, by decide +kernel⟩
theorem ok_NoMove (S : SeT K mg CS fS fdS sSE) (F : Fun K "__init__" "NoMove.__init__" sNoMove fN fdN) (o : OexC K C) (n : PySem.W.findIn K (.ref C) "found" = some none) : FnOk P w K mg base CX0 2 fN fdN ["self", "found"] (spOne K C "found") := by
  refine F.ok scNoMove (fun vs H Q E h => ?_) (fun cdv A outer s H vs Q E hr h => ?_)
  · obtain ⟨a, v, rfl, _⟩ := h
    rfl
  · obtain ⟨a, v, rfl, e, k⟩ := h
    refine ⟨_, pss_cons (ps_expr (pe_ccall S.c (ok_SE S) hr (by rfl) S.g S.k S.b .nil pass0 (pa_cons (pv 0) (pa_cons pe_str pa_nil))))
      (pss_one (ps_ost (pv 0) (pv 1))), ?_⟩
    refine ⟨_, rfl, a, C, _, rfl, o, e, ?_⟩
    exact ⟨_, rfl, _, rfl, a, C, rfl, o, n, .inl ⟨e, fun dx h1 h2 => k dx h1 h2⟩⟩
abbrev sNoRuns : Stmt := inClass (top 22) 0
theorem scNoRuns : FnScope ["self", "found"] ["self", "found"] (defScope sNoRuns) := ⟨rfl, rfl, rfl, by decide +kernel, rfl, by decide +kernel, by decide +kernel⟩
theorem ok_NoRuns (S : SeT K mg CS fS fdS sSE) (F : Fun K "__init__" "NoRuns.__init__" sNoRuns fN fdN) (o : OexC K C) (n : PySem.W.findIn K (.ref C) "found" = some none) : FnOk P w K mg base CX0 2 fN fdN ["self", "found"] (spOne K C "found") := by
  refine F.ok scNoRuns (fun vs H Q E h => ?_) (fun cdv A outer s H vs Q E hr h => ?_)
  · obtain ⟨a, v, rfl, _⟩ := h
    rfl
  · obtain ⟨a, v, rfl, e, k⟩ := h
    refine ⟨_, pss_cons (ps_expr (pe_ccall S.c (ok_SE S) hr (by rfl) S.g S.k S.b .nil pass0 (pa_cons (pv 0) (pa_cons pe_str pa_nil))))
      (pss_one (ps_ost (pv 0) (pv 1))), ?_⟩
    refine ⟨_, rfl, a, C, _, rfl, o, e, ?_⟩
    exact ⟨_, rfl, _, rfl, a, C, rfl, o, n, .inl ⟨e, fun dx h1 h2 => k dx h1 h2⟩⟩
abbrev sNoRun : Stmt := inClass (top 23) 0
theorem scNoRun : FnScope ["self", "found"] ["self", "found"] (defScope sNoRun) := ⟨rfl, rfl, rfl, by decide +kernel, rfl, by decide +kernel, by decide +kernel⟩
theorem ok_NoRun (S : SeT K mg CS fS fdS sSE) (F : Fun K "__init__" "NoRun.__init__" sNoRun fN fdN) (o : OexC K C) (n : PySem.W.findIn K (.ref C) "found" = some none) : FnOk P w K mg base CX0 2 fN fdN ["self", "found"] (spOne K C "found") := by
  refine F.ok scNoRun (fun vs H Q E h => ?_) (fun cdv A outer s H vs Q E hr h => ?_)
  · obtain ⟨a, v, rfl, _⟩ := h
    rfl
  · obtain ⟨a, v, rfl, e, k⟩ := h
    refine ⟨_, pss_cons (ps_expr (pe_ccall S.c (ok_SE S) hr (by rfl) S.g S.k S.b .nil pass0 (pa_cons (pv 0) (pa_cons pe_str pa_nil))))
      (pss_one (ps_ost (pv 0) (pv 1))), ?_⟩
    refine ⟨_, rfl, a, C, _, rfl, o, e, ?_⟩
    exact ⟨_, rfl, _, rfl, a, C, rfl, o, n, .inl ⟨e, fun dx h1 h2 => k dx h1 h2⟩⟩
abbrev sNoLine : Stmt := inClass (top 24) 0
theorem scNoLine : FnScope ["self", "found"] ["self", "found"] (defScope sNoLine) := ⟨rfl, rfl, rfl, by decide +kernel, rfl, by decide +kernel, by decide +kernel⟩
theorem ok_NoLine (S : SeT K mg CS fS fdS sSE) (F : Fun K "__init__" "NoLine.__init__" sNoLine fN fdN) (o : OexC K C) (n : PySem.W.findIn K (.ref C) "found" = some none) : FnOk P w K mg base CX0 2 fN fdN ["self", "found"] (spOne K C "found") := by
  refine F.ok scNoLine (fun vs H Q E h => ?_) (fun cdv A outer s H vs Q E hr h => ?_)
  · obtain ⟨a, v, rfl, _⟩ := h
    rfl
  · obtain ⟨a, v, rfl, e, k⟩ := h
    refine ⟨_, pss_cons (ps_expr (pe_ccall S.c (ok_SE S) hr (by rfl) S.g S.k S.b .nil pass0 (pa_cons (pv 0) (pa_cons pe_str pa_nil))))
      (pss_one (ps_ost (pv 0) (pv 1))), ?_⟩
    refine ⟨_, rfl, a, C, _, rfl, o, e, ?_⟩
    exact ⟨_, rfl, _, rfl, a, C, rfl, o, n, .inl ⟨e, fun dx h1 h2 => k dx h1 h2⟩⟩
abbrev sNoState : Stmt := inClass (top 25) 0
theorem scNoState : FnScope ["self", "found"] ["self", "found"] (defScope sNoState) := ⟨rfl, rfl, rfl, by decide +kernel, rfl, by decide +kernel, by decide +kernel⟩
theorem ok_NoState (S : SeT K mg CS fS fdS sSE) (F : Fun K "__init__" "NoState.__init__" sNoState fN fdN) (o : OexC K C) (n : PySem.W.findIn K (.ref C) "found" = some none) : FnOk P w K mg base CX0 2 fN fdN ["self", "found"] (spOne K C "found") := by
  refine F.ok scNoState (fun vs H Q E h => ?_) (fun cdv A outer s H vs Q E hr h => ?_)
  · obtain ⟨a, v, rfl, _⟩ := h
    rfl
  · obtain ⟨a, v, rfl, e, k⟩ := h
    refine ⟨_, pss_cons (ps_expr (pe_ccall S.c (ok_SE S) hr (by rfl) S.g S.k S.b .nil pass0 (pa_cons (pv 0) (pa_cons pe_str pa_nil))))
      (pss_one (ps_ost (pv 0) (pv 1))), ?_⟩
    refine ⟨_, rfl, a, C, _, rfl, o, e, ?_⟩
    exact ⟨_, rfl, _, rfl, a, C, rfl, o, n, .inl ⟨e, fun dx h1 h2 => k dx h1 h2⟩⟩
abbrev sTwice : Stmt := inClass (top 26) 0
theorem scTwice : FnScope ["self", "found"] ["self", "found"] (defScope sTwice) := ⟨rfl, rfl, rfl, by decide +kernel, rfl, by decide +kernel, by decide +kernel⟩
theorem ok_Twice (S : SeT K mg CS fS fdS sSE) (F : Fun K "__init__" "Twice.__init__" sTwice fN fdN) (o : OexC K C) (n : PySem.W.findIn K (.ref C) "found" = some none) : FnOk P w K mg base CX0 2 fN fdN ["self", "found"] (spOne K C "found") := by
  refine F.ok scTwice (fun vs H Q E h => ?_) (fun cdv A outer s H vs Q E hr h => ?_)
  · obtain ⟨a, v, rfl, _⟩ := h
    rfl
  · obtain ⟨a, v, rfl, e, k⟩ := h
    refine ⟨_, pss_cons (ps_expr (pe_ccall S.c (ok_SE S) hr (by rfl) S.g S.k S.b .nil pass0 (pa_cons (pv 0) (pa_cons pe_str pa_nil))))
      (pss_one (ps_ost (pv 0) (pv 1))), ?_⟩
    refine ⟨_, rfl, a, C, _, rfl, o, e, ?_⟩
    exact ⟨_, rfl, _, rfl, a, C, rfl, o, n, .inl ⟨e, fun dx h1 h2 => k dx h1 h2⟩⟩
abbrev sNotHere : Stmt := inClass (top 27) 0
theorem scNotHere : FnScope ["self", "found"] ["self", "found"] (defScope sNotHere) := ⟨rfl, rfl, rfl, by decide +kernel, rfl, by decide +kernel, by decide +kernel⟩
theorem ok_NotHere (S : SeT K mg CS fS fdS sSE) (F : Fun K "__init__" "NotHere.__init__" sNotHere fN fdN) (o : OexC K C) (n : PySem.W.findIn K (.ref C) "found" = some none) : FnOk P w K mg base CX0 2 fN fdN ["self", "found"] (spOne K C "found") := by
  refine F.ok scNotHere (fun vs H Q E h => ?_) (fun cdv A outer s H vs Q E hr h => ?_)
  · obtain ⟨a, v, rfl, _⟩ := h
    rfl
  · obtain ⟨a, v, rfl, e, k⟩ := h
    refine ⟨_, pss_cons (ps_expr (pe_ccall S.c (ok_SE S) hr (by rfl) S.g S.k S.b .nil pass0 (pa_cons (pv 0) (pa_cons pe_str pa_nil))))
      (pss_one (ps_ost (pv 0) (pv 1))), ?_⟩
    refine ⟨_, rfl, a, C, _, rfl, o, e, ?_⟩
    exact ⟨_, rfl, _, rfl, a, C, rfl, o, n, .inl ⟨e, fun dx h1 h2 => k dx h1 h2⟩⟩
abbrev sNotIn : Stmt := inClass (top 28) 0
theorem scNotIn : FnScope ["self", "found"] ["self", "found"] (defScope sNotIn) := ⟨rfl, rfl, rfl, by decide +kernel, rfl, by decide +kernel, by decide +kernel⟩
theorem ok_NotIn (S : SeT K mg CS fS fdS sSE) (F : Fun K "__init__" "NotIn.__init__" sNotIn fN fdN) (o : OexC K C) (n : PySem.W.findIn K (.ref C) "found" = some none) : FnOk P w K mg base CX0 2 fN fdN ["self", "found"] (spOne K C "found") := by
  refine F.ok scNotIn (fun vs H Q E h => ?_) (fun cdv A outer s H vs Q E hr h => ?_)
  · obtain ⟨a, v, rfl, _⟩ := h
    rfl
  · obtain ⟨a, v, rfl, e, k⟩ := h
    refine ⟨_, pss_cons (ps_expr (pe_ccall S.c (ok_SE S) hr (by rfl) S.g S.k S.b .nil pass0 (pa_cons (pv 0) (pa_cons pe_str pa_nil))))
      (pss_one (ps_ost (pv 0) (pv 1))), ?_⟩
    refine ⟨_, rfl, a, C, _, rfl, o, e, ?_⟩
    exact ⟨_, rfl, _, rfl, a, C, rfl, o, n, .inl ⟨e, fun dx h1 h2 => k dx h1 h2⟩⟩
abbrev sNotHeld : Stmt := inClass (top 29) 0
theorem scNotHeld : FnScope ["self", "found"] ["self", "found"] (defScope sNotHeld) := ⟨rfl, rfl, rfl, by decide +kernel, rfl, by decide +kernel, by decide +kernel⟩
theorem ok_NotHeld (S : SeT K mg CS fS fdS sSE) (F : Fun K "__init__" "NotHeld.__init__" sNotHeld fN fdN) (o : OexC K C) (n : PySem.W.findIn K (.ref C) "found" = some none) : FnOk P w K mg base CX0 2 fN fdN ["self", "found"] (spOne K C "found") := by
  refine F.ok scNotHeld (fun vs H Q E h => ?_) (fun cdv A outer s H vs Q E hr h => ?_)
  · obtain ⟨a, v, rfl, _⟩ := h
    rfl
  · obtain ⟨a, v, rfl, e, k⟩ := h
    refine ⟨_, pss_cons (ps_expr (pe_ccall S.c (ok_SE S) hr (by rfl) S.g S.k S.b .nil pass0 (pa_cons (pv 0) (pa_cons pe_str pa_nil))))
      (pss_one (ps_ost (pv 0) (pv 1))), ?_⟩
    refine ⟨_, rfl, a, C, _, rfl, o, e, ?_⟩
    exact ⟨_, rfl, _, rfl, a, C, rfl, o, n, .inl ⟨e, fun dx h1 h2 => k dx h1 h2⟩⟩
abbrev sNotHelped : Stmt := inClass (top 30) 0
theorem scNotHelped : FnScope ["self", "found"] ["self", "found"] (defScope sNotHelped) := ⟨rfl, rfl, rfl, by decide +kernel, rfl, by decide +kernel, by decide +kernel⟩
theorem ok_NotHelped (S : SeT K mg CS fS fdS sSE) (F : Fun K "__init__" "NotHelped.__init__" sNotHelped fN fdN) (o : OexC K C) (n : PySem.W.findIn K (.ref C) "found" = some none) : FnOk P w K mg base CX0 2 fN fdN ["self", "found"] (spOne K C "found") := by
  refine F.ok scNotHelped (fun vs H Q E h => ?_) (fun cdv A outer s H vs Q E hr h => ?_)
  · obtain ⟨a, v, rfl, _⟩ := h
    rfl
  · obtain ⟨a, v, rfl, e, k⟩ := h
    refine ⟨_, pss_cons (ps_expr (pe_ccall S.c (ok_SE S) hr (by rfl) S.g S.k S.b .nil pass0 (pa_cons (pv 0) (pa_cons pe_str pa_nil))))
      (pss_one (ps_ost (pv 0) (pv 1))), ?_⟩
    refine ⟨_, rfl, a, C, _, rfl, o, e, ?_⟩
    exact ⟨_, rfl, _, rfl, a, C, rfl, o, n, .inl ⟨e, fun dx h1 h2 => k dx h1 h2⟩⟩
abbrev sFull : Stmt := inClass (top 31) 0
theorem scFull : FnScope ["self", "found"] ["self", "found"] (defScope sFull) := ⟨rfl, rfl, rfl, by decide +kernel, rfl, by decide +kernel, by decide +kernel⟩
theorem ok_Full (S : SeT K mg CS fS fdS sSE) (F : Fun K "__init__" "Full.__init__" sFull fN fdN) (o : OexC K C) (n : PySem.W.findIn K (.ref C) "found" = some none) : FnOk P w K mg base CX0 2 fN fdN ["self", "found"] (spOne K C "found") := by
  refine F.ok scFull (fun vs H Q E h => ?_) (fun cdv A outer s H vs Q E hr h => ?_)
  · obtain ⟨a, v, rfl, _⟩ := h
    rfl
  · obtain ⟨a, v, rfl, e, k⟩ := h
    refine ⟨_, pss_cons (ps_expr (pe_ccall S.c (ok_SE S) hr (by rfl) S.g S.k S.b .nil pass0 (pa_cons (pv 0) (pa_cons pe_str pa_nil))))
      (pss_one (ps_ost (pv 0) (pv 1))), ?_⟩
    refine ⟨_, rfl, a, C, _, rfl, o, e, ?_⟩
    exact ⟨_, rfl, _, rfl, a, C, rfl, o, n, .inl ⟨e, fun dx h1 h2 => k dx h1 h2⟩⟩
abbrev sLacks : Stmt := inClass (top 32) 0
theorem scLacks : FnScope ["self", "found"] ["self", "found"] (defScope sLacks) := ⟨rfl, rfl, rfl, by decide +kernel, rfl, by decide +kernel, by decide +kernel⟩
theorem ok_Lacks (S : SeT K mg CS fS fdS sSE) (F : Fun K "__init__" "Lacks.__init__" sLacks fN fdN) (o : OexC K C) (n : PySem.W.findIn K (.ref C) "found" = some none) : FnOk P w K mg base CX0 2 fN fdN ["self", "found"] (spOne K C "found") := by
  refine F.ok scLacks (fun vs H Q E h => ?_) (fun cdv A outer s H vs Q E hr h => ?_)
  · obtain ⟨a, v, rfl, _⟩ := h
    rfl
  · obtain ⟨a, v, rfl, e, k⟩ := h
    refine ⟨_, pss_cons (ps_expr (pe_ccall S.c (ok_SE S) hr (by rfl) S.g S.k S.b .nil pass0 (pa_cons (pv 0) (pa_cons pe_str pa_nil))))
      (pss_one (ps_ost (pv 0) (pv 1))), ?_⟩
    refine ⟨_, rfl, a, C, _, rfl, o, e, ?_⟩
    exact ⟨_, rfl, _, rfl, a, C, rfl, o, n, .inl ⟨e, fun dx h1 h2 => k dx h1 h2⟩⟩
abbrev sShut : Stmt := inClass (top 33) 0
theorem scShut : FnScope ["self", "found"] ["self", "found"] (defScope sShut) := ⟨rfl, rfl, rfl, by decide +kernel, rfl, by decide +kernel, by decide +kernel⟩
theorem ok_Shut (S : SeT K mg CS fS fdS sSE) (F : Fun K "__init__" "Shut.__init__" sShut fN fdN) (o : OexC K C) (n : PySem.W.findIn K (.ref C) "found" = some none) : FnOk P w K mg base CX0 2 fN fdN ["self", "found"] (spOne K C "found") := by
  refine F.ok scShut (fun vs H Q E h => ?_) (fun cdv A outer s H vs Q E hr h => ?_)
  · obtain ⟨a, v, rfl, _⟩ := h
    rfl
  · obtain ⟨a, v, rfl, e, k⟩ := h
    refine ⟨_, pss_cons (ps_expr (pe_ccall S.c (ok_SE S) hr (by rfl) S.g S.k S.b .nil pass0 (pa_cons (pv 0) (pa_cons pe_str pa_nil))))
      (pss_one (ps_ost (pv 0) (pv 1))), ?_⟩
    refine ⟨_, rfl, a, C, _, rfl, o, e, ?_⟩
    exact ⟨_, rfl, _, rfl, a, C, rfl, o, n, .inl ⟨e, fun dx h1 h2 => k dx h1 h2⟩⟩
abbrev sHeld : Stmt := inClass (top 34) 0
theorem scHeld : FnScope ["self", "found"] ["self", "found"] (defScope sHeld) := ⟨rfl, rfl, rfl, by decide +kernel, rfl, by decide +kernel, by decide +kernel⟩
theorem ok_Held (S : SeT K mg CS fS fdS sSE) (F : Fun K "__init__" "Held.__init__" sHeld fN fdN) (o : OexC K C) (n : PySem.W.findIn K (.ref C) "found" = some none) : FnOk P w K mg base CX0 2 fN fdN ["self", "found"] (spOne K C "found") := by
  refine F.ok scHeld (fun vs H Q E h => ?_) (fun cdv A outer s H vs Q E hr h => ?_)
  · obtain ⟨a, v, rfl, _⟩ := h
    rfl
  · obtain ⟨a, v, rfl, e, k⟩ := h
    refine ⟨_, pss_cons (ps_expr (pe_ccall S.c (ok_SE S) hr (by rfl) S.g S.k S.b .nil pass0 (pa_cons (pv 0) (pa_cons pe_str pa_nil))))
      (pss_one (ps_ost (pv 0) (pv 1))), ?_⟩
    refine ⟨_, rfl, a, C, _, rfl, o, e, ?_⟩
    exact ⟨_, rfl, _, rfl, a, C, rfl, o, n, .inl ⟨e, fun dx h1 h2 => k dx h1 h2⟩⟩
abbrev sNotClear : Stmt := inClass (top 35) 0
theorem scNotClear : FnScope ["self", "found"] ["self", "found"] (defScope sNotClear) := ⟨rfl, rfl, rfl, by decide +kernel, rfl, by decide +kernel, by decide +kernel⟩
theorem ok_NotClear (S : SeT K mg CS fS fdS sSE) (F : Fun K "__init__" "NotClear.__init__" sNotClear fN fdN) (o : OexC K C) (n : PySem.W.findIn K (.ref C) "found" = some none) : FnOk P w K mg base CX0 2 fN fdN ["self", "found"] (spOne K C "found") := by
  refine F.ok scNotClear (fun vs H Q E h => ?_) (fun cdv A outer s H vs Q E hr h => ?_)
  · obtain ⟨a, v, rfl, _⟩ := h
    rfl
  · obtain ⟨a, v, rfl, e, k⟩ := h
    refine ⟨_, pss_cons (ps_expr (pe_ccall S.c (ok_SE S) hr (by rfl) S.g S.k S.b .nil pass0 (pa_cons (pv 0) (pa_cons pe_str pa_nil))))
      (pss_one (ps_ost (pv 0) (pv 1))), ?_⟩
    refine ⟨_, rfl, a, C, _, rfl, o, e, ?_⟩
    exact ⟨_, rfl, _, rfl, a, C, rfl, o, n, .inl ⟨e, fun dx h1 h2 => k dx h1 h2⟩⟩
abbrev sNoTickets : Stmt := inClass (top 36) 0
theorem scNoTickets : FnScope ["self", "found"] ["self", "found"] (defScope sNoTickets) := ⟨rfl, rfl, rfl, by decide +kernel, rfl, by decide +kernel, by decide +kernel⟩
theorem ok_NoTickets (S : SeT K mg CS fS fdS sSE) (F : Fun K "__init__" "NoTickets.__init__" sNoTickets fN fdN) (o : OexC K C) (n : PySem.W.findIn K (.ref C) "found" = some none) : FnOk P w K mg base CX0 2 fN fdN ["self", "found"] (spOne K C "found") := by
  refine F.ok scNoTickets (fun vs H Q E h => ?_) (fun cdv A outer s H vs Q E hr h => ?_)
  · obtain ⟨a, v, rfl, _⟩ := h
    rfl
  · obtain ⟨a, v, rfl, e, k⟩ := h
    refine ⟨_, pss_cons (ps_expr (pe_ccall S.c (ok_SE S) hr (by rfl) S.g S.k S.b .nil pass0 (pa_cons (pv 0) (pa_cons pe_str pa_nil))))
      (pss_one (ps_ost (pv 0) (pv 1))), ?_⟩
    refine ⟨_, rfl, a, C, _, rfl, o, e, ?_⟩
    exact ⟨_, rfl, _, rfl, a, C, rfl, o, n, .inl ⟨e, fun dx h1 h2 => k dx h1 h2⟩⟩
abbrev sNoRight : Stmt := inClass (top 37) 0
theorem scNoRight : FnScope ["self", "found"] ["self", "found"] (defScope sNoRight) := ⟨rfl, rfl, rfl, by decide +kernel, rfl, by decide +kernel, by decide +kernel⟩
theorem ok_NoRight (S : SeT K mg CS fS fdS sSE) (F : Fun K "__init__" "NoRight.__init__" sNoRight fN fdN) (o : OexC K C) (n : PySem.W.findIn K (.ref C) "found" = some none) : FnOk P w K mg base CX0 2 fN fdN ["self", "found"] (spOne K C "found") := by
  refine F.ok scNoRight (fun vs H Q E h => ?_) (fun cdv A outer s H vs Q E hr h => ?_)
  · obtain ⟨a, v, rfl, _⟩ := h
    rfl
  · obtain ⟨a, v, rfl, e, k⟩ := h
    refine ⟨_, pss_cons (ps_expr (pe_ccall S.c (ok_SE S) hr (by rfl) S.g S.k S.b .nil pass0 (pa_cons (pv 0) (pa_cons pe_str pa_nil))))
      (pss_one (ps_ost (pv 0) (pv 1))), ?_⟩
    refine ⟨_, rfl, a, C, _, rfl, o, e, ?_⟩
    exact ⟨_, rfl, _, rfl, a, C, rfl, o, n, .inl ⟨e, fun dx h1 h2 => k dx h1 h2⟩⟩
abbrev sNotShut : Stmt := inClass (top 38) 0
theorem scNotShut : FnScope ["self", "found"] ["self", "found"] (defScope sNotShut) := ⟨rfl, rfl, rfl, by decide +kernel, rfl, by decide +kernel, by decide +kernel⟩
theorem ok_NotShut (S : SeT K mg CS fS fdS sSE) (F : Fun K "__init__" "NotShut.__init__" sNotShut fN fdN) (o : OexC K C) (n : PySem.W.findIn K (.ref C) "found" = some none) : FnOk P w K mg base CX0 2 fN fdN ["self", "found"] (spOne K C "found") := by
  refine F.ok scNotShut (fun vs H Q E h => ?_) (fun cdv A outer s H vs Q E hr h => ?_)
  · obtain ⟨a, v, rfl, _⟩ := h
    rfl
  · obtain ⟨a, v, rfl, e, k⟩ := h
    refine ⟨_, pss_cons (ps_expr (pe_ccall S.c (ok_SE S) hr (by rfl) S.g S.k S.b .nil pass0 (pa_cons (pv 0) (pa_cons pe_str pa_nil))))
      (pss_one (ps_ost (pv 0) (pv 1))), ?_⟩
    refine ⟨_, rfl, a, C, _, rfl, o, e, ?_⟩
    exact ⟨_, rfl, _, rfl, a, C, rfl, o, n, .inl ⟨e, fun dx h1 h2 => k dx h1 h2⟩⟩
abbrev sTaken : Stmt := inClass (top 39) 0
theorem scTaken : FnScope ["self", "found"] ["self", "found"] (defScope sTaken) := ⟨rfl, rfl, rfl, by decide +kernel, rfl, by decide +kernel, by decide +kernel⟩
theorem ok_Taken (S : SeT K mg CS fS fdS sSE) (F : Fun K "__init__" "Taken.__init__" sTaken fN fdN) (o : OexC K C) (n : PySem.W.findIn K (.ref C) "found" = some none) : FnOk P w K mg base CX0 2 fN fdN ["self", "found"] (spOne K C "found") := by
  refine F.ok scTaken (fun vs H Q E h => ?_) (fun cdv A outer s H vs Q E hr h => ?_)
  · obtain ⟨a, v, rfl, _⟩ := h
    rfl
  · obtain ⟨a, v, rfl, e, k⟩ := h
    refine ⟨_, pss_cons (ps_expr (pe_ccall S.c (ok_SE S) hr (by rfl) S.g S.k S.b .nil pass0 (pa_cons (pv 0) (pa_cons pe_str pa_nil))))
      (pss_one (ps_ost (pv 0) (pv 1))), ?_⟩
    refine ⟨_, rfl, a, C, _, rfl, o, e, ?_⟩
    exact ⟨_, rfl, _, rfl, a, C, rfl, o, n, .inl ⟨e, fun dx h1 h2 => k dx h1 h2⟩⟩
abbrev sBoxed : Stmt := inClass (top 40) 0
theorem scBoxed : FnScope ["self", "found"] ["self", "found"] (defScope sBoxed) := ⟨rfl, rfl, rfl, by decide +kernel, rfl, by decide +kernel, by decide +kernel⟩
theorem ok_Boxed (S : SeT K mg CS fS fdS sSE) (F : Fun K "__init__" "Boxed.__init__" sBoxed fN fdN) (o : OexC K C) (n : PySem.W.findIn K (.ref C) "found" = some none) : FnOk P w K mg base CX0 2 fN fdN ["self", "found"] (spOne K C "found") := by
  refine F.ok scBoxed (fun vs H Q E h => ?_) (fun cdv A outer s H vs Q E hr h => ?_)
  · obtain ⟨a, v, rfl, _⟩ := h
    rfl
  · obtain ⟨a, v, rfl, e, k⟩ := h
    refine ⟨_, pss_cons (ps_expr (pe_ccall S.c (ok_SE S) hr (by rfl) S.g S.k S.b .nil pass0 (pa_cons (pv 0) (pa_cons pe_str pa_nil))))
      (pss_one (ps_ost (pv 0) (pv 1))), ?_⟩
    refine ⟨_, rfl, a, C, _, rfl, o, e, ?_⟩
    exact ⟨_, rfl, _, rfl, a, C, rfl, o, n, .inl ⟨e, fun dx h1 h2 => k dx h1 h2⟩⟩
abbrev sSilent : Stmt := inClass (top 41) 0
theorem scSilent : FnScope ["self", "found"] ["self", "found"] (defScope sSilent) := ⟨rfl, rfl, rfl, by decide +kernel, rfl, by decide +kernel, by decide +kernel⟩
theorem ok_Silent (S : SeT K mg CS fS fdS sSE) (F : Fun K "__init__" "Silent.__init__" sSilent fN fdN) (o : OexC K C) (n : PySem.W.findIn K (.ref C) "found" = some none) : FnOk P w K mg base CX0 2 fN fdN ["self", "found"] (spOne K C "found") := by
  refine F.ok scSilent (fun vs H Q E h => ?_) (fun cdv A outer s H vs Q E hr h => ?_)
  · obtain ⟨a, v, rfl, _⟩ := h
    rfl
  · obtain ⟨a, v, rfl, e, k⟩ := h
    refine ⟨_, pss_cons (ps_expr (pe_ccall S.c (ok_SE S) hr (by rfl) S.g S.k S.b .nil pass0 (pa_cons (pv 0) (pa_cons pe_str pa_nil))))
      (pss_one (ps_ost (pv 0) (pv 1))), ?_⟩
    refine ⟨_, rfl, a, C, _, rfl, o, e, ?_⟩
    exact ⟨_, rfl, _, rfl, a, C, rfl, o, n, .inl ⟨e, fun dx h1 h2 => k dx h1 h2⟩⟩
abbrev sTooMany : Stmt := inClass (top 42) 0
theorem scTooMany : FnScope ["self", "many"] ["self", "many"] (defScope sTooMany) := ⟨rfl, rfl, rfl, by decide +kernel, rfl, by decide +kernel, by decide +kernel⟩
theorem ok_TooMany (S : SeT K mg CS fS fdS sSE) (F : Fun K "__init__" "TooMany.__init__" sTooMany fN fdN) (o : OexC K C) (n : PySem.W.findIn K (.ref C) "many" = some none) : FnOk P w K mg base CX0 2 fN fdN ["self", "many"] (spOne K C "many") := by
  refine F.ok scTooMany (fun vs H Q E h => ?_) (fun cdv A outer s H vs Q E hr h => ?_)
  · obtain ⟨a, v, rfl, _⟩ := h
    rfl
  · obtain ⟨a, v, rfl, e, k⟩ := h
    refine ⟨_, pss_cons (ps_expr (pe_ccall S.c (ok_SE S) hr (by rfl) S.g S.k S.b .nil pass0 (pa_cons (pv 0) (pa_cons pe_str pa_nil))))
      (pss_one (ps_ost (pv 0) (pv 1))), ?_⟩
    refine ⟨_, rfl, a, C, _, rfl, o, e, ?_⟩
    exact ⟨_, rfl, _, rfl, a, C, rfl, o, n, .inl ⟨e, fun dx h1 h2 => k dx h1 h2⟩⟩
abbrev sNoText : Stmt := inClass (top 43) 0
theorem scNoText : FnScope ["self", "row"] ["self", "row"] (defScope sNoText) := ⟨rfl, rfl, rfl, by decide +kernel, rfl, by decide +kernel, by decide +kernel⟩
theorem ok_NoText (S : SeT K mg CS fS fdS sSE) (F : Fun K "__init__" "NoText.__init__" sNoText fN fdN) (o : OexC K C) (n : PySem.W.findIn K (.ref C) "row" = some none) : FnOk P w K mg base CX0 2 fN fdN ["self", "row"] (spOne K C "row") := by
  refine F.ok scNoText (fun vs H Q E h => ?_) (fun cdv A outer s H vs Q E hr h => ?_)
  · obtain ⟨a, v, rfl, _⟩ := h
    rfl
  · obtain ⟨a, v, rfl, e, k⟩ := h
    refine ⟨_, pss_cons (ps_expr (pe_ccall S.c (ok_SE S) hr (by rfl) S.g S.k S.b .nil pass0 (pa_cons (pv 0) (pa_cons pe_str pa_nil))))
      (pss_one (ps_ost (pv 0) (pv 1))), ?_⟩
    refine ⟨_, rfl, a, C, _, rfl, o, e, ?_⟩
    exact ⟨_, rfl, _, rfl, a, C, rfl, o, n, .inl ⟨e, fun dx h1 h2 => k dx h1 h2⟩⟩
abbrev sGap : Stmt := inClass (top 44) 0
theorem scGap : FnScope ["self", "number"] ["self", "number"] (defScope sGap) := ⟨rfl, rfl, rfl, by decide +kernel, rfl, by decide +kernel, by decide +kernel⟩
theorem ok_Gap (S : SeT K mg CS fS fdS sSE) (F : Fun K "__init__" "Gap.__init__" sGap fN fdN) (o : OexC K C) (n : PySem.W.findIn K (.ref C) "number" = some none) : FnOk P w K mg base CX0 2 fN fdN ["self", "number"] (spOne K C "number") := by
  refine F.ok scGap (fun vs H Q E h => ?_) (fun cdv A outer s H vs Q E hr h => ?_)
  · obtain ⟨a, v, rfl, _⟩ := h
    rfl
  · obtain ⟨a, v, rfl, e, k⟩ := h
    refine ⟨_, pss_cons (ps_expr (pe_ccall S.c (ok_SE S) hr (by rfl) S.g S.k S.b .nil pass0 (pa_cons (pv 0) (pa_cons pe_str pa_nil))))
      (pss_one (ps_ost (pv 0) (pv 1))), ?_⟩
    refine ⟨_, rfl, a, C, _, rfl, o, e, ?_⟩
    exact ⟨_, rfl, _, rfl, a, C, rfl, o, n, .inl ⟨e, fun dx h1 h2 => k dx h1 h2⟩⟩
abbrev sNotSo : Stmt := inClass (top 45) 0
theorem scNotSo : FnScope ["self", "number"] ["self", "number"] (defScope sNotSo) := ⟨rfl, rfl, rfl, by decide +kernel, rfl, by decide +kernel, by decide +kernel⟩
theorem ok_NotSo (S : SeT K mg CS fS fdS sSE) (F : Fun K "__init__" "NotSo.__init__" sNotSo fN fdN) (o : OexC K C) (n : PySem.W.findIn K (.ref C) "number" = some none) : FnOk P w K mg base CX0 2 fN fdN ["self", "number"] (spOne K C "number") := by
  refine F.ok scNotSo (fun vs H Q E h => ?_) (fun cdv A outer s H vs Q E hr h => ?_)
  · obtain ⟨a, v, rfl, _⟩ := h
    rfl
  · obtain ⟨a, v, rfl, e, k⟩ := h
    refine ⟨_, pss_cons (ps_expr (pe_ccall S.c (ok_SE S) hr (by rfl) S.g S.k S.b .nil pass0 (pa_cons (pv 0) (pa_cons pe_str pa_nil))))
      (pss_one (ps_ost (pv 0) (pv 1))), ?_⟩
    refine ⟨_, rfl, a, C, _, rfl, o, e, ?_⟩
    exact ⟨_, rfl, _, rfl, a, C, rfl, o, n, .inl ⟨e, fun dx h1 h2 => k dx h1 h2⟩⟩
abbrev sNoTrip : Stmt := inClass (top 46) 0
theorem scNoTrip : FnScope ["self", "run"] ["self", "run"] (defScope sNoTrip) := ⟨rfl, rfl, rfl, by decide +kernel, rfl, by decide +kernel, by decide +kernel⟩
theorem ok_NoTrip (S : SeT K mg CS fS fdS sSE) (F : Fun K "__init__" "NoTrip.__init__" sNoTrip fN fdN) (o : OexC K C) (n : PySem.W.findIn K (.ref C) "run" = some none) : FnOk P w K mg base CX0 2 fN fdN ["self", "run"] (spOne K C "run") := by
  refine F.ok scNoTrip (fun vs H Q E h => ?_) (fun cdv A outer s H vs Q E hr h => ?_)
  · obtain ⟨a, v, rfl, _⟩ := h
    rfl
  · obtain ⟨a, v, rfl, e, k⟩ := h
    refine ⟨_, pss_cons (ps_expr (pe_ccall S.c (ok_SE S) hr (by rfl) S.g S.k S.b .nil pass0 (pa_cons (pv 0) (pa_cons pe_str pa_nil))))
      (pss_one (ps_ost (pv 0) (pv 1))), ?_⟩
    refine ⟨_, rfl, a, C, _, rfl, o, e, ?_⟩
    exact ⟨_, rfl, _, rfl, a, C, rfl, o, n, .inl ⟨e, fun dx h1 h2 => k dx h1 h2⟩⟩
abbrev sNoStart : Stmt := inClass (top 47) 0
theorem scNoStart : FnScope ["self"] ["self"] (defScope sNoStart) := ⟨rfl, rfl, rfl, by decide +kernel, rfl, by decide +kernel, by decide +kernel⟩
theorem ok_NoStart (S : SeT K mg CS fS fdS sSE) (F : Fun K "__init__" "NoStart.__init__" sNoStart fN fdN) (o : OexC K C) : FnOk P w K mg base CX0 2 fN fdN ["self"] (spNil K C) := by
  refine F.ok scNoStart (fun vs H Q E h => ?_) (fun cdv A outer s H vs Q E hr h => ?_)
  · obtain ⟨a, rfl, _⟩ := h
    rfl
  · obtain ⟨a, rfl, e, k⟩ := h
    refine ⟨_, pss_one (ps_expr (pe_ccall S.c (ok_SE S) hr (by rfl) S.g S.k S.b .nil pass0 (pa_cons (pv 0) (pa_cons pe_str pa_nil)))), ?_⟩
    exact ⟨_, rfl, a, C, _, rfl, o, e, k⟩
abbrev sNoBack : Stmt := inClass (top 48) 0
theorem scNoBack : FnScope ["self"] ["self"] (defScope sNoBack) := ⟨rfl, rfl, rfl, by decide +kernel, rfl, by decide +kernel, by decide +kernel⟩
theorem ok_NoBack (S : SeT K mg CS fS fdS sSE) (F : Fun K "__init__" "NoBack.__init__" sNoBack fN fdN) (o : OexC K C) : FnOk P w K mg base CX0 2 fN fdN ["self"] (spNil K C) := by
  refine F.ok scNoBack (fun vs H Q E h => ?_) (fun cdv A outer s H vs Q E hr h => ?_)
  · obtain ⟨a, rfl, _⟩ := h
    rfl
  · obtain ⟨a, rfl, e, k⟩ := h
    refine ⟨_, pss_one (ps_expr (pe_ccall S.c (ok_SE S) hr (by rfl) S.g S.k S.b .nil pass0 (pa_cons (pv 0) (pa_cons pe_str pa_nil)))), ?_⟩
    exact ⟨_, rfl, a, C, _, rfl, o, e, k⟩
end
end E9

set_option maxRecDepth 100000
set_option maxHeartbeats 4000000
/-! Data in the heap, kept by steps that change a box, a table. -/
namespace My
open PySem PySem.Spec PyProof.Rows L2 GxR Gd TL
/-- all but tables stays -/
def Nt (H H' : Hp) : Prop := ∀ c o, (∀ ps, o ≠ .tbl ps) → H c = some o → H' c = some o
theorem Nt.refl (H : Hp) : Nt H H := fun _ _ _ h => h
theorem Nt.trans {H H1 H2 : Hp} (a : Nt H H1) (b : Nt H1 H2) : Nt H H2 := fun c o n h => b c o n (a c o n h)
theorem KT.nt {P : Addr} {H H' : Hp} (t : TabG H P) (k : KT P H H') : Nt H H' := fun c o n h => k.keep c o (ne_tab t h n) h
theorem Nt.alloc {H : Hp} {p : Addr} {o : HO} (n : H p = none) : Nt H (upd H p o) := fun c u _ h => by rw [upd_ne (ne_of_none h n)]; exact h
/-- the heap but the box -/
def hide (b : Addr) (H : Hp) : Hp := fun c => if c = b then none else H c
theorem hide_ne {b c : Addr} {H : Hp} (h : c ≠ b) : hide b H c = H c := if_neg h
theorem hide_some {b c : Addr} {H : Hp} {o : HO} (h : hide b H c = some o) : c ≠ b ∧ H c = some o := by
  unfold hide at h
  by_cases q : c = b
  · rw [if_pos q] at h
    cases h
  · rw [if_neg q] at h
    exact ⟨q, h⟩
theorem KB.nt {b : Addr} {H H' : Hp} (k : KB b H H') : Nt (hide b H) (hide b H') := fun c o _ h => by
  obtain ⟨n, h⟩ := hide_some h
  rw [hide_ne n]
  exact k c o n h
theorem hide_nt (b : Addr) (H : Hp) : Nt (hide b H) H := fun c o _ h => (hide_some h).2
theorem Nt.seq {K : PySem.W.Frag} {H H' : Hp} {a : Addr} {xs : List V} (e : Nt H H') (h : SqL K H a xs) : SqL K H' a xs := by
  rcases h with (h | ⟨o, h⟩) | h
  · exact .inl (.inl (e _ _ (by simp) h))
  · exact .inl (.inr ⟨o, e _ _ (by simp) h⟩)
  · exact .inr h
theorem Nt.seqT {K : PySem.W.Frag} {H H' : Hp} {a : Addr} {xs : List V} (e : Nt H H') (h : SqT K H a xs) : SqT K H' a xs := by
  rcases h with (h | ⟨o, h⟩) | h
  · exact .inl (.inl (e _ _ (by simp) h))
  · exact .inl (.inr ⟨o, e _ _ (by simp) h⟩)
  · exact .inr h
section
variable {K : PySem.W.Frag} {H H' : Hp}
mutual
theorem dp_nt (e : Nt H H') : ∀ {v : V} {d : PyData}, Dp K H v d → Dp K H' v d
  | _, _, .non => .non
  | _, _, .bl b => .bl b
  | _, _, .int i => .int i
  | _, _, .str z => .str z
  | _, _, .lst h a => .lst (e.seq h) (dpAll_nt e a)
  | _, _, .tup h a => .tup (e.seqT h) (dpAll_nt e a)
theorem dpAll_nt (e : Nt H H') : ∀ {vs : List V} {ds : List PyData}, DpAll K H vs ds → DpAll K H' vs ds
  | _, _, .nil => .nil
  | _, _, .cons h t => .cons (dp_nt e h) (dpAll_nt e t)
end
theorem dp_list {v : V} {ds : List PyData} (h : Dp K H v (.list ds)) : ∃ a xs, v = .ref a ∧ SqL K H a xs ∧ DpAll K H xs ds := by
  cases h with
  | lst h a => exact ⟨_, _, rfl, h, a⟩
theorem dp_tuple {v : V} {ds : List PyData} (h : Dp K H v (.tuple ds)) : ∃ a xs, v = .ref a ∧ SqT K H a xs ∧ DpAll K H xs ds := by
  cases h with
  | tup h a => exact ⟨_, _, rfl, h, a⟩
theorem dp_str {v : V} {z : Str} (h : Dp K H v (.str z)) : v = .str z := by
  cases h
  rfl
theorem dp_int {v : V} {i : Int} (h : Dp K H v (.int i)) : v = .int i := by
  cases h
  rfl
theorem dp_none {v : V} (h : Dp K H v .none) : v = .non := by
  cases h
  rfl
theorem dpAll_len : ∀ {xs : List V} {ds : List PyData}, DpAll K H xs ds → xs.length = ds.length
  | _, _, .nil => rfl
  | _, _, .cons _ t => congrArg (· + 1) (dpAll_len t)
theorem dpAll_get : ∀ {xs : List V} {ds : List PyData}, DpAll K H xs ds → ∀ {i : Nat} {x : V}, xs[i]? = some x → ∃ d, ds[i]? = some d ∧ Dp K H x d
  | _, _, .nil, _, _, h => by simp at h
  | _, _, .cons a _, 0, _, h => by simp at h; subst h; exact ⟨_, rfl, a⟩
  | _, _, .cons _ t, i + 1, x, h => by
    obtain ⟨d, h1, h2⟩ := dpAll_get t (i := i) (x := x) (by simpa using h)
    exact ⟨d, by simpa using h1, h2⟩
theorem dpAll_at : ∀ {xs : List V} {ds : List PyData}, DpAll K H xs ds → ∀ {i : Nat} {d : PyData}, ds[i]? = some d → ∃ x, xs[i]? = some x ∧ Dp K H x d
  | _, _, .nil, _, _, h => by simp at h
  | _, _, .cons a _, 0, _, h => by simp at h; subst h; exact ⟨_, rfl, a⟩
  | _, _, .cons _ t, i + 1, d, h => by
    obtain ⟨x, h1, h2⟩ := dpAll_at t (i := i) (d := d) (by simpa using h)
    exact ⟨x, by simpa using h1, h2⟩
theorem dpAll_app : ∀ {xs ys : List V} {ds es : List PyData}, DpAll K H xs ds → DpAll K H ys es → DpAll K H (xs ++ ys) (ds ++ es)
  | _, _, _, _, .nil, h => h
  | _, _, _, _, .cons a t, h => .cons a (dpAll_app t h)
theorem dp_two {v : V} {c d : PyData} (h : Dp K H v (.tuple [c, d])) : ∃ a x y, v = .ref a ∧ SqT K H a [x, y] ∧ Dp K H x c ∧ Dp K H y d := by
  obtain ⟨a, xs, rfl, h1, h2⟩ := dp_tuple h
  cases h2 with
  | cons p t =>
    cases t with
    | cons q t =>
      cases t
      exact ⟨a, _, _, rfl, h1, p, q⟩
theorem dp_three {v : V} {c d e : PyData} (h : Dp K H v (.tuple [c, d, e])) : ∃ a x y z, v = .ref a ∧ SqT K H a [x, y, z] ∧ Dp K H x c ∧ Dp K H y d ∧ Dp K H z e := by
  obtain ⟨a, xs, rfl, h1, h2⟩ := dp_tuple h
  cases h2 with
  | cons p t =>
    cases t with
    | cons q t =>
      cases t with
      | cons r t =>
        cases t
        exact ⟨a, _, _, _, rfl, h1, p, q, r⟩
theorem dp_four {v : V} {c d e f : PyData} (h : Dp K H v (.list [c, d, e, f])) : ∃ a x y z u, v = .ref a ∧ SqL K H a [x, y, z, u] ∧ Dp K H x c ∧ Dp K H y d ∧ Dp K H z e ∧ Dp K H u f := by
  obtain ⟨a, xs, rfl, h1, h2⟩ := dp_list h
  cases h2 with
  | cons p t =>
    cases t with
    | cons q t =>
      cases t with
      | cons r t =>
        cases t with
        | cons s t =>
          cases t
          exact ⟨a, _, _, _, _, rfl, h1, p, q, r, s⟩
end
/-! ### names that are good, worlds of lines -/
def NameOk (z : Str) : Prop := 1 ≤ z.length ∧ z.length ≤ 6 ∧ z.cps.toList.all lc = true
theorem NameOk.good {z : Str} (h : NameOk z) : Good z := fun c hc => by
  have := List.all_eq_true.mp h.2.2 c hc
  unfold lc at this
  simp at this
  omega
theorem NameOk.nm {z : Str} (h : NameOk z) : nm (.str z) = true := by
  obtain ⟨h1, h2, h3⟩ := h
  simp [My.nm, h1, h2, h3]
theorem NameOk.th {z : Str} {H : Hp} (h : NameOk z) : Th H (.str z) := .str z (by have := h.2.1; omega) h.good
structure Wd where
  ps : List (Str × Int)
  st : List (Str × Int)
  lo : List (Int × Int × Int)
  sp : Str
def longsOk (top : Int) : Int → List (Int × Int × Int) → Prop
  | _, [] => True
  | low, (f, l, h) :: r => low ≤ f ∧ f + 2 ≤ l ∧ l ≤ top ∧ 0 ≤ h ∧ h ≤ 1 ∧ longsOk top l r
structure Wd.Ok (w : Wd) : Prop where
  p2 : 2 ≤ w.ps.length
  p6 : w.ps.length ≤ 6
  nm : ∀ p ∈ w.ps, NameOk p.1 ∧ 1 ≤ p.2 ∧ p.2 ≤ 3
  nd : (w.ps.map (·.1)).Nodup
  sl : w.st.length + 1 = w.ps.length
  st : ∀ p ∈ w.st, (p.1 = "staff" ∨ p.1 = "ticket") ∧ 0 ≤ p.2 ∧ p.2 ≤ 1
  ll : w.lo.length ≤ 2
  lo : longsOk (w.ps.length - 1 : Nat) 0 w.lo
  sn : NameOk w.sp
  s0 : w.sp ∉ w.ps.map (·.1)
def dP (p : Str × Int) : PyData := .tuple [.str p.1, .int p.2]
def dL (p : Int × Int × Int) : PyData := .tuple [.int p.1, .int p.2.1, .int p.2.2]
def Wd.data (w : Wd) : PyData := .list [.list (w.ps.map dP), .list (w.st.map dP), .list (w.lo.map dL), .str w.sp]
end My

set_option maxRecDepth 100000
set_option maxHeartbeats 3200000
namespace E9
open PySem PySem.Spec PyProof.Rows L2 GxR Gd TL My
/-- a refusal that is kept: of the class C, its field fld holding y, or none -/
def Kept (H : Hp) (v : V) (c : Addr × Option (Str × V)) : Prop := ∃ a, v = .ref a ∧ match c.2 with
  | some (f, y) => ∃ dx, H a = some (exo a c.1 (some dx)) ∧ H dx = some (exd dx [(f, y)])
  | none => H a = some (exo a c.1 none)
theorem same_alloc {H : Hp} {p : Addr} {o : HO} (n : H p = none) : Same H (upd H p o) := fun b u e => by rw [upd_ne (ne_of_none e n)]; exact e
theorem exo_tb {e C : Addr} {d : Option Addr} : ∀ ps, exo e C d ≠ .tbl ps := fun ps => exo_tbl
theorem exd_tb {e : Addr} {fs : List (Str × V)} : ∀ ps, exd e fs ≠ .tbl ps := fun ps z => by
  have z' : HO.ext _ = HO.tbl ps := z
  cases z'
theorem Kept.nt {H H' : Hp} (n : Nt H H') {v : V} {c : Addr × Option (Str × V)} (h : Kept H v c) : Kept H' v c := by
  obtain ⟨C, o⟩ := c
  obtain ⟨a, rfl, h⟩ := h
  refine ⟨a, rfl, ?_⟩
  cases o with
  | none => exact n _ _ exo_tb h
  | some q =>
    obtain ⟨f, y⟩ := q
    obtain ⟨dx, h1, h2⟩ := h
    exact ⟨dx, n _ _ exo_tb h1, n _ _ exd_tb h2⟩
inductive Kepts (H : Hp) : List V → List (Addr × Option (Str × V)) → Prop
  | nil : Kepts H [] []
  | cons {v : V} {c : Addr × Option (Str × V)} {vs : List V} {l : List (Addr × Option (Str × V))} : Kept H v c → Kepts H vs l → Kepts H (v :: vs) (c :: l)
theorem Kepts.nt {H H' : Hp} (n : Nt H H') {vs : List V} {l : List (Addr × Option (Str × V))} (h : Kepts H vs l) : Kepts H' vs l := by
  induction h with
  | nil => exact .nil
  | cons a _ ih => exact .cons (a.nt n) ih
theorem Kepts.app {H : Hp} {vs us : List V} {l k : List (Addr × Option (Str × V))} (h : Kepts H vs l) (g : Kepts H us k) : Kepts H (vs ++ us) (l ++ k) := by
  induction h with
  | nil => exact g
  | cons a _ ih => exact .cons a ih
/-- C(x), read -/
theorem mk_one {K : PySem.W.Frag} {C : Addr} {fld : Str} {ta : TA} {σ : L2.St} {H : Hp} {G : VK} {y : V} (hy : ∀ Q : List V → Hp → Prop, Q [y] H → ta σ H Q) (k : ∀ v H', Same H H' → Kept H' v (C, some (fld, y)) → G v H') : tMkV C (spOne K C fld) ta σ H G := by
  refine hy _ ⟨by simp, fun a ha => ⟨a, y, rfl, upd_same, fun dx h1 h2 => ⟨rfl, ?_⟩⟩⟩
  have hdx : H dx = none := by rw [upd_ne h2] at h1; exact h1
  refine k (.ref a) _ (fun c o e => ?_) ⟨a, rfl, dx, upd_same, ?_⟩
  · have ca : c ≠ a := ne_of_none e ha
    rw [upd_ne ca, upd_ne (ne_of_none e hdx), upd_ne ca]
    exact e
  · rw [upd_ne h2]
    exact upd_same
theorem mk_nil {K : PySem.W.Frag} {C : Addr} {σ : L2.St} {H : Hp} {G : VK} (k : ∀ v H', Same H H' → Kept H' v (C, none) → G v H') : tMkV C (spNil K C) tNil σ H G :=
  ⟨by simp, fun a ha => ⟨a, rfl, upd_same, rfl, k (.ref a) _ (same_alloc ha) ⟨a, rfl, upd_same⟩⟩⟩
theorem Kepts.len {H : Hp} {vs : List V} {l : List (Addr × Option (Str × V))} (h : Kepts H vs l) : vs.length = l.length := by
  induction h with
  | nil => rfl
  | cons _ _ ih => rw [List.length_cons, List.length_cons, ih]
theorem same_nt {H H' : Hp} (s : Same H H') : Nt H H' := fun c o _ h => s c o h
theorem same_trans {H H1 H2 : Hp} (a : Same H H1) (b : Same H1 H2) : Same H H2 := fun c o h => b c o (a c o h)
theorem same_free {H H' : Hp} (s : Same H H') {p : Addr} (h : H' p = none) : H p = none := by
  cases e : H p with
  | none => rfl
  | some o => rw [s _ _ e] at h; cases h
/-- arguments that make refusals -/
def MakesA (t : TA) (σ : L2.St) (cs : List (Addr × Option (Str × V))) : Prop := ∀ (H : Hp) (G : List V → Hp → Prop), (∀ vs H', Same H H' → Kepts H' vs cs → G vs H') → t σ H G
theorem makes_nil {σ : L2.St} : MakesA tNil σ [] := fun H G k => k [] H (fun _ _ h => h) .nil
theorem makes_cons {K : PySem.W.Frag} {C : Addr} {fld : Str} {t : TA} {σ : L2.St} {i : Nat} {y : V} {cs : List (Addr × Option (Str × V))} (hy : σ[i]? = some (some y)) (r : MakesA t σ cs) : MakesA (tCons (tMkV C (spOne K C fld) (tCons (tVar i) tNil)) t) σ ((C, some (fld, y)) :: cs) := fun H G k =>
  mk_one (ta := tCons (tVar i) tNil) (fun Q q => ⟨y, hy, q⟩) fun v H1 s1 k1 => r H1 _ fun vs H2 s2 k2 => k (v :: vs) H2 (same_trans s1 s2) (.cons (k1.nt (same_nt s2)) k2)
theorem makes_cons0 {K : PySem.W.Frag} {C : Addr} {t : TA} {σ : L2.St} {cs : List (Addr × Option (Str × V))} (r : MakesA t σ cs) : MakesA (tCons (tMkV C (spNil K C) tNil) t) σ ((C, none) :: cs) := fun H G k =>
  mk_nil fun v H1 s1 k1 => r H1 _ fun vs H2 s2 k2 => k (v :: vs) H2 (same_trans s1 s2) (.cons (k1.nt (same_nt s2)) k2)
theorem lst_made {t : TA} {σ : L2.St} {cs : List (Addr × Option (Str × V))} {H : Hp} {G : VK} (m : MakesA t σ cs) (hl : cs.length ≤ 100) (k : ∀ p xs H', Same H H' → H p = none → H' p = some (.lst xs) → Kepts H' xs cs → G (.ref p) H') : tLst t σ H G :=
  m H _ fun vs H1 s1 k1 => ⟨by rw [k1.len]; exact Nat.le_trans hl (by rw [sizeLine_eq]; decide), fun p hp => k p vs _ (same_trans s1 (same_alloc hp)) (same_free s1 hp) upd_same (k1.nt (same_nt (same_alloc hp)))⟩
theorem cat_made {t : TA} {σ : L2.St} {i : Nat} {p : Addr} {xs : List V} {l cs : List (Addr × Option (Str × V))} {H : Hp} {G : VK} (hi : σ[i]? = some (some (.ref p))) (hp : H p = some (.lst xs)) (hk : Kepts H xs l) (hll : l.length ≤ 100) (m : MakesA t σ cs) (hl : cs.length ≤ 100)
    (k : ∀ q us H', Same H H' → H q = none → H' q = some (.lst us) → Kepts H' us (l ++ cs) → G (.ref q) H') : tOp rCat (tVar i) (tLst t) σ H G := by
  refine ⟨_, hi, lst_made m hl fun q us H1 s1 hq e1 k1 => ⟨p, q, xs, us, rfl, rfl, s1 _ _ hp, e1, ?_, fun r hr => ?_⟩⟩
  · rw [hk.len, k1.len]
    exact Nat.le_trans (Nat.add_le_add hll hl) (by rw [sizeLine_eq]; decide)
  · have s2 := same_alloc (o := .lst (xs ++ us)) hr
    exact k r (xs ++ us) _ (same_trans s1 s2) (same_free s1 hr) upd_same (((hk.nt (same_nt s1)).app k1).nt (same_nt s2))
section
variable {P : Program} {w : World} {K : PySem.W.Frag} {mg : Str → Option Value} {base : Heap}
abbrev s_law_made : Stmt := top 55
theorem sc_law_made : FnScope ["_law_one", "_law_other", "_law_made_here"] ["_law_one", "_law_other"] (defScope s_law_made) := ⟨rfl, rfl, rfl, by decide +kernel, rfl, by decide +kernel, by decide +kernel⟩
def madeL (C0 C1 C2 C3 C4 C5 C6 C7 C8 C9 C10 C11 C12 C13 C14 C15 C16 C17 C18 C19 C20 C21 C22 C23 C24 C25 C26 C27 C28 C29 C30 C31 C32 C33 C34 C35 C36 C37 C38 C39 C40 C41 C42 C43 C44 C45 C46 : Addr) (y z : V) : List (Addr × Option (Str × V)) := [(C0, some (Str.ofString "found", y)), (C1, some (Str.ofString "found", y)), (C2, some (Str.ofString "found", y)), (C3, some (Str.ofString "found", y)), (C4, some (Str.ofString "found", y)), (C5, some (Str.ofString "found", y)), (C6, some (Str.ofString "found", y)), (C7, some (Str.ofString "found", y)), (C8, some (Str.ofString "found", y)), (C9, some (Str.ofString "found", y)), (C10, some (Str.ofString "found", y)), (C11, some (Str.ofString "found", y)), (C12, some (Str.ofString "found", y)), (C13, some (Str.ofString "found", y)), (C14, some (Str.ofString "found", y)), (C15, some (Str.ofString "found", y)), (C16, some (Str.ofString "found", y)), (C17, some (Str.ofString "found", y)), (C18, some (Str.ofString "found", y)), (C19, some (Str.ofString "found", y)), (C20, some (Str.ofString "found", y)), (C21, some (Str.ofString "found", y)), (C22, some (Str.ofString "found", y)), (C23, some (Str.ofString "found", y)), (C24, some (Str.ofString "found", y)), (C25, some (Str.ofString "found", y)), (C26, some (Str.ofString "found", y)), (C27, some (Str.ofString "found", y)), (C28, some (Str.ofString "found", y)), (C29, some (Str.ofString "found", y)), (C30, some (Str.ofString "found", y)), (C31, some (Str.ofString "found", y)), (C32, some (Str.ofString "found", y)), (C33, some (Str.ofString "found", y)), (C34, some (Str.ofString "found", y)), (C35, some (Str.ofString "found", y)), (C36, some (Str.ofString "found", y)), (C37, some (Str.ofString "found", y)), (C38, some (Str.ofString "found", y)), (C39, some (Str.ofString "found", y)), (C40, some (Str.ofString "many", y)), (C41, some (Str.ofString "row", y)), (C42, some (Str.ofString "number", z)), (C43, some (Str.ofString "number", y)), (C44, some (Str.ofString "run", z)), (C45, none), (C46, none)]
def spMade (C0 C1 C2 C3 C4 C5 C6 C7 C8 C9 C10 C11 C12 C13 C14 C15 C16 C17 C18 C19 C20 C21 C22 C23 C24 C25 C26 C27 C28 C29 C30 C31 C32 C33 C34 C35 C36 C37 C38 C39 C40 C41 C42 C43 C44 C45 C46 : Addr) : Sp := fun vs H Q _ => ∃ (y z : V), vs = [y, z] ∧ ∀ p xs H', Same H H' → H p = none → H' p = some (.lst xs) → Kepts H' xs (madeL C0 C1 C2 C3 C4 C5 C6 C7 C8 C9 C10 C11 C12 C13 C14 C15 C16 C17 C18 C19 C20 C21 C22 C23 C24 C25 C26 C27 C28 C29 C30 C31 C32 C33 C34 C35 C36 C37 C38 C39 C40 C41 C42 C43 C44 C45 C46 y z) → Q (.ref p) H'
theorem ok_made {C0 C1 C2 C3 C4 C5 C6 C7 C8 C9 C10 C11 C12 C13 C14 C15 C16 C17 C18 C19 C20 C21 C22 C23 C24 C25 C26 C27 C28 C29 C30 C31 C32 C33 C34 C35 C36 C37 C38 C39 C40 C41 C42 C43 C44 C45 C46 : Addr} {f : Addr} {fd : FuncData} (F : Fun K "_law_made" "_law_made" s_law_made f fd) (T : Txt mg) (ENoName : KX1 P w K mg base "NoName" "found" C0) (ENoPlace : KX1 P w K mg base "NoPlace" "found" C1) (ENoTrain : KX1 P w K mg base "NoTrain" "found" C2) (ENoTrains : KX1 P w K mg base "NoTrains" "found" C3) (ENoEnds : KX1 P w K mg base "NoEnds" "found" C4) (ENoStretch : KX1 P w K mg base "NoStretch" "found" C5) (ENoLong : KX1 P w K mg base "NoLong" "found" C6) (ENoPlaces : KX1 P w K mg base "NoPlaces" "found" C7) (ENoStretches : KX1 P w K mg base "NoStretches" "found" C8) (ENoLongs : KX1 P w K mg base "NoLongs" "found" C9) (ENoNumber : KX1 P w K mg base "NoNumber" "found" C10) (ENoThing : KX1 P w K mg base "NoThing" "found" C11) (ENoKind : KX1 P w K mg base "NoKind" "found" C12) (ENoWord : KX1 P w K mg base "NoWord" "found" C13) (ENoDeed : KX1 P w K mg base "NoDeed" "found" C14) (ENoWay : KX1 P w K mg base "NoWay" "found" C15) (ENoUse : KX1 P w K mg base "NoUse" "found" C16) (ENoBooks : KX1 P w K mg base "NoBooks" "found" C17) (ENoRows : KX1 P w K mg base "NoRows" "found" C18) (ENoMove : KX1 P w K mg base "NoMove" "found" C19) (ENoRuns : KX1 P w K mg base "NoRuns" "found" C20) (ENoRun : KX1 P w K mg base "NoRun" "found" C21) (ENoLine : KX1 P w K mg base "NoLine" "found" C22) (ENoState : KX1 P w K mg base "NoState" "found" C23) (ETwice : KX1 P w K mg base "Twice" "found" C24) (ENotHere : KX1 P w K mg base "NotHere" "found" C25) (ENotIn : KX1 P w K mg base "NotIn" "found" C26) (ENotHeld : KX1 P w K mg base "NotHeld" "found" C27) (ENotHelped : KX1 P w K mg base "NotHelped" "found" C28) (EFull : KX1 P w K mg base "Full" "found" C29) (ELacks : KX1 P w K mg base "Lacks" "found" C30) (EShut : KX1 P w K mg base "Shut" "found" C31) (EHeld : KX1 P w K mg base "Held" "found" C32) (ENotClear : KX1 P w K mg base "NotClear" "found" C33) (ENoTickets : KX1 P w K mg base "NoTickets" "found" C34) (ENoRight : KX1 P w K mg base "NoRight" "found" C35) (ENotShut : KX1 P w K mg base "NotShut" "found" C36) (ETaken : KX1 P w K mg base "Taken" "found" C37) (EBoxed : KX1 P w K mg base "Boxed" "found" C38) (ESilent : KX1 P w K mg base "Silent" "found" C39) (ETooMany : KX1 P w K mg base "TooMany" "many" C40) (ENoText : KX1 P w K mg base "NoText" "row" C41) (EGap : KX1 P w K mg base "Gap" "number" C42) (ENotSo : KX1 P w K mg base "NotSo" "number" C43) (ENoTrip : KX1 P w K mg base "NoTrip" "run" C44) (ENoStart : KX0 P w K mg base "NoStart" C45) (ENoBack : KX0 P w K mg base "NoBack" C46) : FnOk P w K mg base CX0 4 f fd ["_law_one", "_law_other"] (spMade C0 C1 C2 C3 C4 C5 C6 C7 C8 C9 C10 C11 C12 C13 C14 C15 C16 C17 C18 C19 C20 C21 C22 C23 C24 C25 C26 C27 C28 C29 C30 C31 C32 C33 C34 C35 C36 C37 C38 C39 C40 C41 C42 C43 C44 C45 C46) := by
  refine F.ok sc_law_made (fun vs H Q E h => ?_) (fun cdv A outer s H vs Q E hr h => ?_)
  · obtain ⟨y, z, rfl, _⟩ := h
    rfl
  · obtain ⟨y, z, rfl, k⟩ := h
    refine ⟨_, pss_cons (ps_set (i := 2) sc_law_made.nd rfl (Or.inl rfl) (pe_lst (pa_cons ((KX1.pe ENoName (hr.mono (by decide)) (by rfl)) (pa_cons (pv 0) pa_nil)) (pa_cons ((KX1.pe ENoPlace (hr.mono (by decide)) (by rfl)) (pa_cons (pv 0) pa_nil)) (pa_cons ((KX1.pe ENoTrain (hr.mono (by decide)) (by rfl)) (pa_cons (pv 0) pa_nil)) (pa_cons ((KX1.pe ENoTrains (hr.mono (by decide)) (by rfl)) (pa_cons (pv 0) pa_nil)) (pa_cons ((KX1.pe ENoEnds (hr.mono (by decide)) (by rfl)) (pa_cons (pv 0) pa_nil)) (pa_cons ((KX1.pe ENoStretch (hr.mono (by decide)) (by rfl)) (pa_cons (pv 0) pa_nil)) pa_nil))))))))
      (pss_cons (ps_set (i := 2) sc_law_made.nd rfl (Or.inl rfl) (pe_op op_cat (pv 2) (pe_lst (pa_cons ((KX1.pe ENoLong (hr.mono (by decide)) (by rfl)) (pa_cons (pv 0) pa_nil)) (pa_cons ((KX1.pe ENoPlaces (hr.mono (by decide)) (by rfl)) (pa_cons (pv 0) pa_nil)) (pa_cons ((KX1.pe ENoStretches (hr.mono (by decide)) (by rfl)) (pa_cons (pv 0) pa_nil)) (pa_cons ((KX1.pe ENoLongs (hr.mono (by decide)) (by rfl)) (pa_cons (pv 0) pa_nil)) (pa_cons ((KX1.pe ENoNumber (hr.mono (by decide)) (by rfl)) (pa_cons (pv 0) pa_nil)) (pa_cons ((KX1.pe ENoThing (hr.mono (by decide)) (by rfl)) (pa_cons (pv 0) pa_nil)) pa_nil)))))))))
      (pss_cons (ps_set (i := 2) sc_law_made.nd rfl (Or.inl rfl) (pe_op op_cat (pv 2) (pe_lst (pa_cons ((KX1.pe ENoKind (hr.mono (by decide)) (by rfl)) (pa_cons (pv 0) pa_nil)) (pa_cons ((KX1.pe ENoWord (hr.mono (by decide)) (by rfl)) (pa_cons (pv 0) pa_nil)) (pa_cons ((KX1.pe ENoDeed (hr.mono (by decide)) (by rfl)) (pa_cons (pv 0) pa_nil)) (pa_cons ((KX1.pe ENoWay (hr.mono (by decide)) (by rfl)) (pa_cons (pv 0) pa_nil)) (pa_cons ((KX1.pe ENoUse (hr.mono (by decide)) (by rfl)) (pa_cons (pv 0) pa_nil)) (pa_cons ((KX1.pe ENoBooks (hr.mono (by decide)) (by rfl)) (pa_cons (pv 0) pa_nil)) pa_nil)))))))))
      (pss_cons (ps_set (i := 2) sc_law_made.nd rfl (Or.inl rfl) (pe_op op_cat (pv 2) (pe_lst (pa_cons ((KX1.pe ENoRows (hr.mono (by decide)) (by rfl)) (pa_cons (pv 0) pa_nil)) (pa_cons ((KX1.pe ENoMove (hr.mono (by decide)) (by rfl)) (pa_cons (pv 0) pa_nil)) (pa_cons ((KX1.pe ENoRuns (hr.mono (by decide)) (by rfl)) (pa_cons (pv 0) pa_nil)) (pa_cons ((KX1.pe ENoRun (hr.mono (by decide)) (by rfl)) (pa_cons (pv 0) pa_nil)) (pa_cons ((KX1.pe ENoLine (hr.mono (by decide)) (by rfl)) (pa_cons (pv 0) pa_nil)) (pa_cons ((KX1.pe ENoState (hr.mono (by decide)) (by rfl)) (pa_cons (pv 0) pa_nil)) pa_nil)))))))))
      (pss_cons (ps_set (i := 2) sc_law_made.nd rfl (Or.inl rfl) (pe_op op_cat (pv 2) (pe_lst (pa_cons ((KX1.pe ETwice (hr.mono (by decide)) (by rfl)) (pa_cons (pv 0) pa_nil)) (pa_cons ((KX1.pe ENotHere (hr.mono (by decide)) (by rfl)) (pa_cons (pv 0) pa_nil)) (pa_cons ((KX1.pe ENotIn (hr.mono (by decide)) (by rfl)) (pa_cons (pv 0) pa_nil)) (pa_cons ((KX1.pe ENotHeld (hr.mono (by decide)) (by rfl)) (pa_cons (pv 0) pa_nil)) (pa_cons ((KX1.pe ENotHelped (hr.mono (by decide)) (by rfl)) (pa_cons (pv 0) pa_nil)) (pa_cons ((KX1.pe EFull (hr.mono (by decide)) (by rfl)) (pa_cons (pv 0) pa_nil)) pa_nil)))))))))
      (pss_cons (ps_set (i := 2) sc_law_made.nd rfl (Or.inl rfl) (pe_op op_cat (pv 2) (pe_lst (pa_cons ((KX1.pe ELacks (hr.mono (by decide)) (by rfl)) (pa_cons (pv 0) pa_nil)) (pa_cons ((KX1.pe EShut (hr.mono (by decide)) (by rfl)) (pa_cons (pv 0) pa_nil)) (pa_cons ((KX1.pe EHeld (hr.mono (by decide)) (by rfl)) (pa_cons (pv 0) pa_nil)) (pa_cons ((KX1.pe ENotClear (hr.mono (by decide)) (by rfl)) (pa_cons (pv 0) pa_nil)) (pa_cons ((KX1.pe ENoTickets (hr.mono (by decide)) (by rfl)) (pa_cons (pv 0) pa_nil)) (pa_cons ((KX1.pe ENoRight (hr.mono (by decide)) (by rfl)) (pa_cons (pv 0) pa_nil)) pa_nil)))))))))
      (pss_cons (ps_set (i := 2) sc_law_made.nd rfl (Or.inl rfl) (pe_op op_cat (pv 2) (pe_lst (pa_cons ((KX1.pe ENotShut (hr.mono (by decide)) (by rfl)) (pa_cons (pv 0) pa_nil)) (pa_cons ((KX1.pe ETaken (hr.mono (by decide)) (by rfl)) (pa_cons (pv 0) pa_nil)) (pa_cons ((KX1.pe EBoxed (hr.mono (by decide)) (by rfl)) (pa_cons (pv 0) pa_nil)) (pa_cons ((KX1.pe ESilent (hr.mono (by decide)) (by rfl)) (pa_cons (pv 0) pa_nil)) pa_nil)))))))
      (pss_cons (ps_set (i := 2) sc_law_made.nd rfl (Or.inl rfl) (pe_op op_cat (pv 2) (pe_lst (pa_cons ((KX1.pe ETooMany (hr.mono (by decide)) (by rfl)) (pa_cons (pv 0) pa_nil)) (pa_cons ((KX1.pe ENoText (hr.mono (by decide)) (by rfl)) (pa_cons (pv 0) pa_nil)) (pa_cons ((KX1.pe EGap (hr.mono (by decide)) (by rfl)) (pa_cons (pv 1) pa_nil)) (pa_cons ((KX1.pe ENotSo (hr.mono (by decide)) (by rfl)) (pa_cons (pv 0) pa_nil)) (pa_cons ((KX1.pe ENoTrip (hr.mono (by decide)) (by rfl)) (pa_cons (pv 1) pa_nil)) pa_nil))))))))
      (pss_one (ps_ret (pe_op op_cat (pv 2) (pe_lst (pa_cons ((KX0.pe ENoStart (hr.mono (by decide)) (by rfl))) (pa_cons ((KX0.pe ENoBack (hr.mono (by decide)) (by rfl))) pa_nil))))))))))))), ?_⟩
    generalize hσ : L2.start _ _ = σ0
    obtain rfl : σ0 = [some y, some z, none] := hσ.symm.trans rfl
    rw [tSeq, tAsg]
    refine lst_made (makes_cons rfl (makes_cons rfl (makes_cons rfl (makes_cons rfl (makes_cons rfl (makes_cons rfl (makes_nil))))))) (by simp) fun p1 x1 H1 s1 f1 e1 k1 => ?_
    dsimp only [gName, List.set_cons_succ, List.set_cons_zero]
    rw [tSeq, tAsg]
    refine cat_made rfl e1 k1 (by simp) (makes_cons rfl (makes_cons rfl (makes_cons rfl (makes_cons rfl (makes_cons rfl (makes_cons rfl (makes_nil))))))) (by simp) fun p2 x2 H2 s2 f2 e2 k2 => ?_
    dsimp only [gName, List.set_cons_succ, List.set_cons_zero]
    rw [tSeq, tAsg]
    refine cat_made rfl e2 k2 (by simp) (makes_cons rfl (makes_cons rfl (makes_cons rfl (makes_cons rfl (makes_cons rfl (makes_cons rfl (makes_nil))))))) (by simp) fun p3 x3 H3 s3 f3 e3 k3 => ?_
    dsimp only [gName, List.set_cons_succ, List.set_cons_zero]
    rw [tSeq, tAsg]
    refine cat_made rfl e3 k3 (by simp) (makes_cons rfl (makes_cons rfl (makes_cons rfl (makes_cons rfl (makes_cons rfl (makes_cons rfl (makes_nil))))))) (by simp) fun p4 x4 H4 s4 f4 e4 k4 => ?_
    dsimp only [gName, List.set_cons_succ, List.set_cons_zero]
    rw [tSeq, tAsg]
    refine cat_made rfl e4 k4 (by simp) (makes_cons rfl (makes_cons rfl (makes_cons rfl (makes_cons rfl (makes_cons rfl (makes_cons rfl (makes_nil))))))) (by simp) fun p5 x5 H5 s5 f5 e5 k5 => ?_
    dsimp only [gName, List.set_cons_succ, List.set_cons_zero]
    rw [tSeq, tAsg]
    refine cat_made rfl e5 k5 (by simp) (makes_cons rfl (makes_cons rfl (makes_cons rfl (makes_cons rfl (makes_cons rfl (makes_cons rfl (makes_nil))))))) (by simp) fun p6 x6 H6 s6 f6 e6 k6 => ?_
    dsimp only [gName, List.set_cons_succ, List.set_cons_zero]
    rw [tSeq, tAsg]
    refine cat_made rfl e6 k6 (by simp) (makes_cons rfl (makes_cons rfl (makes_cons rfl (makes_cons rfl (makes_nil))))) (by simp) fun p7 x7 H7 s7 f7 e7 k7 => ?_
    dsimp only [gName, List.set_cons_succ, List.set_cons_zero]
    rw [tSeq, tAsg]
    refine cat_made rfl e7 k7 (by simp) (makes_cons rfl (makes_cons rfl (makes_cons rfl (makes_cons rfl (makes_cons rfl (makes_nil)))))) (by simp) fun p8 x8 H8 s8 f8 e8 k8 => ?_
    dsimp only [gName, List.set_cons_succ, List.set_cons_zero]
    refine cat_made rfl e8 k8 (by simp) (makes_cons0 (makes_cons0 makes_nil)) (by simp) fun p xs H' s9 f e ks => ?_
    have t := same_trans s1 (same_trans s2 (same_trans s3 (same_trans s4 (same_trans s5 (same_trans s6 (same_trans s7 s8))))))
    exact k p xs H' (same_trans t s9) (same_free t f) e ks
end
end E9

set_option maxRecDepth 100000
set_option maxHeartbeats 3200000
namespace E9
open PySem PySem.Spec PyProof.Rows L2 GxR Gd TL My
theorem isXK {X : Cx} {K : PySem.W.Frag} (h : X.K = K) : CallR X (.builtin "isinstance") (rIsX K) := h ▸ call_isX
/-- an exception of the class D -/
def KeptD (H : Hp) (v : V) (D : Addr) : Prop := ∃ a d, v = .ref a ∧ H a = some (exo a D d) ∧ (d = none ∨ ∃ dx fs, d = some dx ∧ H dx = some (exd dx fs))
theorem KeptD.nt {H H' : Hp} (n : Nt H H') {v : V} {D : Addr} (h : KeptD H v D) : KeptD H' v D := by
  obtain ⟨a, d, e, h1, h2⟩ := h
  exact ⟨a, d, e, n _ _ exo_tb h1, h2.imp id fun ⟨dx, fs, e, h⟩ => ⟨dx, fs, e, n _ _ exd_tb h⟩⟩
theorem Kept.d {H : Hp} {v : V} {c : Addr × Option (Str × V)} (h : Kept H v c) : KeptD H v c.1 := by
  obtain ⟨C, o⟩ := c
  obtain ⟨a, rfl, h⟩ := h
  cases o with
  | none => exact ⟨a, none, rfl, h, .inl rfl⟩
  | some q =>
    obtain ⟨dx, h1, h2⟩ := h
    exact ⟨a, some dx, rfl, h1, .inr ⟨dx, _, rfl, h2⟩⟩
/-- arguments that ask classes -/
def AsksA (t : TA) (σ : L2.St) (v : V) (D : Addr) (bs : List V) : Prop := ∀ (H : Hp) (G : List V → Hp → Prop), KeptD H v D → G bs H → t σ H G
theorem asks_nil {σ : L2.St} {v : V} {D : Addr} : AsksA tNil σ v D [] := fun H G _ k => k
theorem asks_cons {K : PySem.W.Frag} {C D : Addr} {t : TA} {σ : L2.St} {v : V} {bs : List V} (T : ExcC K D) (hk : PySem.W.kitOne K (.ref D) (.ref C) = some (decide (D = C))) (hv : σ[0]? = some (some v)) (r : AsksA t σ v D bs) : AsksA (tCons (tCB (rIsX K) (tCons (tVar 0) (tCons (tC (.ref C)) tNil))) t) σ v D (.bl (decide (D = C)) :: bs) := fun H G h k => by
  obtain ⟨a, d, rfl, h1, h2⟩ := id h
  exact ⟨_, hv, a, D, d, .ref C, .ref C, _, rfl, T, h1, h2, (fun u r => r), hk, r H _ h k⟩
theorem lst_asks {t : TA} {σ : L2.St} {v : V} {D : Addr} {bs : List V} {H : Hp} {G : VK} (m : AsksA t σ v D bs) (h : KeptD H v D) (hl : bs.length ≤ 100) (k : ∀ p H', Same H H' → H p = none → H' p = some (.lst bs) → G (.ref p) H') : tLst t σ H G :=
  m H _ h ⟨Nat.le_trans hl (by rw [sizeLine_eq]; decide), fun p hp => k p _ (same_alloc hp) hp upd_same⟩
theorem cat_asks {t : TA} {σ : L2.St} {i : Nat} {p : Addr} {xs bs : List V} {v : V} {D : Addr} {H : Hp} {G : VK} (hi : σ[i]? = some (some (.ref p))) (hp : H p = some (.lst xs)) (hx : xs.length ≤ 100) (m : AsksA t σ v D bs) (h : KeptD H v D) (hl : bs.length ≤ 100)
    (k : ∀ q H', Same H H' → H q = none → H' q = some (.lst (xs ++ bs)) → G (.ref q) H') : tOp rCat (tVar i) (tLst t) σ H G :=
  ⟨_, hi, lst_asks m h hl fun q H1 s1 hq e1 => ⟨p, q, xs, bs, rfl, rfl, s1 _ _ hp, e1, Nat.le_trans (Nat.add_le_add hx hl) (by rw [sizeLine_eq]; decide), fun r hr => k r _ (same_trans s1 (same_alloc hr)) (same_free s1 hr) upd_same⟩⟩
section
variable {P : Program} {w : World} {K : PySem.W.Frag} {mg : Str → Option Value} {base : Heap}
abbrev s_law_kinds : Stmt := top 54
theorem sc_law_kinds : FnScope ["_law_error", "_law_kinds_here"] ["_law_error"] (defScope s_law_kinds) := ⟨rfl, rfl, rfl, by decide +kernel, rfl, by decide +kernel, by decide +kernel⟩
def spKinds (K : PySem.W.Frag) (Cs : List Addr) : Sp := fun vs H Q _ => ∃ (v : V) (D : Addr), vs = [v] ∧ KeptD H v D ∧ ExcC K D ∧ (∀ C ∈ Cs, PySem.W.kitOne K (.ref D) (.ref C) = some (decide (D = C))) ∧ ∀ p H', Same H H' → H p = none → H' p = some (.lst (Cs.map fun C => .bl (decide (D = C)))) → Q (.ref p) H'
theorem ok_kinds {C0 C1 C2 C3 C4 C5 C6 C7 C8 C9 C10 C11 C12 C13 C14 C15 C16 C17 C18 C19 C20 C21 C22 C23 C24 C25 C26 C27 C28 C29 C30 C31 C32 C33 C34 C35 C36 C37 C38 C39 C40 C41 C42 C43 C44 C45 C46 : Addr} {f : Addr} {fd : FuncData} (F : Fun K "_law_kinds" "_law_kinds" s_law_kinds f fd) (T : Txt mg) (gNoName : mg "NoName" = some (.ref C0)) (gNoPlace : mg "NoPlace" = some (.ref C1)) (gNoTrain : mg "NoTrain" = some (.ref C2)) (gNoTrains : mg "NoTrains" = some (.ref C3)) (gNoEnds : mg "NoEnds" = some (.ref C4)) (gNoStretch : mg "NoStretch" = some (.ref C5)) (gNoLong : mg "NoLong" = some (.ref C6)) (gNoPlaces : mg "NoPlaces" = some (.ref C7)) (gNoStretches : mg "NoStretches" = some (.ref C8)) (gNoLongs : mg "NoLongs" = some (.ref C9)) (gNoNumber : mg "NoNumber" = some (.ref C10)) (gNoThing : mg "NoThing" = some (.ref C11)) (gNoKind : mg "NoKind" = some (.ref C12)) (gNoWord : mg "NoWord" = some (.ref C13)) (gNoDeed : mg "NoDeed" = some (.ref C14)) (gNoWay : mg "NoWay" = some (.ref C15)) (gNoUse : mg "NoUse" = some (.ref C16)) (gNoBooks : mg "NoBooks" = some (.ref C17)) (gNoRows : mg "NoRows" = some (.ref C18)) (gNoMove : mg "NoMove" = some (.ref C19)) (gNoRuns : mg "NoRuns" = some (.ref C20)) (gNoRun : mg "NoRun" = some (.ref C21)) (gNoLine : mg "NoLine" = some (.ref C22)) (gNoState : mg "NoState" = some (.ref C23)) (gTwice : mg "Twice" = some (.ref C24)) (gNotHere : mg "NotHere" = some (.ref C25)) (gNotIn : mg "NotIn" = some (.ref C26)) (gNotHeld : mg "NotHeld" = some (.ref C27)) (gNotHelped : mg "NotHelped" = some (.ref C28)) (gFull : mg "Full" = some (.ref C29)) (gLacks : mg "Lacks" = some (.ref C30)) (gShut : mg "Shut" = some (.ref C31)) (gHeld : mg "Held" = some (.ref C32)) (gNotClear : mg "NotClear" = some (.ref C33)) (gNoTickets : mg "NoTickets" = some (.ref C34)) (gNoRight : mg "NoRight" = some (.ref C35)) (gNotShut : mg "NotShut" = some (.ref C36)) (gTaken : mg "Taken" = some (.ref C37)) (gBoxed : mg "Boxed" = some (.ref C38)) (gSilent : mg "Silent" = some (.ref C39)) (gTooMany : mg "TooMany" = some (.ref C40)) (gNoText : mg "NoText" = some (.ref C41)) (gGap : mg "Gap" = some (.ref C42)) (gNotSo : mg "NotSo" = some (.ref C43)) (gNoTrip : mg "NoTrip" = some (.ref C44)) (gNoStart : mg "NoStart" = some (.ref C45)) (gNoBack : mg "NoBack" = some (.ref C46)) : FnOk P w K mg base CX0 1 f fd ["_law_error"] (spKinds K [C0, C1, C2, C3, C4, C5, C6, C7, C8, C9, C10, C11, C12, C13, C14, C15, C16, C17, C18, C19, C20, C21, C22, C23, C24, C25, C26, C27, C28, C29, C30, C31, C32, C33, C34, C35, C36, C37, C38, C39, C40, C41, C42, C43, C44, C45, C46]) := by
  refine F.ok sc_law_kinds (fun vs H Q E h => ?_) (fun cdv A outer s H vs Q E hr h => ?_)
  · obtain ⟨v, D, rfl, _⟩ := h
    rfl
  · obtain ⟨v, D, rfl, h, T1, ks, k⟩ := h
    refine ⟨_, pss_cons (ps_set (i := 1) sc_law_kinds.nd rfl (Or.inl rfl) (pe_lst (pa_cons (pe_callB (isXK (K := K) rfl) (by rfl) T.isinstance_ (by decide +kernel) (pa_cons (pv 0) (pa_cons (pe_glob (v := .ref C0) (by rfl) gNoName rfl) pa_nil))) (pa_cons (pe_callB (isXK (K := K) rfl) (by rfl) T.isinstance_ (by decide +kernel) (pa_cons (pv 0) (pa_cons (pe_glob (v := .ref C1) (by rfl) gNoPlace rfl) pa_nil))) (pa_cons (pe_callB (isXK (K := K) rfl) (by rfl) T.isinstance_ (by decide +kernel) (pa_cons (pv 0) (pa_cons (pe_glob (v := .ref C2) (by rfl) gNoTrain rfl) pa_nil))) pa_nil)))))
      (pss_cons (ps_set (i := 1) sc_law_kinds.nd rfl (Or.inl rfl) (pe_op op_cat (pv 1) (pe_lst (pa_cons (pe_callB (isXK (K := K) rfl) (by rfl) T.isinstance_ (by decide +kernel) (pa_cons (pv 0) (pa_cons (pe_glob (v := .ref C3) (by rfl) gNoTrains rfl) pa_nil))) (pa_cons (pe_callB (isXK (K := K) rfl) (by rfl) T.isinstance_ (by decide +kernel) (pa_cons (pv 0) (pa_cons (pe_glob (v := .ref C4) (by rfl) gNoEnds rfl) pa_nil))) (pa_cons (pe_callB (isXK (K := K) rfl) (by rfl) T.isinstance_ (by decide +kernel) (pa_cons (pv 0) (pa_cons (pe_glob (v := .ref C5) (by rfl) gNoStretch rfl) pa_nil))) pa_nil))))))
      (pss_cons (ps_set (i := 1) sc_law_kinds.nd rfl (Or.inl rfl) (pe_op op_cat (pv 1) (pe_lst (pa_cons (pe_callB (isXK (K := K) rfl) (by rfl) T.isinstance_ (by decide +kernel) (pa_cons (pv 0) (pa_cons (pe_glob (v := .ref C6) (by rfl) gNoLong rfl) pa_nil))) (pa_cons (pe_callB (isXK (K := K) rfl) (by rfl) T.isinstance_ (by decide +kernel) (pa_cons (pv 0) (pa_cons (pe_glob (v := .ref C7) (by rfl) gNoPlaces rfl) pa_nil))) (pa_cons (pe_callB (isXK (K := K) rfl) (by rfl) T.isinstance_ (by decide +kernel) (pa_cons (pv 0) (pa_cons (pe_glob (v := .ref C8) (by rfl) gNoStretches rfl) pa_nil))) pa_nil))))))
      (pss_cons (ps_set (i := 1) sc_law_kinds.nd rfl (Or.inl rfl) (pe_op op_cat (pv 1) (pe_lst (pa_cons (pe_callB (isXK (K := K) rfl) (by rfl) T.isinstance_ (by decide +kernel) (pa_cons (pv 0) (pa_cons (pe_glob (v := .ref C9) (by rfl) gNoLongs rfl) pa_nil))) (pa_cons (pe_callB (isXK (K := K) rfl) (by rfl) T.isinstance_ (by decide +kernel) (pa_cons (pv 0) (pa_cons (pe_glob (v := .ref C10) (by rfl) gNoNumber rfl) pa_nil))) (pa_cons (pe_callB (isXK (K := K) rfl) (by rfl) T.isinstance_ (by decide +kernel) (pa_cons (pv 0) (pa_cons (pe_glob (v := .ref C11) (by rfl) gNoThing rfl) pa_nil))) pa_nil))))))
      (pss_cons (ps_set (i := 1) sc_law_kinds.nd rfl (Or.inl rfl) (pe_op op_cat (pv 1) (pe_lst (pa_cons (pe_callB (isXK (K := K) rfl) (by rfl) T.isinstance_ (by decide +kernel) (pa_cons (pv 0) (pa_cons (pe_glob (v := .ref C12) (by rfl) gNoKind rfl) pa_nil))) (pa_cons (pe_callB (isXK (K := K) rfl) (by rfl) T.isinstance_ (by decide +kernel) (pa_cons (pv 0) (pa_cons (pe_glob (v := .ref C13) (by rfl) gNoWord rfl) pa_nil))) (pa_cons (pe_callB (isXK (K := K) rfl) (by rfl) T.isinstance_ (by decide +kernel) (pa_cons (pv 0) (pa_cons (pe_glob (v := .ref C14) (by rfl) gNoDeed rfl) pa_nil))) pa_nil))))))
      (pss_cons (ps_set (i := 1) sc_law_kinds.nd rfl (Or.inl rfl) (pe_op op_cat (pv 1) (pe_lst (pa_cons (pe_callB (isXK (K := K) rfl) (by rfl) T.isinstance_ (by decide +kernel) (pa_cons (pv 0) (pa_cons (pe_glob (v := .ref C15) (by rfl) gNoWay rfl) pa_nil))) (pa_cons (pe_callB (isXK (K := K) rfl) (by rfl) T.isinstance_ (by decide +kernel) (pa_cons (pv 0) (pa_cons (pe_glob (v := .ref C16) (by rfl) gNoUse rfl) pa_nil))) (pa_cons (pe_callB (isXK (K := K) rfl) (by rfl) T.isinstance_ (by decide +kernel) (pa_cons (pv 0) (pa_cons (pe_glob (v := .ref C17) (by rfl) gNoBooks rfl) pa_nil))) pa_nil))))))
      (pss_cons (ps_set (i := 1) sc_law_kinds.nd rfl (Or.inl rfl) (pe_op op_cat (pv 1) (pe_lst (pa_cons (pe_callB (isXK (K := K) rfl) (by rfl) T.isinstance_ (by decide +kernel) (pa_cons (pv 0) (pa_cons (pe_glob (v := .ref C18) (by rfl) gNoRows rfl) pa_nil))) (pa_cons (pe_callB (isXK (K := K) rfl) (by rfl) T.isinstance_ (by decide +kernel) (pa_cons (pv 0) (pa_cons (pe_glob (v := .ref C19) (by rfl) gNoMove rfl) pa_nil))) (pa_cons (pe_callB (isXK (K := K) rfl) (by rfl) T.isinstance_ (by decide +kernel) (pa_cons (pv 0) (pa_cons (pe_glob (v := .ref C20) (by rfl) gNoRuns rfl) pa_nil))) pa_nil))))))
      (pss_cons (ps_set (i := 1) sc_law_kinds.nd rfl (Or.inl rfl) (pe_op op_cat (pv 1) (pe_lst (pa_cons (pe_callB (isXK (K := K) rfl) (by rfl) T.isinstance_ (by decide +kernel) (pa_cons (pv 0) (pa_cons (pe_glob (v := .ref C21) (by rfl) gNoRun rfl) pa_nil))) (pa_cons (pe_callB (isXK (K := K) rfl) (by rfl) T.isinstance_ (by decide +kernel) (pa_cons (pv 0) (pa_cons (pe_glob (v := .ref C22) (by rfl) gNoLine rfl) pa_nil))) (pa_cons (pe_callB (isXK (K := K) rfl) (by rfl) T.isinstance_ (by decide +kernel) (pa_cons (pv 0) (pa_cons (pe_glob (v := .ref C23) (by rfl) gNoState rfl) pa_nil))) pa_nil))))))
      (pss_cons (ps_set (i := 1) sc_law_kinds.nd rfl (Or.inl rfl) (pe_op op_cat (pv 1) (pe_lst (pa_cons (pe_callB (isXK (K := K) rfl) (by rfl) T.isinstance_ (by decide +kernel) (pa_cons (pv 0) (pa_cons (pe_glob (v := .ref C24) (by rfl) gTwice rfl) pa_nil))) (pa_cons (pe_callB (isXK (K := K) rfl) (by rfl) T.isinstance_ (by decide +kernel) (pa_cons (pv 0) (pa_cons (pe_glob (v := .ref C25) (by rfl) gNotHere rfl) pa_nil))) (pa_cons (pe_callB (isXK (K := K) rfl) (by rfl) T.isinstance_ (by decide +kernel) (pa_cons (pv 0) (pa_cons (pe_glob (v := .ref C26) (by rfl) gNotIn rfl) pa_nil))) pa_nil))))))
      (pss_cons (ps_set (i := 1) sc_law_kinds.nd rfl (Or.inl rfl) (pe_op op_cat (pv 1) (pe_lst (pa_cons (pe_callB (isXK (K := K) rfl) (by rfl) T.isinstance_ (by decide +kernel) (pa_cons (pv 0) (pa_cons (pe_glob (v := .ref C27) (by rfl) gNotHeld rfl) pa_nil))) (pa_cons (pe_callB (isXK (K := K) rfl) (by rfl) T.isinstance_ (by decide +kernel) (pa_cons (pv 0) (pa_cons (pe_glob (v := .ref C28) (by rfl) gNotHelped rfl) pa_nil))) (pa_cons (pe_callB (isXK (K := K) rfl) (by rfl) T.isinstance_ (by decide +kernel) (pa_cons (pv 0) (pa_cons (pe_glob (v := .ref C29) (by rfl) gFull rfl) pa_nil))) pa_nil))))))
      (pss_cons (ps_set (i := 1) sc_law_kinds.nd rfl (Or.inl rfl) (pe_op op_cat (pv 1) (pe_lst (pa_cons (pe_callB (isXK (K := K) rfl) (by rfl) T.isinstance_ (by decide +kernel) (pa_cons (pv 0) (pa_cons (pe_glob (v := .ref C30) (by rfl) gLacks rfl) pa_nil))) (pa_cons (pe_callB (isXK (K := K) rfl) (by rfl) T.isinstance_ (by decide +kernel) (pa_cons (pv 0) (pa_cons (pe_glob (v := .ref C31) (by rfl) gShut rfl) pa_nil))) (pa_cons (pe_callB (isXK (K := K) rfl) (by rfl) T.isinstance_ (by decide +kernel) (pa_cons (pv 0) (pa_cons (pe_glob (v := .ref C32) (by rfl) gHeld rfl) pa_nil))) pa_nil))))))
      (pss_cons (ps_set (i := 1) sc_law_kinds.nd rfl (Or.inl rfl) (pe_op op_cat (pv 1) (pe_lst (pa_cons (pe_callB (isXK (K := K) rfl) (by rfl) T.isinstance_ (by decide +kernel) (pa_cons (pv 0) (pa_cons (pe_glob (v := .ref C33) (by rfl) gNotClear rfl) pa_nil))) (pa_cons (pe_callB (isXK (K := K) rfl) (by rfl) T.isinstance_ (by decide +kernel) (pa_cons (pv 0) (pa_cons (pe_glob (v := .ref C34) (by rfl) gNoTickets rfl) pa_nil))) (pa_cons (pe_callB (isXK (K := K) rfl) (by rfl) T.isinstance_ (by decide +kernel) (pa_cons (pv 0) (pa_cons (pe_glob (v := .ref C35) (by rfl) gNoRight rfl) pa_nil))) pa_nil))))))
      (pss_cons (ps_set (i := 1) sc_law_kinds.nd rfl (Or.inl rfl) (pe_op op_cat (pv 1) (pe_lst (pa_cons (pe_callB (isXK (K := K) rfl) (by rfl) T.isinstance_ (by decide +kernel) (pa_cons (pv 0) (pa_cons (pe_glob (v := .ref C36) (by rfl) gNotShut rfl) pa_nil))) (pa_cons (pe_callB (isXK (K := K) rfl) (by rfl) T.isinstance_ (by decide +kernel) (pa_cons (pv 0) (pa_cons (pe_glob (v := .ref C37) (by rfl) gTaken rfl) pa_nil))) (pa_cons (pe_callB (isXK (K := K) rfl) (by rfl) T.isinstance_ (by decide +kernel) (pa_cons (pv 0) (pa_cons (pe_glob (v := .ref C38) (by rfl) gBoxed rfl) pa_nil))) pa_nil))))))
      (pss_cons (ps_set (i := 1) sc_law_kinds.nd rfl (Or.inl rfl) (pe_op op_cat (pv 1) (pe_lst (pa_cons (pe_callB (isXK (K := K) rfl) (by rfl) T.isinstance_ (by decide +kernel) (pa_cons (pv 0) (pa_cons (pe_glob (v := .ref C39) (by rfl) gSilent rfl) pa_nil))) (pa_cons (pe_callB (isXK (K := K) rfl) (by rfl) T.isinstance_ (by decide +kernel) (pa_cons (pv 0) (pa_cons (pe_glob (v := .ref C40) (by rfl) gTooMany rfl) pa_nil))) (pa_cons (pe_callB (isXK (K := K) rfl) (by rfl) T.isinstance_ (by decide +kernel) (pa_cons (pv 0) (pa_cons (pe_glob (v := .ref C41) (by rfl) gNoText rfl) pa_nil))) pa_nil))))))
      (pss_cons (ps_set (i := 1) sc_law_kinds.nd rfl (Or.inl rfl) (pe_op op_cat (pv 1) (pe_lst (pa_cons (pe_callB (isXK (K := K) rfl) (by rfl) T.isinstance_ (by decide +kernel) (pa_cons (pv 0) (pa_cons (pe_glob (v := .ref C42) (by rfl) gGap rfl) pa_nil))) (pa_cons (pe_callB (isXK (K := K) rfl) (by rfl) T.isinstance_ (by decide +kernel) (pa_cons (pv 0) (pa_cons (pe_glob (v := .ref C43) (by rfl) gNotSo rfl) pa_nil))) (pa_cons (pe_callB (isXK (K := K) rfl) (by rfl) T.isinstance_ (by decide +kernel) (pa_cons (pv 0) (pa_cons (pe_glob (v := .ref C44) (by rfl) gNoTrip rfl) pa_nil))) pa_nil))))))
      (pss_cons (ps_set (i := 1) sc_law_kinds.nd rfl (Or.inl rfl) (pe_op op_cat (pv 1) (pe_lst (pa_cons (pe_callB (isXK (K := K) rfl) (by rfl) T.isinstance_ (by decide +kernel) (pa_cons (pv 0) (pa_cons (pe_glob (v := .ref C45) (by rfl) gNoStart rfl) pa_nil))) (pa_cons (pe_callB (isXK (K := K) rfl) (by rfl) T.isinstance_ (by decide +kernel) (pa_cons (pv 0) (pa_cons (pe_glob (v := .ref C46) (by rfl) gNoBack rfl) pa_nil))) pa_nil)))))
      (pss_one (ps_ret (pv 1)))))))))))))))))), ?_⟩
    generalize hσ : L2.start _ _ = σ0
    obtain rfl : σ0 = [some v, none] := hσ.symm.trans rfl
    rw [tSeq, tAsg]
    refine lst_asks (asks_cons T1 (ks _ (by simp)) rfl (asks_cons T1 (ks _ (by simp)) rfl (asks_cons T1 (ks _ (by simp)) rfl (asks_nil)))) h (by simp) fun p1 H1 s1 f1 e1 => ?_
    have t1 := s1
    dsimp only [gName, List.set_cons_succ, List.set_cons_zero]
    rw [tSeq, tAsg]
    refine cat_asks rfl e1 (by simp) (asks_cons T1 (ks _ (by simp)) rfl (asks_cons T1 (ks _ (by simp)) rfl (asks_cons T1 (ks _ (by simp)) rfl (asks_nil)))) (h.nt (same_nt t1)) (by simp) fun p2 H2 s2 f2 e2 => ?_
    have t2 := same_trans t1 s2
    dsimp only [gName, List.set_cons_succ, List.set_cons_zero]
    rw [tSeq, tAsg]
    refine cat_asks rfl e2 (by simp) (asks_cons T1 (ks _ (by simp)) rfl (asks_cons T1 (ks _ (by simp)) rfl (asks_cons T1 (ks _ (by simp)) rfl (asks_nil)))) (h.nt (same_nt t2)) (by simp) fun p3 H3 s3 f3 e3 => ?_
    have t3 := same_trans t2 s3
    dsimp only [gName, List.set_cons_succ, List.set_cons_zero]
    rw [tSeq, tAsg]
    refine cat_asks rfl e3 (by simp) (asks_cons T1 (ks _ (by simp)) rfl (asks_cons T1 (ks _ (by simp)) rfl (asks_cons T1 (ks _ (by simp)) rfl (asks_nil)))) (h.nt (same_nt t3)) (by simp) fun p4 H4 s4 f4 e4 => ?_
    have t4 := same_trans t3 s4
    dsimp only [gName, List.set_cons_succ, List.set_cons_zero]
    rw [tSeq, tAsg]
    refine cat_asks rfl e4 (by simp) (asks_cons T1 (ks _ (by simp)) rfl (asks_cons T1 (ks _ (by simp)) rfl (asks_cons T1 (ks _ (by simp)) rfl (asks_nil)))) (h.nt (same_nt t4)) (by simp) fun p5 H5 s5 f5 e5 => ?_
    have t5 := same_trans t4 s5
    dsimp only [gName, List.set_cons_succ, List.set_cons_zero]
    rw [tSeq, tAsg]
    refine cat_asks rfl e5 (by simp) (asks_cons T1 (ks _ (by simp)) rfl (asks_cons T1 (ks _ (by simp)) rfl (asks_cons T1 (ks _ (by simp)) rfl (asks_nil)))) (h.nt (same_nt t5)) (by simp) fun p6 H6 s6 f6 e6 => ?_
    have t6 := same_trans t5 s6
    dsimp only [gName, List.set_cons_succ, List.set_cons_zero]
    rw [tSeq, tAsg]
    refine cat_asks rfl e6 (by simp) (asks_cons T1 (ks _ (by simp)) rfl (asks_cons T1 (ks _ (by simp)) rfl (asks_cons T1 (ks _ (by simp)) rfl (asks_nil)))) (h.nt (same_nt t6)) (by simp) fun p7 H7 s7 f7 e7 => ?_
    have t7 := same_trans t6 s7
    dsimp only [gName, List.set_cons_succ, List.set_cons_zero]
    rw [tSeq, tAsg]
    refine cat_asks rfl e7 (by simp) (asks_cons T1 (ks _ (by simp)) rfl (asks_cons T1 (ks _ (by simp)) rfl (asks_cons T1 (ks _ (by simp)) rfl (asks_nil)))) (h.nt (same_nt t7)) (by simp) fun p8 H8 s8 f8 e8 => ?_
    have t8 := same_trans t7 s8
    dsimp only [gName, List.set_cons_succ, List.set_cons_zero]
    rw [tSeq, tAsg]
    refine cat_asks rfl e8 (by simp) (asks_cons T1 (ks _ (by simp)) rfl (asks_cons T1 (ks _ (by simp)) rfl (asks_cons T1 (ks _ (by simp)) rfl (asks_nil)))) (h.nt (same_nt t8)) (by simp) fun p9 H9 s9 f9 e9 => ?_
    have t9 := same_trans t8 s9
    dsimp only [gName, List.set_cons_succ, List.set_cons_zero]
    rw [tSeq, tAsg]
    refine cat_asks rfl e9 (by simp) (asks_cons T1 (ks _ (by simp)) rfl (asks_cons T1 (ks _ (by simp)) rfl (asks_cons T1 (ks _ (by simp)) rfl (asks_nil)))) (h.nt (same_nt t9)) (by simp) fun p10 H10 s10 f10 e10 => ?_
    have t10 := same_trans t9 s10
    dsimp only [gName, List.set_cons_succ, List.set_cons_zero]
    rw [tSeq, tAsg]
    refine cat_asks rfl e10 (by simp) (asks_cons T1 (ks _ (by simp)) rfl (asks_cons T1 (ks _ (by simp)) rfl (asks_cons T1 (ks _ (by simp)) rfl (asks_nil)))) (h.nt (same_nt t10)) (by simp) fun p11 H11 s11 f11 e11 => ?_
    have t11 := same_trans t10 s11
    dsimp only [gName, List.set_cons_succ, List.set_cons_zero]
    rw [tSeq, tAsg]
    refine cat_asks rfl e11 (by simp) (asks_cons T1 (ks _ (by simp)) rfl (asks_cons T1 (ks _ (by simp)) rfl (asks_cons T1 (ks _ (by simp)) rfl (asks_nil)))) (h.nt (same_nt t11)) (by simp) fun p12 H12 s12 f12 e12 => ?_
    have t12 := same_trans t11 s12
    dsimp only [gName, List.set_cons_succ, List.set_cons_zero]
    rw [tSeq, tAsg]
    refine cat_asks rfl e12 (by simp) (asks_cons T1 (ks _ (by simp)) rfl (asks_cons T1 (ks _ (by simp)) rfl (asks_cons T1 (ks _ (by simp)) rfl (asks_nil)))) (h.nt (same_nt t12)) (by simp) fun p13 H13 s13 f13 e13 => ?_
    have t13 := same_trans t12 s13
    dsimp only [gName, List.set_cons_succ, List.set_cons_zero]
    rw [tSeq, tAsg]
    refine cat_asks rfl e13 (by simp) (asks_cons T1 (ks _ (by simp)) rfl (asks_cons T1 (ks _ (by simp)) rfl (asks_cons T1 (ks _ (by simp)) rfl (asks_nil)))) (h.nt (same_nt t13)) (by simp) fun p14 H14 s14 f14 e14 => ?_
    have t14 := same_trans t13 s14
    dsimp only [gName, List.set_cons_succ, List.set_cons_zero]
    rw [tSeq, tAsg]
    refine cat_asks rfl e14 (by simp) (asks_cons T1 (ks _ (by simp)) rfl (asks_cons T1 (ks _ (by simp)) rfl (asks_cons T1 (ks _ (by simp)) rfl (asks_nil)))) (h.nt (same_nt t14)) (by simp) fun p15 H15 s15 f15 e15 => ?_
    have t15 := same_trans t14 s15
    dsimp only [gName, List.set_cons_succ, List.set_cons_zero]
    rw [tSeq, tAsg]
    refine cat_asks rfl e15 (by simp) (asks_cons T1 (ks _ (by simp)) rfl (asks_cons T1 (ks _ (by simp)) rfl (asks_nil))) (h.nt (same_nt t15)) (by simp) fun p16 H16 s16 f16 e16 => ?_
    have t16 := same_trans t15 s16
    dsimp only [gName, List.set_cons_succ, List.set_cons_zero]
    exact ⟨_, rfl, k p16 H16 t16 (same_free t15 f16) e16⟩
end
end E9

set_option maxRecDepth 100000
set_option maxHeartbeats 3200000
namespace E9
open PySem PySem.Spec PyProof.Rows L2 GxR Gd TL My
theorem pe_xoK {X : Cx} {K : PySem.W.Frag} (h : X.K = K) {n : Str} {e : Expr} {te : TE} {pos : Pos} (he : PE X e te) (hb : attributeBase e n X.env (eval e X.env) = eval e X.env := by rfl) : PE X (.Attribute e n pos) (tXo K n te) := h ▸ pe_xo he hb
theorem ixLK {X : Cx} {K : PySem.W.Frag} (h : X.K = K) : IxR X (rIxL K) := h ▸ ix_list
theorem slLK {X : Cx} {K : PySem.W.Frag} (h : X.K = K) : SlR X (rSlL K) := h ▸ sl_list
theorem Kepts.at {H : Hp} {vs : List V} {l : List (Addr × Option (Str × V))} (h : Kepts H vs l) : ∀ {i : Nat} {v : V}, vs[i]? = some v → ∃ c, l[i]? = some c ∧ Kept H v c := by
  induction h with
  | nil => intro i v hv; cases hv
  | cons a _ ih =>
    intro i v hv
    match i with
    | 0 => exact ⟨_, rfl, Option.some.inj hv ▸ a⟩
    | i + 1 => exact ih (by simpa using hv)
theorem Kepts.to {H : Hp} {vs : List V} {l : List (Addr × Option (Str × V))} (h : Kepts H vs l) : ∀ {i : Nat} {c : Addr × Option (Str × V)}, l[i]? = some c → ∃ v, vs[i]? = some v ∧ Kept H v c := by
  induction h with
  | nil => intro i v hv; cases hv
  | cons a _ ih =>
    intro i v hv
    match i with
    | 0 => exact ⟨_, rfl, Option.some.inj hv ▸ a⟩
    | i + 1 => exact ih (by simpa using hv)
/-- what is asked of the classes, their fields read -/
def Fld (K : PySem.W.Frag) (l : List (Addr × Option (Str × V))) : Prop := ∀ c ∈ l, ∀ f y, c.2 = some (f, y) → XfC K c.1 ∧ PySem.W.findIn K (.ref c.1) f = some none
theorem xo_at {K : PySem.W.Frag} {H : Hp} {v y : V} {C : Addr} {f : Str} {te : TE} {σ : L2.St} {G : VK} (h : Kept H v (C, some (f, y))) (a : XfC K C ∧ PySem.W.findIn K (.ref C) f = some none) (hte : ∀ Q : VK, Q v H → te σ H Q) (k : G y H) : tXo K f te σ H G := by
  obtain ⟨x, rfl, dx, h1, h2⟩ := h
  exact hte _ ⟨x, C, dx, _, y, rfl, a.1, a.2, h1, h2, by simp [List.lookup], k⟩
theorem cut_back {xs : List V} (h : xs.length = 47) : cutV xs none (some (-7)) = xs.take 40 := by
  unfold cutV
  rw [h]
  rfl
theorem at_back {xs : List V} {v : V} (i : Int) (j : Nat) (h : xs.length = 47) (hi : ixN 47 i = some j) (hv : xs[j]? = some v) : atI xs i = some v := by
  unfold atI
  rw [h, hi]
  exact hv
/-- the fields found, one for each refusal -/
theorem many_it {K : PySem.W.Frag} {a : Addr} {us : List V} {H : Hp} {y r : V} {D : Addr} {Qd : Hp → Prop} (hD : H D = none) (ha : H a = some (.lst us)) (h100 : us.length ≤ 100)
    (hk : ∀ (i : Nat) (v : V), us[i]? = some v → ∃ C, Kept H v (C, some (Str.ofString "found", y)) ∧ XfC K C ∧ PySem.W.findIn K (.ref C) (Str.ofString "found") = some none)
    (hd : ∀ H', Same H H' → H' D = some (.lst (List.replicate us.length y)) → Qd H') :
    ∃ W : Nat → Nat → Hp → Prop, (∃ m, W 0 m (upd H D (.lst []))) ∧ ∀ i m H', W i m H' → ((Itl K a).stop i H' ∧ Qd H') ∨ ((Itl K a).go i H' ∧ ∃ Nx : Hp → Prop, (∀ H'', Nx H'' → ∃ m', m' < m ∧ W (i + 1) m' H'') ∧ ∀ x H'', (Itl K a).yld i H' x H'' → gName 2 x (wipe [some r, none, none] [2]) H'' fun σ2 H2 => wipe σ2 [2] = wipe [some r, none, none] [2] ∧ tYes σ2 H2 fun b H3 =>
      if b = true then tXo K (Str.ofString "found") (tVar 2) σ2 H3 fun y H4 => ∃ acc, H4 D = some (.lst acc) ∧ acc.length < sizeLine ∧ Nx (upd H4 D (.lst (acc ++ [y]))) else Nx H3) := by
  refine lc_it (walk_list (K := K) (xs := us)) (fun i H' => Same H H' ∧ H' D = some (.lst (List.replicate i y))) ⟨same_alloc hD, upd_same⟩ (fun i H' _ h => SqL.of (h.1 _ _ ha)) ?_ ?_
  · rintro i v H' H'' hi ⟨s, e⟩ ⟨rfl, hv⟩
    obtain ⟨C, k, kx⟩ := hk i v hv
    refine ⟨rfl, ?_⟩
    rw [tYes, if_pos rfl]
    refine xo_at (k.nt (same_nt s)) kx (fun Q q => ⟨v, rfl, q⟩) ⟨_, e, ?_, fun c o h => by rw [upd_ne (ne_of_none h hD)]; exact s c o h, ?_⟩
    · rw [List.length_replicate, sizeLine_eq]
      omega
    · rw [List.replicate_succ']
      exact upd_same
  · rintro H' ⟨s, e⟩
    exact hd H' s e
section
variable {P : Program} {w : World} {K : PySem.W.Frag} {mg : Str → Option Value} {base : Heap}
abbrev s_law_fields : Stmt := top 56
theorem sc_law_fields : FnScope ["_law_made_here", "_law_found", "_law_error"] ["_law_made_here"] (defScope s_law_fields) := ⟨rfl, rfl, rfl, by decide +kernel, rfl, by decide +kernel, by decide +kernel⟩
def dueL (y z : V) : List V := List.replicate 40 y ++ [y, y, z, y, z]
def spFields (K : PySem.W.Frag) (C0 C1 C2 C3 C4 C5 C6 C7 C8 C9 C10 C11 C12 C13 C14 C15 C16 C17 C18 C19 C20 C21 C22 C23 C24 C25 C26 C27 C28 C29 C30 C31 C32 C33 C34 C35 C36 C37 C38 C39 C40 C41 C42 C43 C44 C45 C46 : Addr) : Sp := fun vs H Q _ => ∃ (p : Addr) (xs : List V) (y z : V), vs = [.ref p] ∧ H p = some (.lst xs) ∧ Kepts H xs (madeL C0 C1 C2 C3 C4 C5 C6 C7 C8 C9 C10 C11 C12 C13 C14 C15 C16 C17 C18 C19 C20 C21 C22 C23 C24 C25 C26 C27 C28 C29 C30 C31 C32 C33 C34 C35 C36 C37 C38 C39 C40 C41 C42 C43 C44 C45 C46 y z) ∧ Fld K (madeL C0 C1 C2 C3 C4 C5 C6 C7 C8 C9 C10 C11 C12 C13 C14 C15 C16 C17 C18 C19 C20 C21 C22 C23 C24 C25 C26 C27 C28 C29 C30 C31 C32 C33 C34 C35 C36 C37 C38 C39 C40 C41 C42 C43 C44 C45 C46 y z) ∧ ∀ q H', Same H H' → H q = none → H' q = some (.lst (dueL y z)) → Q (.ref q) H'
theorem ok_fields {C0 C1 C2 C3 C4 C5 C6 C7 C8 C9 C10 C11 C12 C13 C14 C15 C16 C17 C18 C19 C20 C21 C22 C23 C24 C25 C26 C27 C28 C29 C30 C31 C32 C33 C34 C35 C36 C37 C38 C39 C40 C41 C42 C43 C44 C45 C46 : Addr} {f : Addr} {fd : FuncData} (F : Fun K "_law_fields" "_law_fields" s_law_fields f fd) (T : Txt mg) : FnOk P w K mg base CX0 1 f fd ["_law_made_here"] (spFields K C0 C1 C2 C3 C4 C5 C6 C7 C8 C9 C10 C11 C12 C13 C14 C15 C16 C17 C18 C19 C20 C21 C22 C23 C24 C25 C26 C27 C28 C29 C30 C31 C32 C33 C34 C35 C36 C37 C38 C39 C40 C41 C42 C43 C44 C45 C46) := by
  refine F.ok sc_law_fields (fun vs H Q E h => ?_) (fun cdv A outer s H vs Q E hr h => ?_)
  · obtain ⟨p, xs, y, z, rfl, _⟩ := h
    rfl
  · obtain ⟨p, xs, y, z, rfl, hp, ks, fl, k⟩ := h
    refine ⟨_, pss_cons (ps_setLc (i := 1) (own := [("_law_error", 2)]) (g := gName 2) (tt := tYes) rfl sc_law_fields.nd rfl rfl (sw_true rfl rfl rfl (by decide +kernel)) (pi_list (pe_slice (slLK (K := K) rfl) (pv 0) po_none (po_some (pe_un un_neg pe_int)))) (blkOk_by (own := [("_law_error", 2)]) (N := ["_law_made_here", "_law_found", "_law_error"]) (sc := defScope s_law_fields) (by decide +kernel)) (fun _ _ _ _ _ => (pg_name (i := 2) sc_law_fields.nd rfl (Or.inl rfl))) (fun _ _ _ _ _ => pts_nil) (fun _ _ _ _ _ => (pe_xoK (K := K) rfl (pv 2) rfl)))
      (pss_one (ps_ret (pe_op op_cat (pv 1) (pe_lst (pa_cons (pe_xoK (K := K) rfl (pe_ix (ixLK (K := K) rfl) (pv 0) (pe_un un_neg pe_int) (fun _ _ => rfl)) rfl) (pa_cons (pe_xoK (K := K) rfl (pe_ix (ixLK (K := K) rfl) (pv 0) (pe_un un_neg pe_int) (fun _ _ => rfl)) rfl) (pa_cons (pe_xoK (K := K) rfl (pe_ix (ixLK (K := K) rfl) (pv 0) (pe_un un_neg pe_int) (fun _ _ => rfl)) rfl) (pa_cons (pe_xoK (K := K) rfl (pe_ix (ixLK (K := K) rfl) (pv 0) (pe_un un_neg pe_int) (fun _ _ => rfl)) rfl) (pa_cons (pe_xoK (K := K) rfl (pe_ix (ixLK (K := K) rfl) (pv 0) (pe_un un_neg pe_int) (fun _ _ => rfl)) rfl) pa_nil))))))))), ?_⟩
    generalize hσ : L2.start _ _ = σ0
    obtain rfl : σ0 = [some (.ref p), none, none] := hσ.symm.trans rfl
    have h47 : xs.length = 47 := ks.len
    have fst : ∀ (i : Nat) (v : V), (xs.take 40)[i]? = some v → ∃ C, Kept H v (C, some (Str.ofString "found", y)) ∧ XfC K C ∧ PySem.W.findIn K (.ref C) (Str.ofString "found") = some none := by
      intro i v hv
      have hi : i < 40 := by
        rcases Nat.lt_or_ge i 40 with h | h
        · exact h
        · rw [List.getElem?_eq_none (by rw [List.length_take]; omega)] at hv
          cases hv
      rw [List.getElem?_take_of_lt hi] at hv
      obtain ⟨c, hc, kc⟩ := ks.at hv
      have hm : c.2 = some (Str.ofString "found", y) := (show ∀ c ∈ (madeL C0 C1 C2 C3 C4 C5 C6 C7 C8 C9 C10 C11 C12 C13 C14 C15 C16 C17 C18 C19 C20 C21 C22 C23 C24 C25 C26 C27 C28 C29 C30 C31 C32 C33 C34 C35 C36 C37 C38 C39 C40 C41 C42 C43 C44 C45 C46 y z).take 40, c.2 = some (Str.ofString "found", y) by simp [madeL]) c (List.mem_of_getElem? (by rw [List.getElem?_take_of_lt hi]; exact hc))
      have hf := fl c (List.mem_of_getElem? hc) _ _ hm
      exact ⟨c.1, by rw [← hm]; exact kc, hf⟩
    rw [tSeq, tAsg]
    refine ⟨_, rfl, 7, rfl, _, rfl, p, xs, rfl, SqL.of hp, fun c hc => ?_⟩
    rw [show cutV xs none (some (-(7 : Int))) = xs.take 40 from cut_back h47]
    have s1 : Same H (upd H c (.lst (xs.take 40))) := same_alloc hc
    have e1 : (upd H c (.lst (xs.take 40))) c = some (.lst (xs.take 40)) := upd_same
    generalize upd H c (.lst (xs.take 40)) = H1 at s1 e1 ⊢
    refine ⟨c, rfl, ⟨_, SqL.of e1⟩, fun D hD => many_it (K := K) (y := y) hD e1 (by rw [List.length_take]; omega) (fun i v hv => ?_) fun H2 s2 e2 => ?_⟩
    · obtain ⟨C, k1, k2⟩ := fst i v hv
      exact ⟨C, k1.nt (same_nt s1), k2⟩
    · rw [List.length_take, h47] at e2
      have s := same_trans s1 s2
      have ks2 := ks.nt (same_nt s)
      have hp2 := s _ _ hp
      have hDH := same_free s1 hD
      clear s1 e1 fst
      dsimp only [gName, List.set_cons_succ, List.set_cons_zero]
      obtain ⟨v0, a0, b0⟩ := ks2.to (i := 40) rfl
      obtain ⟨v1, a1, b1⟩ := ks2.to (i := 41) rfl
      obtain ⟨v2, a2, b2⟩ := ks2.to (i := 42) rfl
      obtain ⟨v3, a3, b3⟩ := ks2.to (i := 43) rfl
      obtain ⟨v4, a4, b4⟩ := ks2.to (i := 44) rfl
      have hF : ∀ (j : Nat) (c : Addr × Option (Str × V)), (madeL C0 C1 C2 C3 C4 C5 C6 C7 C8 C9 C10 C11 C12 C13 C14 C15 C16 C17 C18 C19 C20 C21 C22 C23 C24 C25 C26 C27 C28 C29 C30 C31 C32 C33 C34 C35 C36 C37 C38 C39 C40 C41 C42 C43 C44 C45 C46 y z)[j]? = some c → ∀ f x, c.2 = some (f, x) → XfC K c.1 ∧ PySem.W.findIn K (.ref c.1) f = some none := fun j c h => fl c (List.mem_of_getElem? h)
      refine ⟨_, rfl, ?_⟩
      refine xo_at b0 (hF 40 _ rfl _ _ rfl) (fun Q q => ⟨_, rfl, 7, rfl, p, xs, -7, v0, rfl, rfl, SqL.of hp2, at_back (-7) 40 h47 rfl a0, q⟩) ?_
      refine xo_at b1 (hF 41 _ rfl _ _ rfl) (fun Q q => ⟨_, rfl, 6, rfl, p, xs, -6, v1, rfl, rfl, SqL.of hp2, at_back (-6) 41 h47 rfl a1, q⟩) ?_
      refine xo_at b2 (hF 42 _ rfl _ _ rfl) (fun Q q => ⟨_, rfl, 5, rfl, p, xs, -5, v2, rfl, rfl, SqL.of hp2, at_back (-5) 42 h47 rfl a2, q⟩) ?_
      refine xo_at b3 (hF 43 _ rfl _ _ rfl) (fun Q q => ⟨_, rfl, 4, rfl, p, xs, -4, v3, rfl, rfl, SqL.of hp2, at_back (-4) 43 h47 rfl a3, q⟩) ?_
      refine xo_at b4 (hF 44 _ rfl _ _ rfl) (fun Q q => ⟨_, rfl, 3, rfl, p, xs, -3, v4, rfl, rfl, SqL.of hp2, at_back (-3) 44 h47 rfl a4, q⟩) ?_
      refine ⟨by rw [sizeLine_eq]; show 5 ≤ 16777216; decide, fun q hq => ⟨D, q, _, _, rfl, rfl, (same_alloc hq) _ _ e2, upd_same, ?_, fun u hu => ?_⟩⟩
      · rw [List.length_replicate, sizeLine_eq]
        show 40 + 5 ≤ 16777216
        decide
      · have s3 := same_alloc (o := HO.lst [y, y, z, y, z]) hq
        exact k u _ (same_trans (same_trans s s3) (same_alloc hu)) (same_free s (same_free s3 hu)) upd_same
end
end E9

set_option maxRecDepth 100000
set_option maxHeartbeats 1000000
/-! The end of a law whose own def shows dicts: the module table is tracked, so that no new thing is it. For laws without tables. -/
namespace Gd
open PySem PySem.Spec PyProof.Rows L2 GxR
/-- the module table: it is there -/
def smU : HO := .ext fun h => ∃ o, h.get? sysModules = some o
def SmAt (H : Hp) : Prop := ∃ o, H sysModules = some (.frz o smU)
theorem SmAt.same {H H' : Hp} (h : SmAt H) (s : Same H H') : SmAt H' := let ⟨o, e⟩ := h; ⟨o, s _ _ e⟩
theorem smU_ne {u : HO} (n : ∀ φ, u ≠ .ext φ) : smU ≠ u := fun z => n _ z.symm
open Classical in
noncomputable def hs0 (K : PySem.W.Frag) (a : Addr) (vs : List Value) (ns : List Int) (o1 : Obj) : Hp := fun b =>
  if b = sysModules then some (.frz o1 smU) else if b = a ∧ K.lookup a = none then some (.frz (scriptO vs) (.lst (ns.map V.int))) else none
theorem hs0_inv {K : PySem.W.Frag} {a b : Addr} {vs : List Value} {ns : List Int} {o1 : Obj} {u : HO} (h : hs0 K a vs ns o1 b = some u) :
    (b = sysModules ∧ u = .frz o1 smU) ∨ (b = a ∧ K.lookup a = none ∧ u = .frz (scriptO vs) (.lst (ns.map V.int))) := by
  unfold hs0 at h
  split at h
  · rename_i c
    exact .inl ⟨c, (Option.some.inj h).symm⟩
  · split at h
    · rename_i c
      exact .inr ⟨c.1, c.2, (Option.some.inj h).symm⟩
    · cases h
section
variable {P : Program} {w : World} {K : PySem.W.Frag} {mg mb : Str → Option Value} {CX : CXT} {k : Nat} {fa a : Addr} {fd : FuncData} {x : Str} {sp : Sp} {s1 : Shared} {vs : List Value} {ns : List Int}
theorem law_scall (KX : K.In s1.heap) (nsG : s1.heap.Ns mainGlobals mg) (nsB : s1.heap.Ns builtinsNs mb) (isB : ∀ x : Str, x ≠ "__name__" → mb x = bootBuiltins x) (lim : s1.heap.NoLimit) (gens : s1.gens = #[])
    (hsm : ∃ o, s1.heap.get? sysModules = some o) (k1 : K.lookup sysModules = none) (na : a ≠ sysModules) (ha : s1.heap.get? a = some (scriptO vs)) (hi : IntsAre vs ns) (hl : ns.length ≤ sizeLine) (hr : Room k callerA)
    (F : ∀ base : Heap, K.In base → base.Ns mainGlobals mg → GOk P w K mg base CX k fa fd [x] sp) (hbind : ∀ (s : Shared) (u : Value), BindsTo s fd ⟨[u], []⟩ [(x, u)])
    (hsp : ∀ H : Hp, SmAt H → SqL K H a (ns.map V.int) → sp [.ref a] H (fun v _ => v = .bl true) fun _ _ _ => False) (hCX : ∀ H e s', CX [] H s1 (fun _ _ _ => False) e s' → False) :
    codeAny (model P w) callerA (.call (.ref fa) ⟨[.ref a], []⟩) (fun r s' => r = .ok (.ret (.bool true)) ∧ OldK s1.heap s'.heap ∧ s'.os = s1.os ∧ AllBare s'.gens) s1 := by
  have rv := vals_ints hi
  have hlen := hi.length
  obtain ⟨o1, ho1⟩ := hsm
  let H := hs0 K a vs ns o1
  have off : ∀ {b : Addr}, b ≠ sysModules → b ≠ a → H b = none := fun {b} n1 n2 => by
    cases q : H b with
    | none => rfl
    | some u =>
      rcases hs0_inv q with ⟨e, _⟩ | ⟨e, _⟩
      · exact absurd e n1
      · exact absurd e n2
  have dic : ∀ {b : Addr} {m : Str → Option Value}, b ≠ sysModules → s1.heap.Ns b m → (hidT s1.heap H).Ns b m := by
    rintro b m n1 ⟨o, es, ep, e, d, rest⟩
    refine ⟨o, es, ep, hidT_get e (off n1 ?_), d, rest⟩
    rintro rfl
    rw [ha] at e
    obtain rfl := Option.some.inj e
    cases d
  have KH : K.In (hidT s1.heap H) := by
    intro b o e
    refine hidT_get (KX b o e) ?_
    cases q : H b with
    | none => rfl
    | some u =>
      rcases hs0_inv q with ⟨rfl, _⟩ | ⟨rfl, z, _⟩
      · rw [k1] at e
        cases e
      · rw [z] at e
        cases e
  have limH : (hidT s1.heap H).NoLimit := let ⟨mc, h1, h2⟩ := lim; ⟨mc, dic (by decide) h1, h2⟩
  have M : L2.Mod K mg (hidT s1.heap H) := ⟨KH, dic (by decide) nsG, ⟨mb, dic (by decide) nsB, isB⟩, limH⟩
  have hS : SqL K H a (ns.map V.int) := by
    cases q : K.lookup a with
    | none => exact .inl (.inr ⟨scriptO vs, (if_neg na).trans (if_pos ⟨rfl, q⟩)⟩)
    | some o =>
      have e := KX a o q
      rw [ha] at e
      obtain rfl := Option.some.inj e
      exact .inr ⟨_, vs.toArray, _, q, rfl, rfl, rfl, by rw [List.size_toArray, hlen]; exact hl, by simpa using rv⟩
  have hok : HOk P w H s1.heap := by
    intro b u q
    rcases hs0_inv q with ⟨rfl, rfl⟩ | ⟨rfl, _, rfl⟩
    · exact ⟨ho1, ⟨_, ho1⟩, ⟨_, ho1⟩, fun h1 h2 ⟨o, z⟩ k => ⟨o, k _ z⟩⟩
    · exact ⟨ha, by rw [List.length_map]; exact hl, vs, _, rv, ha⟩
  have e0 : Env0 P w K mg (hidT s1.heap H) callerA [] s1 H :=
    ⟨rfl, M, fun b o e => of_hidT e, Nat.le_of_eq (hidT_size _ _), trivial, (fun b hb => by cases (show b ∈ ([] : List Addr) from hb)), hok, .of_eq gens⟩
  refine codeAny_mono ((F _ KH (dic (by decide) nsG)).go callerA [] s1 H ⟨[.ref a], []⟩ [.ref a] [.ref a] (fun v _ => v = .bl true) (fun _ _ _ => False) rfl hr e0 (hbind s1 (.ref a)) (.cons rfl .nil) (hsp H ⟨o1, if_pos rfl⟩ hS)) ?_
  intro r z h
  match r, h with
  | .ok .next, h => exact h.elim
  | .ok .brk, h => exact h.elim
  | .ok .cont, h => exact h.elim
  | .error e, h => exact (hCX H e z h).elim
  | .ok (.ret u), h =>
    obtain ⟨v, G, os, bare, un, hokG, rv', q⟩ := h
    obtain rfl : v = .bl true := q
    obtain rfl : u = Value.bool true := rv'
    have plain : ∀ b o, s1.heap.get? b = some o → z.heap.get? b = some o := by
      intro b o e
      cases q : H b with
      | none => exact un.keep b o e q (fun y => by cases (show b ∈ ([] : List Addr) from y)) (by simp)
      | some y =>
        rcases hs0_inv q with ⟨rfl, rfl⟩ | ⟨rfl, _, rfl⟩
        · obtain ⟨e2, _⟩ := hokG sysModules _ (un.frzs _ _ _ q)
          rw [ho1] at e
          exact Option.some.inj e ▸ e2
        · obtain ⟨e2, _⟩ := hokG b _ (un.frzs b _ _ q)
          rw [ha] at e
          exact Option.some.inj e ▸ e2
    exact ⟨rfl, ⟨fun b o e => .inl (plain b o e), fun b o e => ⟨o, plain b o e⟩⟩, os, bare⟩
end
/-- what is to be known of such a law -/
def GLawS (l : PySem.W.OpenLaw) (w : World) (K : PySem.W.Frag) (CX : CXT) (k n : Nat) (x : Str) (mg : Str → Option Value) (fa : Addr) : Prop :=
  ∃ (fd : FuncData) (sp : Sp), K.lookup sysModules = none ∧ (∀ (s : Shared) (u : Value), BindsTo s fd ⟨[u], []⟩ [(x, u)]) ∧
    (∀ (H : Hp) (a : Addr) (ns : List Int), ns.length ≤ n → SmAt H → SqL K H a (ns.map V.int) → sp [.ref a] H (fun v _ => v = .bl true) fun _ _ _ => False) ∧
    ∀ base : Heap, K.In base → base.Ns mainGlobals mg → GOk l.prog w K mg base CX k fa fd [x] sp
open PySem.W in
theorem walk_s {l : PySem.W.OpenLaw} {n k : Nat} {q : Program} {loose : List Str} {XP : (Str → Option Value) → Heap → Prop} {YP : World → Heap → Prop} {d : DefRec} {K : Params → PySem.W.Frag} {CX : World → CXT} {x : Str}
    (no : importsNone q = true) (hn : l.most = some n) (small : n ≤ sizeLine) (hdf : d.params.defaults = []) (hr : Room k callerA) (hY : ∀ (w : World) (h : Heap), YP w h → (K w.params).In h)
    (F : ∀ (w : World) (mg : Str → Option Value) (fa : Addr) (h : Heap), YP w h → (K w.params).In h → h.Ns mainGlobals mg → mg d.name = some (.ref fa) → GLawS l w (K w.params) (CX w) k n x mg fa)
    (hCX : ∀ (w : World) (H : Hp) (s : Shared) (e : Value) (s' : Shared), CX w [] H s (fun _ _ _ => False) e s' → False) :
    PySem.W.WalkO q loose XP YP l.row.toRowW d [] (fun f vs => PySem.call f vs) := by
  intro w s0 s1 mg mb G Y fa o pm cd doc dV kV ho hd hcd hD hmg hg args vals as pre lay rd well low
  obtain ⟨a, vs, ns, rfl, rfl, hobj, hints, hlen⟩ := Att.script_of hn pre well
  have na : a ≠ sysModules := by
    cases rd with
    | cons r1 r2 =>
      cases r1 with
      | list _ _ _ _ => exact beq_eq_false_iff_ne.mp (low a (by simp))
  have KX := hY w _ Y
  obtain ⟨fd, sp, k1, hb, hsp, hF⟩ := F w mg fa _ Y KX G.T.g hmg
  have run := law_scall KX G.T.g G.T.b G.T.builtins G.T.nolimit hg (let ⟨_, ⟨o, _, _, e, _⟩, _⟩ := (G.T.seer no).mods; ⟨o, e⟩) k1 na hobj hints (Nat.le_trans hlen small) hr hF hb (fun H a1 a2 => hsp H a ns hlen a1 a2) (fun H e s' => hCX w H s1 e s')
  refine enter_call (codeAny_mono run ?_)
  rintro r z ⟨rfl, old, os, bare⟩
  exact ⟨.inl ⟨.bool true, .bool true, [], rfl, fun _ => rfl, .bool true, Att.post_true l _, fun _ => ⟨List.Pairwise.nil, fun _ m => (nomatch m)⟩⟩, old, os, bare⟩
end Gd

set_option maxRecDepth 100000
set_option maxHeartbeats 1000000
/-! Data with dicts: what repr asks of them. -/
namespace My
open PySem PySem.Spec PyProof.Rows L2 GxR Gd TL
theorem same_new {H : Hp} {p : Addr} {o : HO} (n : H p = none) : Same H (upd H p o) := fun b u e => by rw [upd_ne (ne_of_none e n)]; exact e
theorem sameT {K : PySem.W.Frag} {H H' : Hp} {a : Addr} {xs : List V} (s : Same H H') (h : SqT K H a xs) : SqT K H' a xs := by
  rcases h with (h | ⟨o, h⟩) | h
  · exact .inl (.inl (s _ _ h))
  · exact .inl (.inr ⟨o, s _ _ h⟩)
  · exact .inr h
def keyD : Key → PyData
  | .inl i => .int i
  | .inr x => .str x
mutual
/-- v is the data d, dicts too -/
inductive Dq (K : PySem.W.Frag) (H : Hp) : V → PyData → Prop
  | non : Dq K H .non .none
  | bl (b : Bool) : Dq K H (.bl b) (.bool b)
  | int (i : Int) : Dq K H (.int i) (.int i)
  | str (z : Str) : Dq K H (.str z) (.str z)
  | lst {a : Addr} {xs : List V} {ds : List PyData} (e : SqL K H a xs) (h : DqAll K H xs ds) : Dq K H (.ref a) (.list ds)
  | tup {a : Addr} {xs : List V} {ds : List PyData} (e : SqT K H a xs) (h : DqAll K H xs ds) : Dq K H (.ref a) (.tuple ds)
  | dic {a : Addr} {kvs : List (Key × V)} {ds : List (PyData × PyData)} (e : H a = some (.dK kvs)) (h : DqKv K H kvs ds) : Dq K H (.ref a) (.dict ds)
inductive DqAll (K : PySem.W.Frag) (H : Hp) : List V → List PyData → Prop
  | nil : DqAll K H [] []
  | cons {v : V} {vs : List V} {d : PyData} {ds : List PyData} (h : Dq K H v d) (t : DqAll K H vs ds) : DqAll K H (v :: vs) (d :: ds)
inductive DqKv (K : PySem.W.Frag) (H : Hp) : List (Key × V) → List (PyData × PyData) → Prop
  | nil : DqKv K H [] []
  | cons {k : Key} {v : V} {r : List (Key × V)} {d : PyData} {ds : List (PyData × PyData)} (h : Dq K H v d) (t : DqKv K H r ds) : DqKv K H ((k, v) :: r) ((keyD k, d) :: ds)
end
mutual
theorem Dq.of {K : PySem.W.Frag} {H : Hp} : ∀ {v : V} {d : PyData}, Dp K H v d → Dq K H v d
  | _, _, .non => .non
  | _, _, .bl b => .bl b
  | _, _, .int i => .int i
  | _, _, .str z => .str z
  | _, _, .lst e h => .lst e (DqAll.of h)
  | _, _, .tup e h => .tup e (DqAll.of h)
theorem DqAll.of {K : PySem.W.Frag} {H : Hp} : ∀ {vs : List V} {ds : List PyData}, DpAll K H vs ds → DqAll K H vs ds
  | _, _, .nil => .nil
  | _, _, .cons h t => .cons (Dq.of h) (DqAll.of t)
end
mutual
theorem Dq.same {K : PySem.W.Frag} {H H' : Hp} (s : Same H H') : ∀ {v : V} {d : PyData}, Dq K H v d → Dq K H' v d
  | _, _, .non => .non
  | _, _, .bl b => .bl b
  | _, _, .int i => .int i
  | _, _, .str z => .str z
  | _, _, .lst e h => .lst (s.seq e) (DqAll.same s h)
  | _, _, .tup e h => .tup (sameT s e) (DqAll.same s h)
  | _, _, .dic e h => .dic (s _ _ e) (DqKv.same s h)
theorem DqAll.same {K : PySem.W.Frag} {H H' : Hp} (s : Same H H') : ∀ {vs : List V} {ds : List PyData}, DqAll K H vs ds → DqAll K H' vs ds
  | _, _, .nil => .nil
  | _, _, .cons h t => .cons (Dq.same s h) (DqAll.same s t)
theorem DqKv.same {K : PySem.W.Frag} {H H' : Hp} (s : Same H H') : ∀ {kvs : List (Key × V)} {ds : List (PyData × PyData)}, DqKv K H kvs ds → DqKv K H' kvs ds
  | _, _, .nil => .nil
  | _, _, .cons h t => .cons (Dq.same s h) (DqKv.same s t)
end
theorem keyD_reads {h : Heap} {k : Key} {v : Value} (e : keyIs k v = true) : Reads h v (keyD k) [] := by
  rcases keyIs_shape e with ⟨i, t, rfl, rfl⟩ | ⟨x, t, rfl, rfl⟩
  · exact .int i t
  · exact .str x t
section
variable {X : Cx} {pins : List (Addr × Obj)} {σ : L2.St} {H : Hp} {s : Shared}
theorem ne_sm {K : PySem.W.Frag} {H : Hp} {a : Addr} {xs : List V} (n : K.lookup sysModules = none) (sm : SmAt H) (h : SqL K H a xs) : a ≠ sysModules := by
  rintro rfl
  obtain ⟨o, e⟩ := sm
  rcases h with (h | ⟨u, h⟩) | ⟨u, _, _, h, _⟩
  · rw [e] at h
    cases h
  · rw [e] at h
    cases h
  · rw [n] at h
    cases h
mutual
theorem Dq.reads (n : X.K.lookup sysModules = none) (sm : SmAt H) (I : Inv X pins σ H s) : ∀ (d : PyData) (v : V) (u : Value), Dq X.K H v d → RelV v u → ∃ as, Reads s.heap u d as ∧ sysModules ∉ as
  | .none, _, _, h, r => by
    cases h
    cases r
    exact ⟨_, .none, by simp⟩
  | .bool b, _, _, h, r => by
    cases h
    cases r
    exact ⟨_, .bool b, by simp⟩
  | .int i, _, _, h, r => by
    cases h
    obtain ⟨t, rfl⟩ := r
    exact ⟨_, .int i t, by simp⟩
  | .str z, _, _, h, r => by
    cases h
    obtain ⟨t, rfl⟩ := r
    exact ⟨_, .str z t, by simp⟩
  | .list ds, _, _, h, r => by
    cases h with
    | lst hs ha =>
      cases r
      obtain ⟨its, rv, ⟨o, m, ho, hc, _, hd⟩, _⟩ := I.list hs
      obtain ⟨as, hr, no⟩ := Dq.readsAll n sm I ds _ its ha rv
      exact ⟨_, .list ho hc hd hr, fun m => (List.mem_cons.mp m).elim (ne_sm n sm hs).symm no⟩
  | .tuple ds, _, _, h, r => by
    cases h with
    | tup hs ha =>
      cases r
      obtain ⟨its, rv, ⟨o, ho, hc, m, hd⟩, _⟩ := I.tuple hs
      obtain ⟨as, hr, no⟩ := Dq.readsAll n sm I ds _ its ha rv
      exact ⟨_, .tuple ho hc hd hr, no⟩
  | .dict ds, _, _, h, r => by
    cases h with
    | dic e hk =>
      cases r
      obtain ⟨_, ne, vs, rel, o, es, ep, ho, hx, hd, _, hp, _⟩ := dk_of I.hok e
      obtain ⟨as, bs, h1, h2, n1, n2⟩ := Dq.readsKv n sm I ds _ vs es.toList hk rel hp
      refine ⟨_, .dict ho hx.1 hd h1 h2, fun m => ?_⟩
      rw [List.cons_append] at m
      rcases List.mem_cons.mp m with m | m
      · exact (beq_eq_false_iff_ne.mp ne) m.symm
      · exact (List.mem_append.mp m).elim n1 n2
theorem Dq.readsAll (n : X.K.lookup sysModules = none) (sm : SmAt H) (I : Inv X pins σ H s) : ∀ (ds : List PyData) (vs : List V) (us : List Value), DqAll X.K H vs ds → Vals vs us → ∃ as, ReadsAll s.heap us ds as ∧ sysModules ∉ as
  | [], _, _, h, r => by
    cases h
    cases r
    exact ⟨_, .nil, by simp⟩
  | d :: ds, _, _, h, r => by
    cases h with
    | cons h1 h2 =>
      cases r with
      | cons r1 r2 =>
        obtain ⟨as, q1, n1⟩ := Dq.reads n sm I d _ _ h1 r1
        obtain ⟨bs, q2, n2⟩ := Dq.readsAll n sm I ds _ _ h2 r2
        exact ⟨_, .cons q1 q2, fun m => (List.mem_append.mp m).elim n1 n2⟩
theorem Dq.readsKv (n : X.K.lookup sysModules = none) (sm : SmAt H) (I : Inv X pins σ H s) : ∀ (ds : List (PyData × PyData)) (kvs : List (Key × V)) (vs : List (Key × Value)) (es : List DictEntry), DqKv X.K H kvs ds → KV kvs vs → Pairs (mixKind X.prog X.w) es vs →
    ∃ as bs, ReadsAll s.heap (es.map (·.key)) (ds.map (·.1)) as ∧ ReadsAll s.heap (es.map (·.val)) (ds.map (·.2)) bs ∧ sysModules ∉ as ∧ sysModules ∉ bs
  | [], _, _, _, h, r, p => by
    cases h
    cases r
    cases p
    exact ⟨_, _, .nil, .nil, by simp, by simp⟩
  | (_, d) :: ds, _, _, _, h, r, p => by
    cases h with
    | cons h1 h2 =>
      cases r with
      | cons r1 r2 =>
        cases p with
        | cons p1 p2 p3 =>
          obtain ⟨as, q1, n1⟩ := Dq.reads n sm I d _ _ h1 r1.2
          obtain ⟨bs, cs, q2, q3, n2, n3⟩ := Dq.readsKv n sm I ds _ _ _ h2 r2 p3
          refine ⟨_, _, .cons (keyD_reads ?_) q2, .cons ?_ q3, by simpa using n2, fun m => (List.mem_append.mp m).elim n1 n3⟩
          · have e := r1.1
            dsimp only at e ⊢
            rw [e]
            exact p1
          · dsimp only
            rw [p2]
            exact q1
end
end
/-- repr(v), v data with dicts -/
def rReprQ (K : PySem.W.Frag) : List V → Hp → VK → Prop := fun xs H Q => ∃ v d, xs = [v] ∧ SmAt H ∧ Dq K H v d ∧ d.showable = true ∧ d.depth ≤ 100 ∧ d.shown.length ≤ sizeLine ∧ Q (.str d.shown) H
theorem call_reprQ {X : Cx} {k : Nat} (n : X.K.lookup sysModules = none) (gd : X.A.guards = some []) (hr : Room k X.A) : CallR X (.builtin "repr") (rReprQ X.K) := by
  rintro pins s σ H xs us Q I r ⟨v, d, rfl, sm, dq, hs, hdep, hsz, q⟩
  have whole : ∀ {a : Addr} {as : List Addr}, Reads s.heap (.ref a) d as → sysModules ∉ as → wpAny (model X.prog X.w) X.A (call (.builtin "repr") [.ref a]) (EP X pins σ Q) X.xe s := by
    intro a as rd no
    have hun := hr.un
    exact repr_of_reads' rd hs (fun _ => no) gd (by omega) (fun _ _ z => z) (fun h' u tk hk => ⟨.str _, H, I.kept hk, ⟨_, rfl⟩, q⟩) hsz
  cases dq with
  | non => exact call_repr gd hr pins s σ H _ us Q I r ⟨_, _, rfl, .non, hs, hdep, hsz, q⟩
  | bl b => exact call_repr gd hr pins s σ H _ us Q I r ⟨_, _, rfl, .bl b, hs, hdep, hsz, q⟩
  | int i => exact call_repr gd hr pins s σ H _ us Q I r ⟨_, _, rfl, .int i, hs, hdep, hsz, q⟩
  | str z => exact call_repr gd hr pins s σ H _ us Q I r ⟨_, _, rfl, .str z, hs, hdep, hsz, q⟩
  | lst e h =>
    obtain ⟨as, rd, no⟩ := Dq.reads n sm I _ _ us.head! (.lst e h) (by cases r with | cons a b => cases b; exact a)
    cases r with
    | cons a b => cases b; cases a; exact whole rd no
  | tup e h =>
    obtain ⟨as, rd, no⟩ := Dq.reads n sm I _ _ us.head! (.tup e h) (by cases r with | cons a b => cases b; exact a)
    cases r with
    | cons a b => cases b; cases a; exact whole rd no
  | dic e h =>
    obtain ⟨as, rd, no⟩ := Dq.reads n sm I _ _ us.head! (.dic e h) (by cases r with | cons a b => cases b; exact a)
    cases r with
    | cons a b => cases b; cases a; exact whole rd no
end My

set_option maxRecDepth 100000
set_option maxHeartbeats 1000000
/-! repr in the suite of a clause. -/
namespace My
open PySem PySem.Spec PyProof.Rows L2 GxR Gd TL
theorem call_reprH {X : Cx} (gd : X.A.guards = some []) (hun : X.A.units + 200 < cLine) : CallR X (.builtin "repr") (rRepr X.K) := by
  intro pins s σ H xs us Q I r h
  obtain ⟨v, d, rfl, dp, hs, hdep, hsz, q⟩ := h
  cases r with
  | cons rv rn =>
    cases rn
    cases dp with
    | non =>
      cases rv
      refine PySem.P.repr_of_none ⟨.str _, H, I.tok _, ⟨_, rfl⟩, ?_⟩
      simpa only [PyData.shown] using q
    | bl b =>
      cases rv
      refine PySem.P.repr_of_bool ⟨.str _, H, I.tok _, ⟨_, rfl⟩, ?_⟩
      simpa only [PyData.shown] using q
    | int i =>
      obtain ⟨t, rfl⟩ := rv
      refine PySem.P.repr_of_int (by simpa [PyData.showable] using hs) ⟨.str _, H, I.tok _, ⟨_, rfl⟩, ?_⟩
      simpa only [PyData.shown] using q
    | str z =>
      obtain ⟨t, rfl⟩ := rv
      refine PySem.P.repr_of_str ⟨.str _, H, I.tok _, ⟨_, rfl⟩, ?_⟩ (by simpa only [PyData.shown] using hsz)
      simpa only [PyData.shown] using q
    | lst hl ha =>
      cases rv
      obtain ⟨as, rd⟩ := Dp.reads I _ _ _ (.lst hl ha) rfl
      refine repr_of_reads' rd hs (PyData.noDict_hsm (dp_noDict (.lst hl ha))) gd (by omega) (fun _ _ z => z) (fun h' u tk hk => ?_) hsz
      exact ⟨.str _, H, I.kept hk, ⟨_, rfl⟩, q⟩
    | tup hl ha =>
      cases rv
      obtain ⟨as, rd⟩ := Dp.reads I _ _ _ (.tup hl ha) rfl
      refine repr_of_reads' rd hs (PyData.noDict_hsm (dp_noDict (.tup hl ha))) gd (by omega) (fun _ _ z => z) (fun h' u tk hk => ?_) hsz
      exact ⟨.str _, H, I.kept hk, ⟨_, rfl⟩, q⟩
theorem call_reprQH {X : Cx} (n : X.K.lookup sysModules = none) (gd : X.A.guards = some []) (hun : X.A.units + 200 < cLine) : CallR X (.builtin "repr") (rReprQ X.K) := by
  rintro pins s σ H xs us Q I r ⟨v, d, rfl, sm, dq, hs, hdep, hsz, q⟩
  have whole : ∀ {a : Addr} {as : List Addr}, Reads s.heap (.ref a) d as → sysModules ∉ as → wpAny (model X.prog X.w) X.A (call (.builtin "repr") [.ref a]) (EP X pins σ Q) X.xe s := by
    intro a as rd no
    exact repr_of_reads' rd hs (fun _ => no) gd (by omega) (fun _ _ z => z) (fun h' u tk hk => ⟨.str _, H, I.kept hk, ⟨_, rfl⟩, q⟩) hsz
  cases dq with
  | non => exact call_reprH gd hun pins s σ H _ us Q I r ⟨_, _, rfl, .non, hs, hdep, hsz, q⟩
  | bl b => exact call_reprH gd hun pins s σ H _ us Q I r ⟨_, _, rfl, .bl b, hs, hdep, hsz, q⟩
  | int i => exact call_reprH gd hun pins s σ H _ us Q I r ⟨_, _, rfl, .int i, hs, hdep, hsz, q⟩
  | str z => exact call_reprH gd hun pins s σ H _ us Q I r ⟨_, _, rfl, .str z, hs, hdep, hsz, q⟩
  | lst e h =>
    obtain ⟨as, rd, no⟩ := Dq.reads n sm I _ _ us.head! (.lst e h) (by cases r with | cons a b => cases b; exact a)
    cases r with
    | cons a b => cases b; cases a; exact whole rd no
  | tup e h =>
    obtain ⟨as, rd, no⟩ := Dq.reads n sm I _ _ us.head! (.tup e h) (by cases r with | cons a b => cases b; exact a)
    cases r with
    | cons a b => cases b; cases a; exact whole rd no
  | dic e h =>
    obtain ⟨as, rd, no⟩ := Dq.reads n sm I _ _ us.head! (.dic e h) (by cases r with | cons a b => cases b; exact a)
    cases r with
    | cons a b => cases b; cases a; exact whole rd no
theorem call_reprK {X : Cx} {K : PySem.W.Frag} (e : X.K = K) (n : K.lookup sysModules = none) (gd : X.A.guards = some []) (hun : X.A.units + 200 < cLine) : CallR X (.builtin "repr") (rReprQ K) := by
  subst e
  exact call_reprQH n gd hun
theorem isiK {X : Cx} {K : PySem.W.Frag} (h : X.K = K) : CallR X (.builtin "isinstance") (rIsi K) := h ▸ call_isi
end My

set_option maxRecDepth 100000
set_option maxHeartbeats 3200000
namespace E9
open PySem PySem.Spec PyProof.Rows L2 GxR Gd TL My
/-- what a heap has that another has not -/
def fresh (H H' : Hp) : Hp := fun c => match H c with | none => H' c | some _ => none
theorem fresh_of {H H' : Hp} {p : Addr} (h : H p = none) : fresh H H' p = H' p := by
  unfold fresh
  rw [h]
theorem fresh_some {H H' : Hp} {p : Addr} {o : HO} (h : fresh H H' p = some o) : H p = none ∧ H' p = some o := by
  cases e : H p with
  | none => rw [fresh_of e] at h; exact ⟨rfl, h⟩
  | some u => unfold fresh at h; rw [e] at h; cases h
/-- a thing and its data, all in the heap F -/
inductive Thing (K : PySem.W.Frag) (F : Hp) : V → PyData → Prop
  | non : Thing K F .non .none
  | bl (b : Bool) : Thing K F (.bl b) (.bool b)
  | int (i : Int) : Thing K F (.int i) (.int i)
  | str (z : Str) : Thing K F (.str z) (.str z)
  | tup {p : Addr} {xs : List V} {ds : List PyData} (e : F p = some (.tup xs)) (h : DqAll K F xs ds) : Thing K F (.ref p) (.tuple ds)
  | lst {p : Addr} {xs : List V} {ds : List PyData} (e : F p = some (.lst xs)) (h : DqAll K (hide p F) xs ds) : Thing K F (.ref p) (.list ds)
  | dic {p : Addr} {kvs : List (Key × V)} {ds : List (PyData × PyData)} (e : F p = some (.dK kvs)) (h : DqKv K (hide p F) kvs ds) : Thing K F (.ref p) (.dict ds)
def shapes (n : Int) : List PyData := [.none, .bool true, .int n, .str (Str.ofString "none"), .str (Str.ofString ""), .list [.int n], .tuple [.int n, .str (Str.ofString "a")], .dict [(.str (Str.ofString "a"), .list [.int n])], .list [.list [], .list [.int 1]], .int (0 - n), .list [], .dict []]
theorem disp_one {σ : L2.St} {H : Hp} {G : VK} {x : V} (hx : σ[1]? = some (some x)) (k : ∀ p q H', Same H H' → H p = none → H q = none → q ≠ p → H' p = some (.dK [(.inr (Str.ofString "a"), .ref q)]) → H' q = some (.lst [x]) → G (.ref p) H') :
    tDisp [(tC (V.str (Str.ofString "a")), tLst (tCons (tVar 1) tNil))] σ H G := by
  intro p hp
  refine ⟨_, hx, by rw [sizeLine_eq]; show 1 ≤ 16777216; decide, fun q hq => ?_⟩
  have qp : q ≠ p := fun e => by rw [e, upd_same] at hq; cases hq
  have hq0 : H q = none := by rw [upd_ne qp] at hq; exact hq
  refine ⟨by rw [upd_ne (Ne.symm qp)]; exact upd_same, [(.inr (Str.ofString "a"), .ref q)], rfl, by show 1 ≤ 15; decide, ?_⟩
  refine k p q _ (fun c o e => ?_) hp hq0 qp upd_same (by rw [upd_ne qp]; exact upd_same)
  have cp : c ≠ p := ne_of_none e hp
  have cq : c ≠ q := ne_of_none e hq0
  rw [upd_ne cp, upd_ne cq, upd_ne cp]
  exact e
section
variable {P : Program} {w : World} {K : PySem.W.Frag} {mg : Str → Option Value} {base : Heap}
abbrev s_law_thing : Stmt := top 53
theorem sc_law_thing : FnScope ["_law_box_here", "_law_number", "_law_some"] ["_law_box_here"] (defScope s_law_thing) := ⟨rfl, rfl, rfl, by decide +kernel, rfl, by decide +kernel, by decide +kernel⟩
def spThing (K : PySem.W.Frag) : Sp := fun vs H Q _ => ∃ (b : Addr) (n : Int), vs = [.ref b] ∧ Bx b n H ∧ n ≤ 1000 ∧ ∀ v d (m : Int) H', 0 ≤ m → m < 10 ^ 29 → d ∈ shapes m → Thing K (fresh H H') v d → KB b H H' → Bx b (n + 2) H' → Q v H'
theorem ok_thing {f ft : Addr} {fd fdt : FuncData} (F : Fun K "_law_thing" "_law_thing" s_law_thing f fd) (T : Txt mg)
    (Nlaw_take : Fn K mg "_law_take" sTake ["_law_box_here", "_law_many"] ft fdt) (Glaw_take : FnOk P w K mg base CX0 1 ft fdt ["_law_box_here", "_law_many"] spTake) : FnOk P w K mg base CX0 2 f fd ["_law_box_here"] (spThing K) := by
  refine F.ok sc_law_thing (fun vs H Q E h => ?_) (fun cdv A outer s H vs Q E hr h => ?_)
  · obtain ⟨b, n, rfl, _⟩ := h
    rfl
  · obtain ⟨b, n, rfl, hb, hn, k⟩ := h
    refine ⟨_, pss_cons (ps_set (i := 1) sc_law_thing.nd rfl (Or.inl rfl) (pe_call Glaw_take (hr.mono (by decide)) (by rfl) Nlaw_take.g Nlaw_take.kp Nlaw_take.b .nil pass0 (pa_cons (pv 0) (pa_cons (pe_op op_pow pe_int pe_int) pa_nil))))
      (pss_cons (ps_set (i := 2) sc_law_thing.nd rfl (Or.inl rfl) (pe_lst (pa_cons pe_non (pa_cons pe_bl (pa_cons (pv 1) (pa_cons pe_str (pa_cons pe_str (pa_cons (pe_lst (pa_cons (pv 1) pa_nil)) (pa_cons (pe_tup (pa_cons (pv 1) (pa_cons pe_str pa_nil))) (pa_cons (pe_disp (pps_cons pe_str (pe_lst (pa_cons (pv 1) pa_nil)) pps_nil) (by rfl) (by rfl) (fun z => by cases z) (by decide)) (pa_cons (pe_lst (pa_cons (pe_lst pa_nil) (pa_cons (pe_lst (pa_cons pe_int pa_nil)) pa_nil))) (pa_cons (pe_op op_sub pe_int (pv 1)) (pa_cons (pe_lst pa_nil) (pa_cons pe_dnewK pa_nil))))))))))))))
      (pss_one (ps_ret (pe_ix (ixLK (K := K) rfl) (pv 2) (pe_call Glaw_take (hr.mono (by decide)) (by rfl) Nlaw_take.g Nlaw_take.kp Nlaw_take.b .nil pass0 (pa_cons (pv 0) (pa_cons pe_int pa_nil))) (fun _ _ => rfl))))), ?_⟩
    generalize hσ : L2.start _ _ = σ0
    obtain rfl : σ0 = [some (.ref b), none, none] := hσ.symm.trans rfl
    rw [tSeq, tAsg]
    refine ⟨_, rfl, _, _, rfl, rfl, ⟨by decide, by decide⟩, b, _, n, rfl, hb, by omega, by decide, by decide +kernel, fun m H1 m0 m1 o1 B1 => ?_⟩
    dsimp only [gName, List.set_cons_succ, List.set_cons_zero]
    rw [tSeq, tAsg]
    refine ⟨_, rfl, _, rfl, by rw [sizeLine_eq]; show 1 ≤ 16777216; decide, fun p5 n5 => ?_⟩
    have s5 : Same H1 (upd H1 p5 (.lst [.int m])) := same_alloc n5
    have e5 : (upd H1 p5 (.lst [.int m])) p5 = some (.lst [.int m]) := upd_same
    generalize upd H1 p5 (.lst [.int m]) = H5 at s5 e5 ⊢
    refine ⟨_, rfl, by rw [sizeLine_eq]; show 2 ≤ 16777216; decide, fun p6 n6 => ?_⟩
    have s6 : Same H5 (upd H5 p6 (.tup [.int m, .str (Str.ofString "a")])) := same_alloc n6
    have e6 : (upd H5 p6 (.tup [.int m, .str (Str.ofString "a")])) p6 = some (.tup [.int m, .str (Str.ofString "a")]) := upd_same
    generalize upd H5 p6 (.tup [.int m, .str (Str.ofString "a")]) = H6 at s6 e6 ⊢
    refine disp_one rfl fun p7 q7 H7 s7 n7 nq7 d7 e7 f7 => ?_
    refine ⟨by rw [sizeLine_eq]; show 0 ≤ 16777216; decide, fun pa na => ?_⟩
    have sa : Same H7 (upd H7 pa (.lst [])) := same_alloc na
    have ea : (upd H7 pa (.lst [])) pa = some (.lst []) := upd_same
    generalize upd H7 pa (.lst []) = Ha at sa ea ⊢
    refine ⟨by rw [sizeLine_eq]; show 1 ≤ 16777216; decide, fun pb nb => ?_⟩
    have sb : Same Ha (upd Ha pb (.lst [.int 1])) := same_alloc nb
    have eb : (upd Ha pb (.lst [.int 1])) pb = some (.lst [.int 1]) := upd_same
    generalize upd Ha pb (.lst [.int 1]) = Hb at sb eb ⊢
    refine ⟨by rw [sizeLine_eq]; show 2 ≤ 16777216; decide, fun p8 n8 => ?_⟩
    have s8 : Same Hb (upd Hb p8 (.lst [.ref pa, .ref pb])) := same_alloc n8
    have e8 : (upd Hb p8 (.lst [.ref pa, .ref pb])) p8 = some (.lst [.ref pa, .ref pb]) := upd_same
    generalize upd Hb p8 (.lst [.ref pa, .ref pb]) = H8 at s8 e8 ⊢
    refine ⟨_, rfl, _, _, rfl, rfl, by rw [sizeLine_eq]; show 0 ≤ 16777216; decide, fun p10 n10 => ?_⟩
    have s10 : Same H8 (upd H8 p10 (.lst [])) := same_alloc n10
    have e10 : (upd H8 p10 (.lst [])) p10 = some (.lst []) := upd_same
    generalize upd H8 p10 (.lst []) = H10 at s10 e10 ⊢
    refine fun p11 n11 => ?_
    have s11 : Same H10 (upd H10 p11 (.dK [])) := same_alloc n11
    have e11 : (upd H10 p11 (.dK [])) p11 = some (.dK []) := upd_same
    generalize upd H10 p11 (.dK []) = H11 at s11 e11 ⊢
    refine ⟨by rw [sizeLine_eq]; show 12 ≤ 16777216; decide, fun pL nL => ?_⟩
    have sL : Same H11 (upd H11 pL (.lst [.non, .bl true, .int m, .str (Str.ofString "none"), .str (Str.ofString ""), .ref p5, .ref p6, .ref p7, .ref p8, .int (0 - m), .ref p10, .ref p11])) := same_alloc nL
    have eL : (upd H11 pL (.lst [.non, .bl true, .int m, .str (Str.ofString "none"), .str (Str.ofString ""), .ref p5, .ref p6, .ref p7, .ref p8, .int (0 - m), .ref p10, .ref p11])) pL = some (.lst [.non, .bl true, .int m, .str (Str.ofString "none"), .str (Str.ofString ""), .ref p5, .ref p6, .ref p7, .ref p8, .int (0 - m), .ref p10, .ref p11]) := upd_same
    dsimp only [gName, List.set_cons_succ, List.set_cons_zero]
    generalize upd H11 pL (.lst [.non, .bl true, .int m, .str (Str.ofString "none"), .str (Str.ofString ""), .ref p5, .ref p6, .ref p7, .ref p8, .int (0 - m), .ref p10, .ref p11]) = HL at sL eL ⊢
    have t11 := same_trans s11 sL
    have t10 := same_trans s10 t11
    have t8 := same_trans s8 t10
    have tb := same_trans sb t8
    have ta := same_trans sa tb
    have t7 := same_trans s7 ta
    have t6 := same_trans s6 t7
    have t5 := same_trans s5 t6
    have m6 := same_free s5 n6
    have u6 := same_trans s5 s6
    have m7 := same_free u6 n7
    have mq7 := same_free u6 nq7
    have u7 := same_trans u6 s7
    have ma := same_free u7 na
    have ua := same_trans u7 sa
    have mb := same_free ua nb
    have ub := same_trans ua sb
    have m8 := same_free ub n8
    have u8 := same_trans ub s8
    have m10 := same_free u8 n10
    have u10 := same_trans u8 s10
    have m11 := same_free u10 n11
    have u11 := same_trans u10 s11
    obtain ⟨x, y, z, hb1, _⟩ := id B1
    have pLb : pL ≠ b := fun e => by rw [e, u11 _ _ hb1] at nL; cases nL
    have a8 : pa ≠ p8 := ne_of_none (sb _ _ ea) n8
    have b8 : pb ≠ p8 := ne_of_none eb n8
    refine ⟨_, rfl, _, rfl, b, 12, n + 1, rfl, B1.same ((t5 _ _ hb1).trans hb1.symm), by omega, by decide, by decide +kernel, fun d H12 d0 d1 o2 B2 => ?_⟩
    have fl : ∀ p o, H1 p = none → HL p = some o → fresh H H12 p = some o := fun p o h e => by
      have pb : p ≠ b := fun q => by rw [q, hb1] at h; cases h
      rw [fresh_of (by rw [← o1 p pb]; exact h), o2 p pb]
      exact e
    have g5 := fl _ _ n5 (t6 _ _ e5)
    have g6 := fl _ _ m6 (t7 _ _ e6)
    have g7 := fl _ _ m7 (ta _ _ e7)
    have gq := fl _ _ mq7 (ta _ _ f7)
    have ga := fl _ _ ma (tb _ _ ea)
    have gb := fl _ _ mb (t8 _ _ eb)
    have g8 := fl _ _ m8 (t10 _ _ e8)
    have g10 := fl _ _ m10 (t11 _ _ e10)
    have g11 := fl _ _ m11 (sL _ _ e11)
    have lL : SqL K H12 pL _ := SqL.of ((o2 _ pLb).trans eL)
    have kb : KB b H H12 := fun c o nc e => by rw [o2 c nc]; exact t5 _ _ (by rw [o1 c nc]; exact e)
    have B3 : Bx b (n + 2) H12 := B2.mono (by omega)
    clear o1 o2 s5 s6 s7 sa sb s8 s10 s11 sL t5 t6 t7 ta tb t8 t10 t11 u6 u7 ua ub u8 u10 u11 fl
    have dd : d = 0 ∨ d = 1 ∨ d = 2 ∨ d = 3 ∨ d = 4 ∨ d = 5 ∨ d = 6 ∨ d = 7 ∨ d = 8 ∨ d = 9 ∨ d = 10 ∨ d = 11 := by omega
    rcases dd with rfl | rfl | rfl | rfl | rfl | rfl | rfl | rfl | rfl | rfl | rfl | rfl
    · exact ⟨pL, _, 0, _, rfl, rfl, lL, rfl, k _ _ m H12 m0 m1 (List.mem_of_getElem? (i := 0) rfl) .non kb B3⟩
    · exact ⟨pL, _, 1, _, rfl, rfl, lL, rfl, k _ _ m H12 m0 m1 (List.mem_of_getElem? (i := 1) rfl) (.bl true) kb B3⟩
    · exact ⟨pL, _, 2, _, rfl, rfl, lL, rfl, k _ _ m H12 m0 m1 (List.mem_of_getElem? (i := 2) rfl) (.int m) kb B3⟩
    · exact ⟨pL, _, 3, _, rfl, rfl, lL, rfl, k _ _ m H12 m0 m1 (List.mem_of_getElem? (i := 3) rfl) (.str _) kb B3⟩
    · exact ⟨pL, _, 4, _, rfl, rfl, lL, rfl, k _ _ m H12 m0 m1 (List.mem_of_getElem? (i := 4) rfl) (.str _) kb B3⟩
    · exact ⟨pL, _, 5, _, rfl, rfl, lL, rfl, k _ _ m H12 m0 m1 (List.mem_of_getElem? (i := 5) rfl) (.lst g5 (.cons (.int m) .nil)) kb B3⟩
    · exact ⟨pL, _, 6, _, rfl, rfl, lL, rfl, k _ _ m H12 m0 m1 (List.mem_of_getElem? (i := 6) rfl) (.tup g6 (.cons (.int m) (.cons (.str _) .nil))) kb B3⟩
    · exact ⟨pL, _, 7, _, rfl, rfl, lL, rfl, k _ _ m H12 m0 m1 (List.mem_of_getElem? (i := 7) rfl) (.dic g7 (.cons (.lst (SqL.of ((hide_ne d7).trans gq)) (.cons (.int m) .nil)) .nil)) kb B3⟩
    · exact ⟨pL, _, 8, _, rfl, rfl, lL, rfl, k _ _ m H12 m0 m1 (List.mem_of_getElem? (i := 8) rfl) (.lst g8 (.cons (.lst (SqL.of ((hide_ne a8).trans ga)) .nil) (.cons (.lst (SqL.of ((hide_ne b8).trans gb)) (.cons (.int 1) .nil)) .nil))) kb B3⟩
    · exact ⟨pL, _, 9, _, rfl, rfl, lL, rfl, k _ _ m H12 m0 m1 (List.mem_of_getElem? (i := 9) rfl) (.int (0 - m)) kb B3⟩
    · exact ⟨pL, _, 10, _, rfl, rfl, lL, rfl, k _ _ m H12 m0 m1 (List.mem_of_getElem? (i := 10) rfl) (.lst g10 .nil) kb B3⟩
    · exact ⟨pL, _, 11, _, rfl, rfl, lL, rfl, k _ _ m H12 m0 m1 (List.mem_of_getElem? (i := 11) rfl) (.dic g11 .nil) kb B3⟩
end
end E9

set_option maxRecDepth 100000
set_option maxHeartbeats 3200000
/-! A thing's data, where it lies and after it got one thing more. -/
namespace E9
open PySem PySem.Spec PyProof.Rows L2 GxR Gd TL My
theorem hide_same (p : Addr) (F : Hp) : Same (hide p F) F := fun c o h => (hide_some h).2
mutual
theorem kv_same {K : PySem.W.Frag} {H H' : Hp} (s : Same H H') : ∀ {kvs : List (Key × V)} {ds : List (PyData × PyData)}, DqKv K H kvs ds → DqKv K H' kvs ds
  | _, _, .nil => .nil
  | _, _, .cons h t => .cons (h.same s) (kv_same s t)
end
theorem Thing.dq {K : PySem.W.Frag} {F : Hp} {v : V} {d : PyData} (h : Thing K F v d) : Dq K F v d := by
  cases h with
  | non => exact .non
  | bl b => exact .bl b
  | int i => exact .int i
  | str z => exact .str z
  | tup e h => exact .tup (SqT.of e) h
  | lst e h => exact .lst (SqL.of e) (h.same (hide_same _ _))
  | dic e h => exact .dic e (kv_same (hide_same _ _) h)
theorem dqAll_app {K : PySem.W.Frag} {H : Hp} : ∀ {vs us : List V} {ds es : List PyData}, DqAll K H vs ds → DqAll K H us es → DqAll K H (vs ++ us) (ds ++ es)
  | _, _, _, _, .nil, g => g
  | _, _, _, _, .cons h t, g => .cons h (dqAll_app t g)
theorem dqKv_app {K : PySem.W.Frag} {H : Hp} : ∀ {vs us : List (Key × V)} {ds es : List (PyData × PyData)}, DqKv K H vs ds → DqKv K H us es → DqKv K H (vs ++ us) (ds ++ es)
  | _, _, _, _, .nil, g => g
  | _, _, _, _, .cons h t, g => .cons h (dqKv_app t g)
/-- a list with a text more: what lies apart from it stays -/
theorem lst_more {K : PySem.W.Frag} {F G : Hp} {p : Addr} {xs : List V} {ds : List PyData} (h : DqAll K (hide p F) xs ds) (s : Same (hide p F) G) (z : Str) (e : G p = some (.lst (xs ++ [.str z]))) : Dq K G (.ref p) (.list (ds ++ [.str z])) :=
  .lst (SqL.of e) (dqAll_app (h.same s) (.cons (.str z) .nil))
/-- a dict with a number more -/
theorem dic_more {K : PySem.W.Frag} {F G : Hp} {p : Addr} {kvs : List (Key × V)} {ds : List (PyData × PyData)} (h : DqKv K (hide p F) kvs ds) (s : Same (hide p F) G) (z : Str) (i : Int) (e : G p = some (.dK (kvs ++ [(.inr z, .int i)]))) : Dq K G (.ref p) (.dict (ds ++ [(.str z, .int i)])) :=
  .dic e (dqKv_app (kv_same s h) (.cons (k := .inr z) (.int i) .nil))
/-- two things made one after the other lie apart -/
theorem fresh_apart {H H1 H2 : Hp} (s : ∀ c o, H c = some o → ∃ u, H1 c = some u) {p q : Addr} {o u : HO} (hp : fresh H H1 p = some o) (hq : fresh H1 H2 q = some u) : p ≠ q := fun e => by
  have a := (fresh_some hp).2
  have b := (fresh_some hq).1
  rw [e, b] at a
  cases a
end E9

set_option maxRecDepth 100000
set_option maxHeartbeats 400000
/-! Names wiped behind a comprehension. -/
namespace My
open PySem PySem.Spec PyProof.Rows L2 GxR Gd TL
theorem wipe_set_out {σ : L2.St} {i : Nat} {x : Option V} : ∀ {vs : List Nat}, i ∉ vs → wipe (σ.set i x) vs = (wipe σ vs).set i x
  | [], _ => rfl
  | v :: vs, h => by
    simp only [List.mem_cons, not_or] at h
    show (wipe (σ.set i x) vs).set v none = ((wipe σ vs).set v none).set i x
    rw [wipe_set_out h.2, List.set_comm _ _ h.1]
theorem wipe_set {σ : L2.St} {i : Nat} {x : Option V} : ∀ {vs : List Nat}, i ∈ vs → wipe (σ.set i x) vs = wipe σ vs
  | [], h => by cases h
  | v :: vs, h => by
    show (wipe (σ.set i x) vs).set v none = (wipe σ vs).set v none
    by_cases q : i ∈ vs
    · rw [wipe_set q]
    · have e : i = v := by
        rcases List.mem_cons.mp h with e | e
        · exact e
        · exact absurd e q
      subst e
      rw [wipe_set_out q, List.set_set]
theorem wipe_wipe {σ : L2.St} : ∀ {us vs : List Nat}, (∀ u ∈ us, u ∈ vs) → wipe (wipe σ us) vs = wipe σ vs
  | [], _, _ => rfl
  | u :: us, vs, h => by
    show wipe ((wipe σ us).set u none) vs = _
    rw [wipe_set (h u (by simp)), wipe_wipe fun x hx => h x (by simp [hx])]
theorem wipe1 {σ : L2.St} {vs : List Nat} {i : Nat} {a : Option V} (hi : i ∈ vs) : wipe ((wipe σ vs).set i a) vs = wipe σ vs := by
  rw [wipe_set hi, wipe_wipe fun _ h => h]
theorem wipe2 {σ : L2.St} {vs : List Nat} {i j : Nat} {a b : Option V} (hi : i ∈ vs) (hj : j ∈ vs) : wipe (((wipe σ vs).set i a).set j b) vs = wipe σ vs := by
  rw [wipe_set hj, wipe_set hi, wipe_wipe fun _ h => h]
theorem wipe3 {σ : L2.St} {vs : List Nat} {i j k : Nat} {a b c : Option V} (hi : i ∈ vs) (hj : j ∈ vs) (hk : k ∈ vs) : wipe ((((wipe σ vs).set i a).set j b).set k c) vs = wipe σ vs := by
  rw [wipe_set hk, wipe_set hj, wipe_set hi, wipe_wipe fun _ h => h]
theorem wipe4 {σ : L2.St} {vs : List Nat} {i j k l : Nat} {a b c d : Option V} (hi : i ∈ vs) (hj : j ∈ vs) (hk : k ∈ vs) (hl : l ∈ vs) : wipe (((((wipe σ vs).set i a).set j b).set k c).set l d) vs = wipe σ vs := by
  rw [wipe_set hl, wipe_set hk, wipe_set hj, wipe_set hi, wipe_wipe fun _ h => h]
end My

set_option maxRecDepth 100000
set_option maxHeartbeats 3200000
/-! [at == k for k in range(n)], and what it is beside the kinds of an exception. -/
namespace E9
open PySem PySem.Spec PyProof.Rows L2 GxR Gd TL My
/-- the truths j = 0, j = 1, .. -/
def eqL (j n : Nat) : List V := (List.range n).map fun k : Nat => .bl (decide (V.int (j : Int) = V.int ((0 : Int) + (k : Int))))
theorem eqs_it {σ : L2.St} {H : Hp} {j n : Nat} {D : Addr} {Qd : Hp → Prop} (h4 : σ[4]? = some (some (.int (j : Int)))) (h8 : 8 < σ.length) (hn : n ≤ 100) (hD : H D = none) (hd : ∀ H', Same H H' → H' D = some (.lst (eqL j n)) → Qd H') :
    ∃ W : Nat → Nat → Hp → Prop, (∃ m, W 0 m (upd H D (.lst []))) ∧ ∀ i m H', W i m H' → ((Itr 0 n).stop i H' ∧ Qd H') ∨ ((Itr 0 n).go i H' ∧ ∃ Nx : Hp → Prop, (∀ H'', Nx H'' → ∃ m', m' < m ∧ W (i + 1) m' H'') ∧ ∀ x H'', (Itr 0 n).yld i H' x H'' → gName 8 x (wipe σ [8]) H'' fun σ2 H2 => wipe σ2 [8] = wipe σ [8] ∧ tYes σ2 H2 fun b H3 =>
      if b = true then tOp rEq (tVar 4) (tVar 8) σ2 H3 fun y H4 => ∃ acc, H4 D = some (.lst acc) ∧ acc.length < sizeLine ∧ Nx (upd H4 D (.lst (acc ++ [y]))) else Nx H3) := by
  refine lc_it walk_range (fun i H' => Same H H' ∧ H' D = some (.lst (eqL j i))) ⟨same_alloc hD, upd_same⟩ (fun _ _ _ _ => trivial) ?_ ?_
  · rintro i v H' H'' hi ⟨s, e⟩ ⟨rfl, rfl⟩
    refine ⟨wipe1 (by simp), ?_⟩
    rw [tYes, if_pos rfl]
    have g4 : ((wipe σ [8]).set 8 (some (.int ((0 : Int) + (i : Int)))))[4]? = some (some (.int (j : Int))) := by
      rw [List.getElem?_set_ne (by decide)]
      show (σ.set 8 none)[4]? = _
      rw [List.getElem?_set_ne (by decide)]
      exact h4
    have g8 : ((wipe σ [8]).set 8 (some (.int ((0 : Int) + (i : Int)))))[8]? = some (some (.int ((0 : Int) + (i : Int)))) := by
      rw [List.getElem?_set_self (by rw [wipe_length]; exact h8)]
    refine ⟨_, g4, _, g8, rfl, _, e, ?_, fun c o h => by rw [upd_ne (ne_of_none h hD)]; exact s c o h, ?_⟩
    · unfold eqL
      rw [List.length_map, List.length_range, sizeLine_eq]
      omega
    · unfold eqL
      rw [List.range_succ, List.map_append]
      exact upd_same
  · rintro H' ⟨s, e⟩
    exact hd H' s e
/-- data of truths -/
theorem dp_bls {K : PySem.W.Frag} {H : Hp} : ∀ bs : List Bool, DpAll K H (bs.map V.bl) (bs.map PyData.bool)
  | [] => .nil
  | b :: r => .cons (.bl b) (dp_bls r)
/-- the j-th of addresses that are apart, beside all of them -/
theorem eqL_at {Cs : List Addr} (nd : Cs.Nodup) {j : Nat} {C : Addr} (h : Cs[j]? = some C) : (Cs.map fun D => V.bl (decide (C = D))) = eqL j Cs.length := by
  apply List.ext_getElem?
  intro i
  unfold eqL
  rw [List.getElem?_map, List.getElem?_map]
  by_cases hi : i < Cs.length
  · rw [List.getElem?_eq_getElem hi, List.getElem?_range hi]
    obtain ⟨hj, rfl⟩ := List.getElem?_eq_some_iff.mp h
    have : (Cs[j] = Cs[i]) ↔ (V.int (j : Int) = V.int ((0 : Int) + (i : Int))) := by
      rw [List.getElem_inj nd]
      constructor
      · rintro rfl
        rw [Int.zero_add]
      · intro e
        have := V.int.inj e
        omega
    simp only [Option.map_some]
    rw [decide_eq_decide.mpr this]
  · rw [List.getElem?_eq_none (by omega), List.getElem?_eq_none (by rw [List.length_range]; omega)]
    rfl
end E9

set_option maxRecDepth 100000
set_option maxHeartbeats 3200000
/-! [y for e in a list], y a variable of the def. -/
namespace E9
open PySem PySem.Spec PyProof.Rows L2 GxR Gd TL My
theorem same_it {K : PySem.W.Frag} {σ : L2.St} {a : Addr} {us : List V} {H : Hp} {y : V} {D : Addr} {Qd : Hp → Prop} (h1 : σ[1]? = some (some y)) (hD : H D = none) (ha : H a = some (.lst us)) (h100 : us.length ≤ 100)
    (hd : ∀ H', Same H H' → H' D = some (.lst (List.replicate us.length y)) → Qd H') :
    ∃ W : Nat → Nat → Hp → Prop, (∃ m, W 0 m (upd H D (.lst []))) ∧ ∀ i m H', W i m H' → ((Itl K a).stop i H' ∧ Qd H') ∨ ((Itl K a).go i H' ∧ ∃ Nx : Hp → Prop, (∀ H'', Nx H'' → ∃ m', m' < m ∧ W (i + 1) m' H'') ∧ ∀ x H'', (Itl K a).yld i H' x H'' → gName 7 x (wipe σ [7]) H'' fun σ2 H2 => wipe σ2 [7] = wipe σ [7] ∧ tYes σ2 H2 fun b H3 =>
      if b = true then tVar 1 σ2 H3 fun y H4 => ∃ acc, H4 D = some (.lst acc) ∧ acc.length < sizeLine ∧ Nx (upd H4 D (.lst (acc ++ [y]))) else Nx H3) := by
  refine lc_it (walk_list (K := K) (xs := us)) (fun i H' => Same H H' ∧ H' D = some (.lst (List.replicate i y))) ⟨same_alloc hD, upd_same⟩ (fun i H' _ h => SqL.of (h.1 _ _ ha)) ?_ ?_
  · rintro i v H' H'' hi ⟨s, e⟩ ⟨rfl, hv⟩
    refine ⟨wipe1 (by simp), ?_⟩
    rw [tYes, if_pos rfl]
    have g1 : ((wipe σ [7]).set 7 (some v))[1]? = some (some y) := by
      rw [List.getElem?_set_ne (by decide)]
      show (σ.set 7 none)[1]? = _
      rw [List.getElem?_set_ne (by decide)]
      exact h1
    refine ⟨_, g1, _, e, ?_, fun c o h => by rw [upd_ne (ne_of_none h hD)]; exact s c o h, ?_⟩
    · rw [List.length_replicate, sizeLine_eq]
      omega
    · rw [List.replicate_succ']
      exact upd_same
  · rintro H' ⟨s, e⟩
    exact hd H' s e
end E9

set_option maxRecDepth 100000
set_option maxHeartbeats 400000
/-! small data: what repr asks of them -/
namespace My
open PySem PySem.Spec PyProof.Rows L2 GxR Gd TL
structure Sm (d : PyData) (k m : Nat) : Prop where
  lay : d.canLay0 = true
  dep : d.depth ≤ k
  wt : d.weight ≤ m
  ish : d.intsShort 13 = true
  sh : d.showable = true
theorem Sm.rep {d : PyData} {k m : Nat} (h : Sm d k m) (hk : k ≤ 64) (hm : m ≤ 2 ^ 20) : d.showable = true ∧ d.depth ≤ 100 ∧ d.shown.length ≤ sizeLine := by
  refine ⟨h.sh, Nat.le_trans h.dep (by omega), Nat.le_trans (shown_le13 ?_ h.ish) (by rw [sizeLine_eq]; decide)⟩
  unfold PyData.layable0
  rw [Bool.and_eq_true, Bool.and_eq_true, decide_eq_true_eq, decide_eq_true_eq]
  exact ⟨⟨h.lay, Nat.le_trans h.dep hk⟩, Nat.le_trans h.wt hm⟩
theorem Sm.mono {d : PyData} {k m k' m' : Nat} (h : Sm d k m) (hk : k ≤ k') (hm : m ≤ m') : Sm d k' m' := ⟨h.lay, Nat.le_trans h.dep hk, Nat.le_trans h.wt hm, h.ish, h.sh⟩
theorem sm_none : Sm .none 0 0 := ⟨rfl, Nat.le_refl 0, Nat.le_refl 0, rfl, rfl⟩
theorem sm_bool (b : Bool) : Sm (.bool b) 0 0 := ⟨rfl, Nat.le_refl 0, Nat.le_refl 0, rfl, rfl⟩
theorem sm_int {i : Int} (h : i.natAbs ≤ 1000) : Sm (.int i) 0 20 := by
  have hl : i.natAbs.log2 ≤ 10 := by
    by_cases z : i.natAbs = 0
    · rw [z]; decide
    · have : i.natAbs.log2 < 11 := (Nat.log2_lt z).mpr (by omega)
      omega
  refine ⟨rfl, Nat.le_refl 0, ?_, ?_, ?_⟩
  · unfold PyData.weight
    split
    · omega
    · omega
  · exact intsShort_of_noneOrIn (lo := -2000) (hi := 2000) (by decide) (by decide) (.int i) (by simp [noneOrIn]; omega)
  · unfold PyData.showable
    rw [decide_eq_true_eq]
    omega
theorem sm_str {z : Str} (g : Good z) (h : z.length ≤ 6) : Sm (.str z) 0 6 := by
  refine ⟨?_, Nat.le_refl 0, h, rfl, rfl⟩
  unfold PyData.canLay0
  unfold PyData.strOk
  rw [Array.all_eq_true_iff_forall_mem]
  intro c hc
  exact decide_eq_true (g c (Array.mem_toList_iff.mpr hc))
theorem sm_all {k m : Nat} : ∀ {ds : List PyData}, (∀ d ∈ ds, Sm d k m) → PyData.canLayAll0 ds = true ∧ PyData.depthAll ds ≤ k ∧ PyData.weightAll ds ≤ ds.length * (m + 1) ∧ PyData.intsShortAll 13 ds = true ∧ PyData.showableAll ds = true
  | [], _ => ⟨rfl, Nat.zero_le _, Nat.zero_le _, rfl, rfl⟩
  | d :: r, h => by
    obtain ⟨a1, a2, a3, a4, a5⟩ := sm_all (ds := r) fun x hx => h x (List.mem_cons_of_mem _ hx)
    have b := h d List.mem_cons_self
    refine ⟨?_, ?_, ?_, ?_, ?_⟩
    · unfold PyData.canLayAll0; rw [b.lay, a1]; rfl
    · unfold PyData.depthAll; exact Nat.max_le.mpr ⟨b.dep, a2⟩
    · unfold PyData.weightAll
      have := b.wt
      rw [List.length_cons, Nat.succ_mul]
      omega
    · unfold PyData.intsShortAll; rw [b.ish, a4]; rfl
    · unfold PyData.showableAll; rw [b.sh, a5]; rfl
theorem sm_list {k m : Nat} {ds : List PyData} (h : ∀ d ∈ ds, Sm d k m) : Sm (.list ds) (k + 1) (ds.length * (m + 1)) := by
  obtain ⟨a1, a2, a3, a4, a5⟩ := sm_all h
  exact ⟨by unfold PyData.canLay0; exact a1, by unfold PyData.depth; omega, by unfold PyData.weight; exact a3, by unfold PyData.intsShort; exact a4, by unfold PyData.showable; exact a5⟩
theorem sm_tuple {k m : Nat} {ds : List PyData} (h : ∀ d ∈ ds, Sm d k m) : Sm (.tuple ds) (k + 1) (ds.length * (m + 1)) := by
  obtain ⟨a1, a2, a3, a4, a5⟩ := sm_all h
  exact ⟨by unfold PyData.canLay0; exact a1, by unfold PyData.depth; omega, by unfold PyData.weight; exact a3, by unfold PyData.intsShort; exact a4, by unfold PyData.showable; exact a5⟩
theorem sm_dP {p : Str × Int} (g : Good p.1) (h : p.1.length ≤ 6) (hr : p.2.natAbs ≤ 1000) : Sm (dP p) 1 42 :=
  sm_tuple (k := 0) (m := 20) (ds := [.str p.1, .int p.2]) fun d hd => by
    simp only [List.mem_cons, List.not_mem_nil, or_false] at hd
    rcases hd with rfl | rfl
    · exact (sm_str g h).mono (Nat.le_refl 0) (by decide)
    · exact sm_int hr
theorem sm_names {a b : Str} (ha : NameOk a) (hb : NameOk b) : Sm (.tuple [.str a, .str b]) 1 14 :=
  sm_tuple (k := 0) (m := 6) (ds := [.str a, .str b]) fun d hd => by
    simp only [List.mem_cons, List.not_mem_nil, or_false] at hd
    rcases hd with rfl | rfl
    · exact sm_str ha.good ha.2.1
    · exact sm_str hb.good hb.2.1
end My

set_option maxRecDepth 100000
set_option maxHeartbeats 400000
/-! data with longer texts and numbers: what repr asks of them -/
namespace My
open PySem PySem.Spec PyProof.Rows L2 GxR Gd TL
structure Sb (d : PyData) (k m : Nat) : Prop where
  lv : d.leavesShort 40 = true
  dep : d.depth ≤ k
  wt : d.weight ≤ m
  sh : d.showable = true
theorem Sb.rep {d : PyData} {k m : Nat} (h : Sb d k m) (hk : k ≤ 100) (hm : m ≤ 390000) : d.showable = true ∧ d.depth ≤ 100 ∧ d.shown.length ≤ sizeLine := by
  refine ⟨h.sh, Nat.le_trans h.dep hk, ?_⟩
  have h1 := PyData.shown_le 40 (by decide) d h.lv
  have h2 := h.wt
  refine Nat.le_trans h1 (Nat.le_trans (m := 42 * 390000 + 40) (by omega) (by rw [sizeLine_eq]; decide))
theorem Sb.mono {d : PyData} {k m k' m' : Nat} (h : Sb d k m) (hk : k ≤ k') (hm : m ≤ m') : Sb d k' m' := ⟨h.lv, Nat.le_trans h.dep hk, Nat.le_trans h.wt hm, h.sh⟩
theorem sb_none : Sb .none 0 0 := ⟨rfl, Nat.le_refl 0, Nat.le_refl 0, rfl⟩
theorem sb_bool (b : Bool) : Sb (.bool b) 0 0 := ⟨rfl, Nat.le_refl 0, Nat.le_refl 0, rfl⟩
theorem text_int {i : Int} (h : i.natAbs < 10 ^ 31) : (Str.ofString (toString i)).length ≤ 32 := by
  have e := int_text_length_le10 (k := 31) (by decide) h
  rw [PySem.ofString_length]
  exact e
theorem sb_int {i : Int} (h : i.natAbs < 10 ^ 31) : Sb (.int i) 0 110 := by
  have hl : i.natAbs.log2 ≤ 109 := by
    by_cases z : i.natAbs = 0
    · rw [z]; decide
    · have : i.natAbs.log2 < 110 := (Nat.log2_lt z).mpr (Nat.lt_of_lt_of_le h (by decide))
      omega
  refine ⟨?_, Nat.le_refl 0, ?_, ?_⟩
  · unfold PyData.leavesShort
    rw [decide_eq_true_eq]
    exact Nat.le_trans (text_int h) (by decide)
  · unfold PyData.weight
    split <;> omega
  · unfold PyData.showable
    rw [decide_eq_true_eq]
    omega
theorem sb_str {z : Str} {m : Nat} (g : Good z) (h : z.length ≤ m) : Sb (.str z) 0 m := by
  refine ⟨?_, Nat.le_refl 0, h, rfl⟩
  unfold PyData.leavesShort
  rw [List.all_eq_true]
  intro c hc
  have := g c hc
  rw [decide_eq_true_eq]
  exact Nat.lt_trans this (by decide)
theorem sb_all {k m : Nat} : ∀ {ds : List PyData}, (∀ d ∈ ds, Sb d k m) → PyData.leavesShortAll 40 ds = true ∧ PyData.depthAll ds ≤ k ∧ PyData.weightAll ds ≤ ds.length * (m + 1) ∧ PyData.showableAll ds = true
  | [], _ => ⟨rfl, Nat.zero_le _, Nat.zero_le _, rfl⟩
  | d :: r, h => by
    obtain ⟨a1, a2, a3, a4⟩ := sb_all (ds := r) fun x hx => h x (List.mem_cons_of_mem _ hx)
    have b := h d List.mem_cons_self
    refine ⟨?_, ?_, ?_, ?_⟩
    · unfold PyData.leavesShortAll; rw [b.lv, a1]; rfl
    · unfold PyData.depthAll; exact Nat.max_le.mpr ⟨b.dep, a2⟩
    · unfold PyData.weightAll
      have := b.wt
      rw [List.length_cons, Nat.succ_mul]
      omega
    · unfold PyData.showableAll; rw [b.sh, a4]; rfl
theorem sb_list {k m : Nat} {ds : List PyData} (h : ∀ d ∈ ds, Sb d k m) : Sb (.list ds) (k + 1) (ds.length * (m + 1)) := by
  obtain ⟨a1, a2, a3, a4⟩ := sb_all h
  exact ⟨by unfold PyData.leavesShort; exact a1, by unfold PyData.depth; omega, by unfold PyData.weight; exact a3, by unfold PyData.showable; exact a4⟩
theorem sb_tuple {k m : Nat} {ds : List PyData} (h : ∀ d ∈ ds, Sb d k m) : Sb (.tuple ds) (k + 1) (ds.length * (m + 1)) := by
  obtain ⟨a1, a2, a3, a4⟩ := sb_all h
  exact ⟨by unfold PyData.leavesShort; exact a1, by unfold PyData.depth; omega, by unfold PyData.weight; exact a3, by unfold PyData.showable; exact a4⟩
theorem good_int (i : Int) : Good (Str.ofString (toString i)) := good_of _
end My

set_option maxRecDepth 100000
set_option maxHeartbeats 3200000
/-! What the shapes weigh, and what comes of a thing that takes one thing more. -/
namespace E9
open PySem PySem.Spec PyProof.Rows L2 GxR Gd TL My
theorem sb_kvs {k m : Nat} : ∀ {ps : List (PyData × PyData)}, (∀ p ∈ ps, Sb p.1 k m ∧ Sb p.2 k m) → PyData.leavesShortKv 40 ps = true ∧ PyData.depthKv ps ≤ k ∧ PyData.weightKv ps ≤ ps.length * (2 * m + 2) ∧ PyData.showableKv ps = true
  | [], _ => ⟨rfl, Nat.zero_le _, Nat.zero_le _, rfl⟩
  | (x, y) :: r, h => by
    obtain ⟨a1, a2, a3, a4⟩ := sb_kvs (ps := r) fun q hq => h q (List.mem_cons_of_mem _ hq)
    obtain ⟨b, c⟩ := h (x, y) List.mem_cons_self
    refine ⟨?_, ?_, ?_, ?_⟩
    · unfold PyData.leavesShortKv; rw [b.lv, c.lv, a1]; rfl
    · unfold PyData.depthKv; exact Nat.max_le.mpr ⟨Nat.max_le.mpr ⟨b.dep, c.dep⟩, a2⟩
    · unfold PyData.weightKv
      have w1 := b.wt
      have w2 := c.wt
      dsimp only at w1 w2
      rw [List.length_cons, Nat.succ_mul]
      omega
    · unfold PyData.showableKv; rw [b.sh, c.sh, a4]; rfl
theorem sb_dict {k m : Nat} {ps : List (PyData × PyData)} (h : ∀ p ∈ ps, Sb p.1 k m ∧ Sb p.2 k m) : Sb (.dict ps) (k + 1) (ps.length * (2 * m + 2)) := by
  obtain ⟨a1, a2, a3, a4⟩ := sb_kvs h
  exact ⟨by unfold PyData.leavesShort; exact a1, by unfold PyData.depth; omega, by unfold PyData.weight; exact a3, by unfold PyData.showable; exact a4⟩
/-- data with a text more, or with a number more under a text -/
def moreD : PyData → PyData
  | .list ds => .list (ds ++ [.str (Str.ofString "more")])
  | .dict ds => .dict (ds ++ [(.str (Str.ofString "more"), .int 5)])
  | d => d
theorem sb_t (s : String) (h : (Str.ofString s).length ≤ 110) : Sb (.str (Str.ofString s)) 0 110 := sb_str (good_of _) h
theorem sb_i {i : Int} (h : i.natAbs < 10 ^ 31) : Sb (.int i) 0 110 := sb_int h
theorem sb_l {k m : Nat} {ds : List PyData} {n : Nat} (hn : ds.length * (m + 1) ≤ n) (h : ∀ d ∈ ds, Sb d k m) : Sb (.list ds) (k + 1) n := (sb_list h).mono (Nat.le_refl _) hn
theorem shapes_sb {m : Int} (m0 : 0 ≤ m) (m1 : m < 10 ^ 29) {d : PyData} (h : d ∈ shapes m) : Sb d 2 700 ∧ Sb (moreD d) 2 700 := by
  have hm : m.natAbs < 10 ^ 31 := by
    have : (10 : Int) ^ 29 = 100000000000000000000000000000 := by decide
    have : (10 : Nat) ^ 31 = 10000000000000000000000000000000 := by decide
    omega
  have hn : (0 - m).natAbs < 10 ^ 31 := by
    have : (0 - m).natAbs = m.natAbs := by omega
    omega
  have im : Sb (.int m) 0 110 := sb_i hm
  have lm : Sb (.list [.int m]) 1 111 := sb_l (k := 0) (m := 110) (Nat.le_of_ble_eq_true rfl) fun d hd => by
    simp only [List.mem_cons, List.not_mem_nil, or_false] at hd
    subst hd
    exact im
  have more : Sb (.str (Str.ofString "more")) 0 110 := sb_t _ (by decide +kernel)
  have a : Sb (.str (Str.ofString "a")) 0 110 := sb_t _ (by decide +kernel)
  have five : Sb (.int 5) 0 110 := sb_i (by decide)
  have one : Sb (.int 1) 0 110 := sb_i (by decide)
  have nil : Sb (.list []) 1 0 := sb_l (k := 0) (m := 0) (by decide) fun d hd => by cases hd
  have l1 : Sb (.list [.int 1]) 1 111 := sb_l (k := 0) (m := 110) (Nat.le_of_ble_eq_true rfl) fun d hd => by
    simp only [List.mem_cons, List.not_mem_nil, or_false] at hd
    subst hd
    exact one
  simp only [shapes, List.mem_cons, List.not_mem_nil, or_false] at h
  rcases h with rfl | rfl | rfl | rfl | rfl | rfl | rfl | rfl | rfl | rfl | rfl | rfl
  · have := sb_none.mono (Nat.zero_le 2) (Nat.zero_le 700)
    exact ⟨this, this⟩
  · have := (sb_bool true).mono (Nat.zero_le 2) (Nat.zero_le 700)
    exact ⟨this, this⟩
  · have := im.mono (Nat.zero_le 2) (m' := 700) (by decide)
    exact ⟨this, this⟩
  · have := (sb_t "none" (by decide +kernel)).mono (Nat.zero_le 2) (m' := 700) (by decide)
    exact ⟨this, this⟩
  · have := (sb_t "" (by decide +kernel)).mono (Nat.zero_le 2) (m' := 700) (by decide)
    exact ⟨this, this⟩
  · refine ⟨lm.mono (by decide) (by decide), (sb_l (k := 0) (m := 110) (n := 700) (ds := [.int m, .str (Str.ofString "more")]) (Nat.le_of_ble_eq_true rfl) fun d hd => ?_).mono (by decide) (Nat.le_refl _)⟩
    simp only [List.mem_cons, List.not_mem_nil, or_false] at hd
    rcases hd with rfl | rfl
    · exact im
    · exact more
  · have := (sb_tuple (k := 0) (m := 110) (ds := [.int m, .str (Str.ofString "a")]) fun d hd => by
      simp only [List.mem_cons, List.not_mem_nil, or_false] at hd
      rcases hd with rfl | rfl
      · exact im
      · exact a).mono (k' := 2) (m' := 700) (by decide) (Nat.le_of_ble_eq_true rfl)
    exact ⟨this, this⟩
  · constructor
    · refine (sb_dict (k := 1) (m := 111) (ps := [(.str (Str.ofString "a"), .list [.int m])]) fun p hp => ?_).mono (by decide) (Nat.le_of_ble_eq_true rfl)
      simp only [List.mem_cons, List.not_mem_nil, or_false] at hp
      subst hp
      exact ⟨a.mono (by decide) (by decide), lm⟩
    · refine (sb_dict (k := 1) (m := 111) (ps := [(.str (Str.ofString "a"), .list [.int m]), (.str (Str.ofString "more"), .int 5)]) fun p hp => ?_).mono (by decide) (Nat.le_of_ble_eq_true rfl)
      simp only [List.mem_cons, List.not_mem_nil, or_false] at hp
      rcases hp with rfl | rfl
      · exact ⟨a.mono (by decide) (by decide), lm⟩
      · exact ⟨more.mono (by decide) (by decide), five.mono (by decide) (by decide)⟩
  · constructor
    · refine (sb_l (k := 1) (m := 111) (n := 700) (ds := [.list [], .list [.int 1]]) (by decide) fun d hd => ?_).mono (by decide) (Nat.le_refl _)
      simp only [List.mem_cons, List.not_mem_nil, or_false] at hd
      rcases hd with rfl | rfl
      · exact nil.mono (Nat.le_refl _) (by decide)
      · exact l1
    · refine (sb_l (k := 1) (m := 111) (n := 700) (ds := [.list [], .list [.int 1], .str (Str.ofString "more")]) (by decide) fun d hd => ?_).mono (by decide) (Nat.le_refl _)
      simp only [List.mem_cons, List.not_mem_nil, or_false] at hd
      rcases hd with rfl | rfl | rfl
      · exact nil.mono (Nat.le_refl _) (by decide)
      · exact l1
      · exact more.mono (by decide) (by decide)
  · have := (sb_i hn).mono (Nat.zero_le 2) (m' := 700) (by decide)
    exact ⟨this, this⟩
  · refine ⟨nil.mono (by decide) (by decide), (sb_l (k := 0) (m := 110) (n := 700) (ds := [.str (Str.ofString "more")]) (by decide) fun d hd => ?_).mono (by decide) (Nat.le_refl _)⟩
    simp only [List.mem_cons, List.not_mem_nil, or_false] at hd
    subst hd
    exact more
  · constructor
    · exact (sb_dict (k := 1) (m := 111) (ps := []) fun p hp => by cases hp).mono (by decide) (by decide)
    · refine (sb_dict (k := 0) (m := 110) (ps := [(.str (Str.ofString "more"), .int 5)]) fun p hp => ?_).mono (by decide) (Nat.le_of_ble_eq_true rfl)
      simp only [List.mem_cons, List.not_mem_nil, or_false] at hp
      subst hp
      exact ⟨more, five⟩
/-- the data of the fields, and what repr asks of them -/
def dueDs (y z : PyData) : List PyData := List.replicate 40 y ++ [y, y, z, y, z]
theorem due_sb {y z : PyData} (hy : Sb y 2 700) (hz : Sb z 2 700) : Sb (.list (dueDs y z)) 3 31545 := by
  refine (sb_list (k := 2) (m := 700) fun d hd => ?_).mono (Nat.le_refl _) ?_
  · unfold dueDs at hd
    simp only [List.mem_append, List.mem_replicate, List.mem_cons, List.not_mem_nil, or_false] at hd
    rcases hd with ⟨_, rfl⟩ | rfl | rfl | rfl | rfl | rfl
    all_goals first
      | exact hy
      | exact hz
  · unfold dueDs
    rw [List.length_append, List.length_replicate]
    exact Nat.le_of_ble_eq_true rfl
theorem dqAll_rep {K : PySem.W.Frag} {H : Hp} {v : V} {d : PyData} (h : Dq K H v d) : ∀ n : Nat, DqAll K H (List.replicate n v) (List.replicate n d)
  | 0 => .nil
  | n + 1 => by
    rw [List.replicate_succ, List.replicate_succ]
    exact .cons h (dqAll_rep h n)
theorem due_dq {K : PySem.W.Frag} {H : Hp} {y z : V} {dy dz : PyData} {q : Addr} (hy : Dq K H y dy) (hz : Dq K H z dz) (e : H q = some (.lst (dueL y z))) : Dq K H (.ref q) (.list (dueDs dy dz)) :=
  .lst (SqL.of e) (dqAll_app (dqAll_rep hy 40) (.cons hy (.cons hy (.cons hz (.cons hy (.cons hz .nil))))))
end E9

set_option maxRecDepth 100000
set_option maxHeartbeats 3200000
/-! A thing takes one thing more, if it is a list or a dict. -/
namespace E9
open PySem PySem.Spec PyProof.Rows L2 GxR Gd TL My
def sMoreL (K : PySem.W.Frag) (i : Nat) : TS := tIfS (tB (tCB (rIsi K) (tCons (tVar i) (tCons (tC (.ty "list")) tNil)))) (tDrop (tBM K "list" rAppend (tVar i) (tCons (tC (.str (Str.ofString "more"))) tNil))) tNext
def sMoreD (K : PySem.W.Frag) (i : Nat) : TS := tIfS (tB (tCB (rIsi K) (tCons (tVar i) (tCons (tC (.ty "dict")) tNil)))) (sDPut (tVar i) (tC (.str (Str.ofString "more"))) (tC (.int 5))) tNext
theorem dqAll_len {K : PySem.W.Frag} {H : Hp} : ∀ {vs : List V} {ds : List PyData}, DqAll K H vs ds → vs.length = ds.length
  | _, _, .nil => rfl
  | _, _, .cons _ t => by rw [List.length_cons, List.length_cons, dqAll_len t]
theorem shapes_len {m : Int} {ds : List PyData} (h : .list ds ∈ shapes m) : ds.length ≤ 2 := by
  simp only [shapes, List.mem_cons, List.not_mem_nil, or_false, reduceCtorEq, false_or, PyData.list.injEq] at h
  rcases h with rfl | rfl | rfl <;> exact Nat.le_of_ble_eq_true rfl
theorem dqKv_keys {K : PySem.W.Frag} {H : Hp} : ∀ {kvs : List (Key × V)} {ds : List (PyData × PyData)}, DqKv K H kvs ds → kvs.map (fun p => keyD p.1) = ds.map Prod.fst
  | _, _, .nil => rfl
  | _, _, .cons _ t => by rw [List.map_cons, List.map_cons, dqKv_keys t]
theorem shapes_kv {K : PySem.W.Frag} {H : Hp} {m : Int} {kvs : List (Key × V)} {ds : List (PyData × PyData)} (h : .dict ds ∈ shapes m) (q : DqKv K H kvs ds) : kvs.length ≤ 1 ∧ ∀ p ∈ kvs, p.1 ≠ .inr (Str.ofString "more") := by
  have e := dqKv_keys q
  have l := congrArg List.length e
  rw [List.length_map, List.length_map] at l
  have hk : ds.length ≤ 1 ∧ PyData.str (Str.ofString "more") ∉ ds.map Prod.fst := by
    simp only [shapes, List.mem_cons, List.not_mem_nil, or_false, reduceCtorEq, false_or, PyData.dict.injEq] at h
    rcases h with rfl | rfl
    · refine ⟨Nat.le_of_ble_eq_true rfl, fun z => ?_⟩
      simp only [List.map_cons, List.map_nil, List.mem_cons, List.not_mem_nil, or_false, PyData.str.injEq] at z
      exact absurd z (by decide +kernel)
    · exact ⟨Nat.le_of_ble_eq_true rfl, fun z => by cases z⟩
  refine ⟨by omega, fun p hp z => hk.2 ?_⟩
  rw [← e]
  exact List.mem_map.mpr ⟨p, hp, by rw [z]; rfl⟩
theorem put_new {kvs : List (Key × V)} {k : Key} {v : V} (h : ∀ p ∈ kvs, p.1 ≠ k) : putK kvs k v = kvs ++ [(k, v)] := by
  unfold putK
  rw [if_neg]
  intro e
  rw [List.any_eq_true] at e
  obtain ⟨p, hp, e⟩ := e
  exact h p hp (of_decide_eq_true e)
/-- what is neither a list nor a dict stays -/
def Kx (H H' : Hp) : Prop := ∀ c o, (∀ xs, o ≠ .lst xs) → (∀ kvs, o ≠ .dK kvs) → H c = some o → H' c = some o
theorem grow {K : PySem.W.Frag} {F : Hp} {v : V} {d : PyData} {m : Int} (th : Thing K F v d) (hd : d ∈ shapes m) {σ : L2.St} {G : Hp} {D : Ends} {i : Nat} (s : Same F G) (hv : σ[i]? = some (some v))
    (k : ∀ F' G', Same F' G' → Dq K F' v (moreD d) → (∀ c, F c = none → F' c = none) → (∀ c, F c = none → G' c = G c) → Kx G G' → D.nx σ G') : tSeq (sMoreL K i) (sMoreD K i) D σ G := by
  have q := th.dq
  cases th with
  | non =>
    refine ⟨_, hv, _, _, _, _, false, rfl, .ty "list", .base .non, (by rfl), _, rfl, ?_⟩
    refine ⟨_, hv, _, _, _, _, false, rfl, .ty "dict", .base .non, (by rfl), _, rfl, ?_⟩
    exact k F G s q (fun _ h => h) (fun _ _ => rfl) fun _ _ _ _ h => h
  | bl b =>
    refine ⟨_, hv, _, _, _, _, false, rfl, .ty "list", .base (.bl b), (by rfl), _, rfl, ?_⟩
    refine ⟨_, hv, _, _, _, _, false, rfl, .ty "dict", .base (.bl b), (by rfl), _, rfl, ?_⟩
    exact k F G s q (fun _ h => h) (fun _ _ => rfl) fun _ _ _ _ h => h
  | int j =>
    refine ⟨_, hv, _, _, _, _, false, rfl, .ty "list", .base (.int j), (by rfl), _, rfl, ?_⟩
    refine ⟨_, hv, _, _, _, _, false, rfl, .ty "dict", .base (.int j), (by rfl), _, rfl, ?_⟩
    exact k F G s q (fun _ h => h) (fun _ _ => rfl) fun _ _ _ _ h => h
  | str z =>
    refine ⟨_, hv, _, _, _, _, false, rfl, .ty "list", .base (.str z), (by rfl), _, rfl, ?_⟩
    refine ⟨_, hv, _, _, _, _, false, rfl, .ty "dict", .base (.str z), (by rfl), _, rfl, ?_⟩
    exact k F G s q (fun _ h => h) (fun _ _ => rfl) fun _ _ _ _ h => h
  | @tup p xs ds e h =>
    refine ⟨_, hv, _, _, _, _, false, rfl, .ty "list", .base (.tup (s _ _ e)), (by rfl), _, rfl, ?_⟩
    refine ⟨_, hv, _, _, _, _, false, rfl, .ty "dict", .base (.tup (s _ _ e)), (by rfl), _, rfl, ?_⟩
    exact k F G s q (fun _ h => h) (fun _ _ => rfl) fun _ _ _ _ h => h
  | @lst p xs ds e h =>
    refine ⟨_, hv, _, _, _, _, true, rfl, .ty "list", .base (.lst (s _ _ e)), (by rfl), _, rfl, ?_⟩
    have hl : xs.length < sizeLine := by
      rw [dqAll_len h, sizeLine_eq]
      exact Nat.lt_of_le_of_lt (shapes_len hd) (by decide)
    refine ⟨_, hv, .inl ⟨rfl, xs, SqL.of (s _ _ e)⟩, p, xs, _, rfl, rfl, s _ _ e, hl, ?_⟩
    have ep : (upd G p (.lst (xs ++ [.str (Str.ofString "more")]))) p = some (.lst (xs ++ [.str (Str.ofString "more")])) := upd_same
    refine ⟨_, hv, _, _, _, _, false, rfl, .ty "dict", .base (.lst ep), (by rfl), _, rfl, ?_⟩
    refine k (upd F p (.lst (xs ++ [.str (Str.ofString "more")]))) _ (fun c o h => ?_) (lst_more h (fun c o h => ?_) _ upd_same) (fun c h => ?_) (fun c h => ?_) fun c o h1 h2 h => ?_
    · by_cases cp : c = p
      · rw [cp, upd_same] at h
        rw [cp, ep]
        exact h
      · rw [upd_ne cp] at h
        rw [upd_ne cp]
        exact s _ _ h
    · obtain ⟨a, b⟩ := hide_some h
      rw [upd_ne a]
      exact b
    · rw [upd_ne (fun z => by rw [z, e] at h; cases h)]
      exact h
    · rw [upd_ne (fun z => by rw [z, e] at h; cases h)]
    · rw [upd_ne (fun z => by rw [z, s _ _ e] at h; exact h1 _ (Option.some.inj h).symm)]
      exact h
  | @dic p kvs ds e h =>
    obtain ⟨l1, nk⟩ := shapes_kv hd h
    refine ⟨_, hv, _, _, _, _, false, rfl, .ty "list", .base (.dK (s _ _ e)), (by rfl), _, rfl, ?_⟩
    refine ⟨_, hv, _, _, _, _, true, rfl, .ty "dict", .base (.dK (s _ _ e)), (by rfl), _, rfl, ?_⟩
    refine ⟨_, hv, p, _, rfl, DPut.k (k := .inr (Str.ofString "more")) (s _ _ e) (by rw [sizeLine_eq]; omega), ?_⟩
    rw [put_new nk]
    refine k (upd F p (.dK (kvs ++ [(.inr (Str.ofString "more"), .int 5)]))) _ (fun c o h => ?_) (dic_more h (fun c o h => ?_) _ _ upd_same) (fun c h => ?_) (fun c h => ?_) fun c o h1 h2 h => ?_
    · by_cases cp : c = p
      · rw [cp, upd_same] at h
        rw [cp, upd_same]
        exact h
      · rw [upd_ne cp] at h
        rw [upd_ne cp]
        exact s _ _ h
    · obtain ⟨a, b⟩ := hide_some h
      rw [upd_ne a]
      exact b
    · rw [upd_ne (fun z => by rw [z, e] at h; cases h)]
      exact h
    · rw [upd_ne (fun z => by rw [z, e] at h; cases h)]
    · rw [upd_ne (fun z => by rw [z, s _ _ e] at h; exact h2 _ (Option.some.inj h).symm)]
      exact h
end E9
namespace E9
open PySem PySem.Spec PyProof.Rows L2 GxR Gd TL My
/-- what is asked of the classes together -/
structure Cl (K : PySem.W.Frag) (Cs : List Addr) (CE : Addr) : Prop where
  nd : Cs.Nodup
  ex : ∀ D ∈ Cs, ExcC K D
  kd : ∀ D ∈ Cs, ∀ C ∈ Cs, PySem.W.kitOne K (.ref D) (.ref C) = some (decide (D = C))
  ke : ∀ D ∈ Cs, PySem.W.kitOne K (.ref D) (.ref CE) = some true
  kv : ∀ D ∈ Cs, PySem.W.kitOne K (.ref D) (.type "ValueError") = some true
theorem bls_dp {K : PySem.W.Frag} {H : Hp} {a : Addr} {f : Nat → Bool} {n : Nat} (h : H a = some (.lst ((List.range n).map fun k => V.bl (f k)))) : Dp K H (.ref a) (.list ((List.range n).map fun k => PyData.bool (f k))) := by
  have e1 : ((List.range n).map fun k => V.bl (f k)) = ((List.range n).map f).map V.bl := by rw [List.map_map]; rfl
  have e2 : ((List.range n).map fun k => PyData.bool (f k)) = ((List.range n).map f).map PyData.bool := by rw [List.map_map]; rfl
  rw [e2]
  rw [e1] at h
  exact .lst (SqL.of h) (dp_bls _)
theorem bls_shaped : ∀ bs : List Bool, SeqAt.shaped (.list (bs.map PyData.bool)) = true := fun bs => by
  have h : ∀ bs : List Bool, PyData.canLayAll0 (bs.map PyData.bool) = true ∧ PyData.depthAll (bs.map PyData.bool) = 0 := by
    intro bs
    induction bs with
    | nil => exact ⟨rfl, rfl⟩
    | cons b r ih =>
      rw [List.map_cons]
      unfold PyData.canLayAll0 PyData.depthAll
      rw [ih.1, ih.2]
      exact ⟨rfl, rfl⟩
  unfold SeqAt.shaped PyData.canLay0 PyData.depth
  rw [(h bs).1, (h bs).2]
  rfl
end E9

set_option maxRecDepth 100000
set_option maxHeartbeats 4000000
/-! The end of a law with tables whose own def shows dicts. -/
namespace Gd
open PySem PySem.Spec PyProof.Rows L2 GxR
open Classical in
noncomputable def hm0 (K : PySem.W.Frag) (a : Addr) (vs : List Value) (ns : List Int) (T : List Addr) (o1 : Obj) : Hp := fun b => if b = sysModules then some (.frz o1 smU) else h0 K a vs ns T b
theorem hm0_inv {K : PySem.W.Frag} {a b : Addr} {vs : List Value} {ns : List Int} {T : List Addr} {o1 : Obj} {u : HO} (h : hm0 K a vs ns T o1 b = some u) :
    (b = sysModules ∧ u = .frz o1 smU) ∨ (b = a ∧ K.lookup a = none ∧ u = .frz (scriptO vs) (.lst (ns.map V.int))) ∨ (b ∈ T ∧ u = .tbl #[]) := by
  unfold hm0 at h
  split at h
  · rename_i c
    exact .inl ⟨c, (Option.some.inj h).symm⟩
  · exact .inr (h0_inv h)
section
variable {P : Program} {w : World} {K : PySem.W.Frag} {mg mb : Str → Option Value} {CX : CXT} {k : Nat} {fa a : Addr} {cs : List (Addr × Addr)} {fd : FuncData} {x : Str} {sp : Sp} {s1 : Shared} {vs : List Value} {ns : List Int}
theorem law_mcall (KX : K.In s1.heap) (nsG : s1.heap.Ns mainGlobals mg) (nsB : s1.heap.Ns builtinsNs mb) (isB : ∀ x : Str, x ≠ "__name__" → mb x = bootBuiltins x) (lim : s1.heap.NoLimit) (gens : s1.gens = #[])
    (tabs : ∀ p ∈ cs, s1.heap.get? p.2 = some tabO) (tabK : ∀ p ∈ cs, K.lookup p.2 = none) (codes : ∀ p ∈ cs, PySem.W.CodeHd s1.heap p.1 p.2)
    (bmain : ∃ (bm : Addr) (ob : Obj), mg "__builtins__" = some (.ref bm) ∧ bm ≠ builtinsNs ∧ s1.heap.get? bm = some ob ∧ ob.cls = .type "module" ∧ ob.dict = some builtinsNs ∧ ob.data = .plain)
    (hsm : ∃ o es ep, s1.heap.get? sysModules = some o ∧ o.data = .dict es ep) (k1 : K.lookup sysModules = none) (na : a ≠ sysModules)
    (ha : s1.heap.get? a = some (scriptO vs)) (hi : IntsAre vs ns) (hl : ns.length ≤ sizeLine) (hr : Room k callerA)
    (F : ∀ base : Heap, K.In base → base.Ns mainGlobals mg → (∀ p ∈ cs, TabB base mg p.1 p.2) → GOk P w K mg base CX k fa fd [x] sp)
    (hbind : ∀ (s : Shared) (u : Value), BindsTo s fd ⟨[u], []⟩ [(x, u)])
    (hsp : ∀ H : Hp, SmAt H → (∀ p ∈ cs, H p.2 = some (.tbl #[])) → SqL K H a (ns.map V.int) → sp [.ref a] H (fun v _ => v = .bl true) fun _ _ _ => False)
    (hCX : ∀ H e s', CX [] H s1 (fun _ _ _ => False) e s' → False) :
    codeAny (model P w) callerA (.call (.ref fa) ⟨[.ref a], []⟩) (fun r s' => r = .ok (.ret (.bool true)) ∧ OldK s1.heap s'.heap ∧ s'.os = s1.os ∧ AllBare s'.gens) s1 := by
  have rv := vals_ints hi
  have hlen := hi.length
  obtain ⟨o1, es1, ep1, ho1, hd1⟩ := hsm
  let T := cs.map Prod.snd
  have inT : ∀ p ∈ cs, p.2 ∈ T := fun p hp => List.mem_map.mpr ⟨p, hp, rfl⟩
  have ofT : ∀ b ∈ T, s1.heap.get? b = some tabO ∧ K.lookup b = none := by
    intro b hb
    obtain ⟨p, hp, rfl⟩ := List.mem_map.mp hb
    exact ⟨tabs p hp, tabK p hp⟩
  have neT : a ∉ T := fun z => by
    have q := (ofT a z).1
    rw [ha] at q
    cases q
  have smT : sysModules ∉ T := fun z => by
    have q := (ofT _ z).1
    rw [ho1] at q
    rw [Option.some.inj q] at hd1
    cases hd1
  let H := hm0 K a vs ns T o1
  have notsm : ∀ {b : Addr} {o : Obj}, s1.heap.get? b = some o → (∀ es ep, o.data ≠ .dict es ep) → b ≠ sysModules := fun e n z => by
    subst z
    rw [ho1] at e
    rw [Option.some.inj e] at hd1
    exact n _ _ hd1
  have seen : ∀ {b : Addr} {o : Obj}, s1.heap.get? b = some o → (∀ us n, o.data ≠ .seq us n) → o.data ≠ .fields #[] → b ≠ sysModules → H b = none := by
    intro b o e n1 n2 n3
    cases q : H b with
    | none => rfl
    | some u =>
      exfalso
      rcases hm0_inv q with ⟨z, _⟩ | ⟨rfl, _, _⟩ | ⟨hb, _⟩
      · exact n3 z
      · rw [ha] at e
        cases e
        exact n1 _ _ rfl
      · rw [(ofT b hb).1] at e
        cases e
        exact n2 rfl
  have keepHid : ∀ {b : Addr} {o : Obj}, s1.heap.get? b = some o → H b = none → (hidT s1.heap H).get? b = some o := fun e n => hidT_get e n
  have nsHid : ∀ {b : Addr} {m : Str → Option Value}, b ≠ sysModules → s1.heap.Ns b m → (hidT s1.heap H).Ns b m := by
    rintro b m n ⟨o, es, ep, e, d, rest⟩
    refine ⟨o, es, ep, keepHid e (seen e (fun us n z => ?_) (fun z => ?_) n), d, rest⟩ <;> (rw [d] at z; cases z)
  have KH : K.In (hidT s1.heap H) := by
    intro b o e
    refine keepHid (KX b o e) ?_
    cases q : H b with
    | none => rfl
    | some u =>
      exfalso
      rcases hm0_inv q with ⟨rfl, _⟩ | ⟨rfl, z, _⟩ | ⟨hb, _⟩
      · rw [k1] at e
        cases e
      · rw [z] at e
        cases e
      · rw [(ofT b hb).2] at e
        cases e
  have limH : (hidT s1.heap H).NoLimit := by
    obtain ⟨mc, h1, h2⟩ := lim
    exact ⟨mc, nsHid (by decide) h1, h2⟩
  have M : L2.Mod K mg (hidT s1.heap H) := ⟨KH, nsHid (by decide) nsG, ⟨mb, nsHid (by decide) nsB, isB⟩, limH⟩
  have TB : ∀ p ∈ cs, TabB (hidT s1.heap H) mg p.1 p.2 := by
    intro p hp
    have tp := tabs p hp
    refine ⟨?_, ?_, ?_⟩
    · obtain ⟨o, us, file, tf, flags, tg, inF, text, tt, e1, r1, r2, r3, rest⟩ := codes p hp
      refine ⟨o, us, file, tf, flags, tg, inF, text, tt, keepHid e1 (seen e1 (fun vs n z => ?_) (fun z => ?_) (notsm e1 fun es ep z => ?_)), r1, r2, r3, rest⟩
      · rw [r2] at z
        cases z
      · rw [r2] at z
        cases z
        simp at r3
      · rw [r2] at z
        cases z
    · obtain ⟨bm, ob, b1, b2, b3, b4, b5, b6⟩ := bmain
      have g1 : bm ≠ mainGlobals := by
        rintro rfl
        obtain ⟨o, es, ep, e, d, _⟩ := nsG
        rw [b3] at e
        cases e
        rw [b6] at d
        cases d
      have g2 : bm ≠ p.2 := by
        rintro rfl
        rw [tp] at b3
        cases b3
        cases b6
      refine ⟨bm, ob, b1, b2, g1, g2, keepHid b3 (seen b3 (fun vs n z => ?_) (fun z => ?_) (notsm b3 fun es ep z => ?_)), b4, b5, b6⟩ <;> (rw [b6] at z; cases z)
    · intro z
      obtain ⟨o, es, ep, e, d, _⟩ := nsG
      rw [z, tp] at e
      cases e
      cases d
  have hH : ∀ p ∈ cs, H p.2 = some (.tbl #[]) := by
    intro p hp
    have n0 : ¬ p.2 = sysModules := fun z => smT (z ▸ inT p hp)
    have n1 : ¬ (p.2 = a ∧ K.lookup a = none) := fun z => neT (z.1 ▸ inT p hp)
    exact (if_neg n0).trans ((if_neg n1).trans (if_pos (inT p hp)))
  have hS : SqL K H a (ns.map V.int) := by
    cases q : K.lookup a with
    | none => exact .inl (.inr ⟨scriptO vs, (if_neg na).trans (if_pos ⟨rfl, q⟩)⟩)
    | some o =>
      have e := KX a o q
      rw [ha] at e
      cases e
      exact .inr ⟨_, vs.toArray, _, q, rfl, rfl, rfl, by rw [List.size_toArray, hlen]; exact hl, by simpa using rv⟩
  have hok : HOk P w H s1.heap := by
    intro b u q
    rcases hm0_inv q with ⟨rfl, rfl⟩ | ⟨rfl, _, rfl⟩ | ⟨hb, rfl⟩
    · exact ⟨ho1, ⟨_, ho1⟩, ⟨_, ho1⟩, fun h1 h2 ⟨o, z⟩ k => ⟨o, k _ z⟩⟩
    · exact ⟨ha, by rw [List.length_map]; exact hl, vs, _, rv, ha⟩
    · exact (ofT b hb).1
  have e0 : Env0 P w K mg (hidT s1.heap H) callerA [] s1 H :=
    ⟨rfl, M, fun b o e => of_hidT e, Nat.le_of_eq (hidT_size _ _), trivial, (fun b hb => by cases (show b ∈ ([] : List Addr) from hb)), hok, .of_eq gens⟩
  have run := (F _ KH (nsHid (by decide) nsG) TB).go callerA [] s1 H ⟨[.ref a], []⟩ [.ref a] [.ref a] (fun v _ => v = .bl true) (fun _ _ _ => False) rfl hr e0 (hbind s1 (.ref a)) (.cons rfl .nil) (hsp H ⟨o1, if_pos rfl⟩ hH hS)
  refine codeAny_mono run ?_
  intro r s' h
  match r, h with
  | .error e, h => exact (hCX H e s' h).elim
  | .ok .next, h => exact h.elim
  | .ok .brk, h => exact h.elim
  | .ok .cont, h => exact h.elim
  | .ok (.ret u), h =>
    obtain ⟨v, H', os, bare, un, hok', r', q⟩ := h
    obtain rfl : v = .bl true := q
    obtain rfl : u = Value.bool true := r'
    have plain : ∀ b o, b ∉ T → s1.heap.get? b = some o → s'.heap.get? b = some o := by
      intro b o nb e
      cases q : H b with
      | none => exact un.keep b o e q (fun z => by cases (show b ∈ ([] : List Addr) from z)) (by simp)
      | some y =>
        rcases hm0_inv q with ⟨rfl, rfl⟩ | ⟨rfl, _, rfl⟩ | ⟨hb, _⟩
        · obtain ⟨e2, _⟩ := hok' sysModules _ (un.frzs _ _ _ q)
          rw [ho1] at e
          exact Option.some.inj e ▸ e2
        · obtain ⟨e2, _⟩ := hok' b _ (un.frzs b _ _ q)
          rw [ha] at e
          cases e
          exact e2
        · exact absurd hb nb
    have grown : ∀ p ∈ cs, ∃ more : Array Value, s'.heap.get? p.2 = some { cls := .none, data := .fields more } := by
      intro p hp
      obtain ⟨more, z⟩ := un.tbls p.2 #[] (hH p hp)
      exact ⟨_, hok' p.2 _ z⟩
    refine ⟨rfl, ⟨fun b o e => ?_, fun b o e => ?_⟩, os, bare⟩ <;> by_cases hb : b ∈ T
    · obtain ⟨p, hp, rfl⟩ := List.mem_map.mp hb
      obtain ⟨more, hm⟩ := grown p hp
      rw [tabs p hp] at e
      cases e
      exact .inr (.inl ⟨((codes p hp).tab (tabs p hp)).isCodeTable, rfl, #[], more, rfl, by rw [Array.empty_append]; exact hm⟩)
    · exact .inl (plain b o hb e)
    · obtain ⟨p, hp, rfl⟩ := List.mem_map.mp hb
      obtain ⟨more, hm⟩ := grown p hp
      exact ⟨_, hm⟩
    · exact ⟨o, plain b o hb e⟩
end
/-- what is to be known of such a law -/
def GLawM (l : PySem.W.OpenLaw) (w : World) (K : PySem.W.Frag) (CX : CXT) (k n : Nat) (x : Str) (mg : Str → Option Value) (fa : Addr) (h : Heap) : Prop :=
  ∃ (fd : FuncData) (cs : List (Addr × Addr)) (sp : Sp), K.lookup sysModules = none ∧ (∀ p ∈ cs, h.get? p.2 = some tabO) ∧ (∀ p ∈ cs, K.lookup p.2 = none) ∧ (∀ p ∈ cs, PySem.W.CodeHd h p.1 p.2) ∧
    (∀ (s : Shared) (u : Value), BindsTo s fd ⟨[u], []⟩ [(x, u)]) ∧
    (∀ (H : Hp) (a : Addr) (ns : List Int), ns.length ≤ n → SmAt H → (∀ p ∈ cs, H p.2 = some (.tbl #[])) → SqL K H a (ns.map V.int) →
      sp [.ref a] H (fun v _ => v = .bl true) fun _ _ _ => False) ∧
    ∀ base : Heap, K.In base → base.Ns mainGlobals mg → (∀ p ∈ cs, TabB base mg p.1 p.2) → GOk l.prog w K mg base CX k fa fd [x] sp
open PySem.W in
theorem walk_m {l : PySem.W.OpenLaw} {n k : Nat} {q : Program} {loose : List Str} {XP : (Str → Option Value) → Heap → Prop} {YP : World → Heap → Prop} {d : DefRec} {K : Params → PySem.W.Frag} {CX : World → CXT} {x : Str}
    (no : importsNone q = true) (hn : l.most = some n) (small : n ≤ sizeLine) (hdf : d.params.defaults = []) (hr : Room k callerA) (hY : ∀ (w : World) (h : Heap), YP w h → (K w.params).In h)
    (F : ∀ (w : World) (mg : Str → Option Value) (fa : Addr) (h : Heap), YP w h → (K w.params).In h → h.Ns mainGlobals mg → mg d.name = some (.ref fa) → Empt q (K w.params) h → GLawM l w (K w.params) (CX w) k n x mg fa h)
    (hCX : ∀ (w : World) (H : Hp) (s : Shared) (e : Value) (s' : Shared), CX w [] H s (fun _ _ _ => False) e s' → False) :
    PySem.W.WalkO q loose XP YP l.row.toRowW d [] (fun f vs => PySem.call f vs) := by
  intro w s0 s1 mg mb G Y fa o pm cd doc dV kV ho hd hcd hD hmg hg args vals as pre lay rd well low
  obtain ⟨a, vs, ns, rfl, rfl, hobj, hints, hlen⟩ := Att.script_of hn pre well
  have na : a ≠ sysModules := by
    cases rd with
    | cons r1 r2 =>
      cases r1 with
      | list _ _ _ _ => exact beq_eq_false_iff_ne.mp (low a (by simp))
  have KX := hY w _ Y
  have em : Empt q (K w.params) s1.heap := by
    intro x f c t o1 fd1 e dd us sl hx k1 k2 k3 k4 k5 k6
    obtain ⟨r, hr1, hr2⟩ := List.any_eq_true.mp hx
    have hn1 : r.name = x := beq_iff_eq.mp hr2
    obtain ⟨a1, o2, fd2, c2, t2, y1, y2, y3, y4, y5, y6⟩ := G.T.tab r hr1
    have z1 := PySem.W.mg_of KX G.T.g k1
    rw [hn1, z1] at y1
    cases y1
    have z2 := KX _ _ k2
    rw [z2] at y2
    cases y2
    rw [k3] at y3
    cases y3
    rw [k4] at y4
    cases y4
    have y6b := y6
    obtain ⟨⟨oc, vc, e1, e2, e3, e4⟩, hP⟩ := y6b
    have z5 := KX _ _ k5
    rw [z5] at e1
    cases e1
    cases e3
    rw [k6] at e4
    cases e4
    exact ⟨PySem.W.CodeHd.of y5 y6, hP⟩
  obtain ⟨fd, cs, sp, k1, t1, t2, t3, hb, hsp, hF⟩ := F w mg fa _ Y KX G.T.g hmg em
  have run := law_mcall KX G.T.g G.T.b G.T.builtins G.T.nolimit hg t1 t2 t3 G.T.bmain (let ⟨_, ⟨o, es, ep, e, d, _⟩, _⟩ := (G.T.seer no).mods; ⟨o, es, ep, e, d⟩) k1 na hobj hints (Nat.le_trans hlen small) hr hF hb (fun H a1 a2 a3 => hsp H a ns hlen a1 a2 a3) (fun H e s' => hCX w H s1 e s')
  refine enter_call (codeAny_mono run ?_)
  rintro r z ⟨rfl, old, os, bare⟩
  exact ⟨.inl ⟨.bool true, .bool true, [], rfl, fun _ => rfl, .bool true, Att.post_true l _, fun _ => ⟨List.Pairwise.nil, fun _ m => (nomatch m)⟩⟩, old, os, bare⟩
end Gd

set_option maxRecDepth 100000
set_option maxHeartbeats 3200000
/-! Where the refusals, their due fields and the two things stand, while the things change. -/
namespace E9
open PySem PySem.Spec PyProof.Rows L2 GxR Gd TL My
theorem exo_kx {e C : Addr} {d : Option Addr} : (∀ xs, exo e C d ≠ .lst xs) ∧ ∀ kvs, exo e C d ≠ .dK kvs :=
  ⟨fun xs z => (by have z' : HO.ext _ = HO.lst xs := z; cases z'), fun kvs z => (by have z' : HO.ext _ = HO.dK kvs := z; cases z')⟩
theorem exd_kx {e : Addr} {fs : List (Str × V)} : (∀ xs, exd e fs ≠ .lst xs) ∧ ∀ kvs, exd e fs ≠ .dK kvs :=
  ⟨fun xs z => (by have z' : HO.ext _ = HO.lst xs := z; cases z'), fun kvs z => (by have z' : HO.ext _ = HO.dK kvs := z; cases z')⟩
theorem Kept.kx {H H' : Hp} (n : Kx H H') {v : V} {c : Addr × Option (Str × V)} (h : Kept H v c) : Kept H' v c := by
  obtain ⟨C, o⟩ := c
  obtain ⟨a, rfl, h⟩ := h
  refine ⟨a, rfl, ?_⟩
  cases o with
  | none => exact n _ _ exo_kx.1 exo_kx.2 h
  | some q =>
    obtain ⟨dx, h1, h2⟩ := h
    exact ⟨dx, n _ _ exo_kx.1 exo_kx.2 h1, n _ _ exd_kx.1 exd_kx.2 h2⟩
theorem Kepts.kx {H H' : Hp} (n : Kx H H') {vs : List V} {l : List (Addr × Option (Str × V))} (h : Kepts H vs l) : Kepts H' vs l := by
  induction h with
  | nil => exact .nil
  | cons a _ ih => exact .cons (a.kx n) ih
theorem fresh_old {H H' : Hp} {c : Addr} {o : HO} (h : H c = some o) : fresh H H' c = none := by
  unfold fresh
  rw [h]
theorem fresh_nil {H H' : Hp} {c : Addr} (h : H' c = none) : fresh H H' c = none := by
  unfold fresh
  split
  · exact h
  · rfl
structure Rst (K : PySem.W.Frag) (H : Hp) (b : Addr) (n : Int) (p u ℓ : Addr) (xs : List V) (l : List (Addr × Option (Str × V))) (v1 v2 : V) (F1 F2 : Hp) (e1 e2 : PyData) (G : Hp) : Prop where
  hp : G p = some (.lst xs)
  ks : Kepts G xs l
  hu : G u = some (.lst (dueL v1 v2))
  hl : G ℓ = some (.lst [v1, v2])
  q1 : Dq K F1 v1 e1
  q2 : Dq K F2 v2 e2
  s1 : Same F1 G
  s2 : Same F2 G
  w1 : Sb e1 2 700
  w2 : Sb e2 2 700
  kb : KB b H G
  bx : Bx b n G
  sm : SmAt G
section
variable {K : PySem.W.Frag} {H : Hp} {b : Addr} {n : Int} {p u ℓ : Addr} {xs : List V} {l : List (Addr × Option (Str × V))} {v1 v2 : V} {F1 F2 : Hp} {e1 e2 : PyData} {G : Hp}
theorem Rst.same {G' : Hp} (R : Rst K H b n p u ℓ xs l v1 v2 F1 F2 e1 e2 G) (s : Same G G') : Rst K H b n p u ℓ xs l v1 v2 F1 F2 e1 e2 G' := by
  obtain ⟨x, y, z, hb, r⟩ := id R.bx
  obtain ⟨o, so⟩ := id R.sm
  exact ⟨s _ _ R.hp, R.ks.nt (same_nt s), s _ _ R.hu, s _ _ R.hl, R.q1, R.q2, same_trans R.s1 s, same_trans R.s2 s, R.w1, R.w2, fun c o n h => s _ _ (R.kb c o n h), ⟨x, y, z, s _ _ hb, r⟩, ⟨o, s _ _ so⟩⟩
theorem Rst.rep {q : Addr} (R : Rst K H b n p u ℓ xs l v1 v2 F1 F2 e1 e2 G) (e : G q = some (.lst (dueL v1 v2))) : Dq K G (.ref q) (.list (dueDs e1 e2)) ∧ (PyData.list (dueDs e1 e2)).showable = true ∧ (PyData.list (dueDs e1 e2)).depth ≤ 100 ∧ (PyData.list (dueDs e1 e2)).shown.length ≤ sizeLine :=
  ⟨due_dq (R.q1.same R.s1) (R.q2.same R.s2) e, (due_sb R.w1 R.w2).rep (by decide) (by decide)⟩
theorem Rst.up1 {F' G' : Hp} {e' : PyData} (R : Rst K H b n p u ℓ xs l v1 v2 F1 F2 e1 e2 G) (s : Same F' G') (q : Dq K F' v1 e') (w : Sb e' 2 700) (g : ∀ c, F1 c = none → G' c = G c) (kx : Kx G G')
    (np : F1 p = none) (nu : F1 u = none) (nl : F1 ℓ = none) (nb : F1 b = none) (ns : F1 sysModules = none) (nH : ∀ c o, H c = some o → F1 c = none) (n2 : ∀ c o, F2 c = some o → F1 c = none) : Rst K H b n p u ℓ xs l v1 v2 F' F2 e' e2 G' := by
  obtain ⟨o, so⟩ := id R.sm
  refine ⟨(g _ np).trans R.hp, R.ks.kx kx, (g _ nu).trans R.hu, (g _ nl).trans R.hl, q, R.q2, s, fun c o h => ?_, w, R.w2, fun c o d h => ?_, R.bx.same (g _ nb), ⟨o, (g _ ns).trans so⟩⟩
  · rw [g _ (n2 _ _ h)]
    exact R.s2 _ _ h
  · rw [g _ (nH _ _ h)]
    exact R.kb c o d h
theorem Rst.up2 {F' G' : Hp} {e' : PyData} (R : Rst K H b n p u ℓ xs l v1 v2 F1 F2 e1 e2 G) (s : Same F' G') (q : Dq K F' v2 e') (w : Sb e' 2 700) (g : ∀ c, F2 c = none → G' c = G c) (kx : Kx G G')
    (np : F2 p = none) (nu : F2 u = none) (nl : F2 ℓ = none) (nb : F2 b = none) (ns : F2 sysModules = none) (nH : ∀ c o, H c = some o → F2 c = none) (n1 : ∀ c o, F1 c = some o → F2 c = none) : Rst K H b n p u ℓ xs l v1 v2 F1 F' e1 e' G' := by
  obtain ⟨o, so⟩ := id R.sm
  refine ⟨(g _ np).trans R.hp, R.ks.kx kx, (g _ nu).trans R.hu, (g _ nl).trans R.hl, R.q1, q, fun c o h => ?_, s, R.w1, w, fun c o d h => ?_, R.bx.same (g _ nb), ⟨o, (g _ ns).trans so⟩⟩
  · rw [g _ (n1 _ _ h)]
    exact R.s1 _ _ h
  · rw [g _ (nH _ _ h)]
    exact R.kb c o d h
end
end E9

set_option maxRecDepth 100000
set_option maxHeartbeats 3200000
namespace E9
open PySem PySem.Spec PyProof.Rows L2 GxR Gd TL My
theorem neDK {X : Cx} {K : PySem.W.Frag} (h : X.K = K) (hu : X.A.units + 64 < cLine) : OpR X (compareOp .NotEq) (rNeD K) := h ▸ op_neD hu
section
variable {P : Program} {w : World} {K : PySem.W.Frag} {mg : Str → Option Value} {base : Heap}
abbrev s_law_right : Stmt := top 57
theorem sc_law_right : FnScope ["_law_box_here", "_law_one", "_law_other", "_law_made_here", "_law_at", "_law_due", "_law_thing_here", "_law_error", "_law_k"] ["_law_box_here"] (defScope s_law_right) := ⟨rfl, rfl, rfl, by decide +kernel, rfl, by decide +kernel, by decide +kernel⟩
def spRight : Sp := fun vs H Q _ => ∃ (b : Addr) (n : Int), vs = [.ref b] ∧ Bx b n H ∧ n ≤ 900 ∧ SmAt H ∧ ∀ H', KB b H H' → Bx b (n + 4) H' → Q (.bl true) H'
theorem ok_right {C0 C1 C2 C3 C4 C5 C6 C7 C8 C9 C10 C11 C12 C13 C14 C15 C16 C17 C18 C19 C20 C21 C22 C23 C24 C25 C26 C27 C28 C29 C30 C31 C32 C33 C34 C35 C36 C37 C38 C39 C40 C41 C42 C43 C44 C45 C46 CE : Addr} {f f1 f2 f3 f4 : Addr} {fd fd1 fd2 fd3 fd4 : FuncData} (ns : K.lookup sysModules = none) (F : Fun K "_law_right" "_law_right" s_law_right f fd) (T : Txt mg) (hV : mg "ValueError" = none) (hD : mg "dict" = none) (gE : mg "StaffError" = some (.ref CE)) (cl : Cl K [C0, C1, C2, C3, C4, C5, C6, C7, C8, C9, C10, C11, C12, C13, C14, C15, C16, C17, C18, C19, C20, C21, C22, C23, C24, C25, C26, C27, C28, C29, C30, C31, C32, C33, C34, C35, C36, C37, C38, C39, C40, C41, C42, C43, C44, C45, C46] CE) (fl : ∀ y z, Fld K (madeL C0 C1 C2 C3 C4 C5 C6 C7 C8 C9 C10 C11 C12 C13 C14 C15 C16 C17 C18 C19 C20 C21 C22 C23 C24 C25 C26 C27 C28 C29 C30 C31 C32 C33 C34 C35 C36 C37 C38 C39 C40 C41 C42 C43 C44 C45 C46 y z))
    (Nlaw_thing : Fn K mg "_law_thing" s_law_thing ["_law_box_here"] f1 fd1) (Glaw_thing : FnOk P w K mg base CX0 2 f1 fd1 ["_law_box_here"] (spThing K))
    (Nlaw_made : Fn K mg "_law_made" s_law_made ["_law_one", "_law_other"] f2 fd2) (Glaw_made : FnOk P w K mg base CX0 4 f2 fd2 ["_law_one", "_law_other"] (spMade C0 C1 C2 C3 C4 C5 C6 C7 C8 C9 C10 C11 C12 C13 C14 C15 C16 C17 C18 C19 C20 C21 C22 C23 C24 C25 C26 C27 C28 C29 C30 C31 C32 C33 C34 C35 C36 C37 C38 C39 C40 C41 C42 C43 C44 C45 C46))
    (Nlaw_kinds : Fn K mg "_law_kinds" s_law_kinds ["_law_error"] f3 fd3) (Glaw_kinds : FnOk P w K mg base CX0 1 f3 fd3 ["_law_error"] (spKinds K [C0, C1, C2, C3, C4, C5, C6, C7, C8, C9, C10, C11, C12, C13, C14, C15, C16, C17, C18, C19, C20, C21, C22, C23, C24, C25, C26, C27, C28, C29, C30, C31, C32, C33, C34, C35, C36, C37, C38, C39, C40, C41, C42, C43, C44, C45, C46]))
    (Nlaw_fields : Fn K mg "_law_fields" s_law_fields ["_law_made_here"] f4 fd4) (Glaw_fields : FnOk P w K mg base CX0 1 f4 fd4 ["_law_made_here"] (spFields K C0 C1 C2 C3 C4 C5 C6 C7 C8 C9 C10 C11 C12 C13 C14 C15 C16 C17 C18 C19 C20 C21 C22 C23 C24 C25 C26 C27 C28 C29 C30 C31 C32 C33 C34 C35 C36 C37 C38 C39 C40 C41 C42 C43 C44 C45 C46)) :
    GOk P w K mg base CX0 5 f fd ["_law_box_here"] spRight := by
  refine gok F sc_law_right (fun vs H Q E h => ?_) (fun cdv A outer s H vs Q E gd hr h => ?_)
  · obtain ⟨b, n, rfl, _⟩ := h
    rfl
  · obtain ⟨b, n, rfl, hb, hn, sm, k⟩ := h
    have hU : (A.deeper (envOfC "_law_right" (defScope s_law_right) s.heap.objs.size f cdv)).units + 64 < cLine := by
      have := hr.un
      omega
    refine ⟨_, pss_cons (ps_set (i := 1) sc_law_right.nd rfl (Or.inr rfl) (pe_call Glaw_thing (hr.mono (by decide)) (by rfl) Nlaw_thing.g Nlaw_thing.kp Nlaw_thing.b .nil pass0 (pa_cons (pv 0) pa_nil)))
      (pss_cons (ps_set (i := 2) sc_law_right.nd rfl (Or.inl rfl) (pe_call Glaw_thing (hr.mono (by decide)) (by rfl) Nlaw_thing.g Nlaw_thing.kp Nlaw_thing.b .nil pass0 (pa_cons (pv 0) pa_nil)))
      (pss_cons (ps_set (i := 3) sc_law_right.nd rfl (Or.inl rfl) (pe_call Glaw_made (hr.mono (by decide)) (by rfl) Nlaw_made.g Nlaw_made.kp Nlaw_made.b .nil pass0 (pa_cons (pv 1) (pa_cons (pv 2) pa_nil))))
      (pss_cons (ps_for PassesOwn.never rfl (pi_enum (by rfl) T.enumerate_ (pa_cons (pv 3) pa_nil)) (pg_tup (by rfl) (pgs_cons (pg_name (i := 4) sc_law_right.nd rfl (Or.inr rfl)) (pgs_cons (pg_name (i := 7) sc_law_right.nd rfl (Or.inl rfl)) pgs_nil))) (pss_cons (ps_if (pt_cmpR (neDK (K := K) rfl hU) (pe_call Glaw_kinds (hr.mono (by decide)) (by rfl) Nlaw_kinds.g Nlaw_kinds.kp Nlaw_kinds.b .nil pass0 (pa_cons (pv 7) pa_nil)) (pe_lc (own := [("_law_k", 8)]) (g := gName 8) (tt := tYes) rfl sc_law_right.nd (pi_range1 (by rfl) T.range_ (pa_cons (pe_callB call_len_seq (by rfl) T.len_ PySem.boot_len (pa_cons (pv 3) pa_nil)) pa_nil)) (blkOk_by (own := [("_law_k", 8)]) (N := ["_law_box_here", "_law_one", "_law_other", "_law_made_here", "_law_at", "_law_due", "_law_thing_here", "_law_error", "_law_k"]) (sc := defScope s_law_right) (by decide +kernel)) (fun _ _ _ _ _ => (pg_name (i := 8) sc_law_right.nd rfl (Or.inl rfl))) (fun _ _ _ _ _ => pts_nil) (fun _ _ _ _ _ => (pe_cmpR op_eq (pv 4) (pv 8) (nomark _)))) (nomark _)) (pss_one (ps_ret pe_bl)) pss_nil)
          (pss_one (ps_if (PW.pt (pw_or (pt_not (pt_val (pe_callB (isXK (K := K) rfl) (by rfl) T.isinstance_ (by decide +kernel) (pa_cons (pv 7) (pa_cons (pe_glob (v := .ref CE) (by rfl) gE rfl) pa_nil))))) (pw_or1 (pt_not (pt_val (pe_callB (isXK (K := K) rfl) (by rfl) T.isinstance_ (by decide +kernel) (pa_cons (pv 7) (pa_cons (pe_bltn (v := .ty "ValueError") (by rfl) hV (by decide +kernel) rfl) pa_nil)))))))) (pss_one (ps_ret pe_bl)) pss_nil))))
      (pss_cons (ps_set (i := 5) sc_law_right.nd rfl (Or.inl rfl) (pe_op op_cat (pe_lc (own := [("_law_error", 7)]) (g := gName 7) (tt := tYes) rfl sc_law_right.nd (pi_list (pe_slice (slLK (K := K) rfl) (pv 3) po_none (po_some (pe_un un_neg pe_int)))) (blkOk_by (own := [("_law_error", 7)]) (N := ["_law_box_here", "_law_one", "_law_other", "_law_made_here", "_law_at", "_law_due", "_law_thing_here", "_law_error", "_law_k"]) (sc := defScope s_law_right) (by decide +kernel)) (fun _ _ _ _ _ => (pg_name (i := 7) sc_law_right.nd rfl (Or.inl rfl))) (fun _ _ _ _ _ => pts_nil) (fun _ _ _ _ _ => (pv 1))) (pe_lst (pa_cons (pv 1) (pa_cons (pv 1) (pa_cons (pv 2) (pa_cons (pv 1) (pa_cons (pv 2) pa_nil))))))))
      (pss_cons (ps_for PassesOwn.never rfl (pi_list (pe_lst (pa_cons (pv 1) (pa_cons (pv 2) pa_nil)))) (pg_name (i := 6) sc_law_right.nd rfl (Or.inl rfl)) (pss_cons (ps_if (pt_cmpR op_ne (pe_callB (call_reprQ ns gd hr) (by rfl) T.repr_ (by decide +kernel) (pa_cons (pe_call Glaw_fields (hr.mono (by decide)) (by rfl) Nlaw_fields.g Nlaw_fields.kp Nlaw_fields.b .nil pass0 (pa_cons (pv 3) pa_nil)) pa_nil)) (pe_callB (call_reprQ ns gd hr) (by rfl) T.repr_ (by decide +kernel) (pa_cons (pv 5) pa_nil)) (nomark _)) (pss_one (ps_ret pe_bl)) pss_nil)
          (pss_cons (ps_if (pt_val (pe_callB (isiK (K := K) rfl) (by rfl) T.isinstance_ (by decide +kernel) (pa_cons (pv 6) (pa_cons (pe_bltn (v := .ty "list") (by rfl) T.list_ (by decide +kernel) rfl) pa_nil)))) (pss_one (ps_expr (pe_bm PySem.F.plainAttrs_list PySem.F.slot_list_append PySem.F.type_list_append mt_append (pv 6) (pa_cons pe_str pa_nil)))) pss_nil)
          (pss_one (ps_if (pt_val (pe_callB (isiK (K := K) rfl) (by rfl) T.isinstance_ (by decide +kernel) (pa_cons (pv 6) (pa_cons (pe_bltn (v := .ty "dict") (by rfl) hD (by decide +kernel) rfl) pa_nil)))) (pss_one (ps_dput (hu_of hr) (pv 6) pe_str pe_int rfl)) pss_nil)))))
      (pss_one (ps_ret (pe_cmpR op_eq (pe_callB (call_reprQ ns gd hr) (by rfl) T.repr_ (by decide +kernel) (pa_cons (pe_call Glaw_fields (hr.mono (by decide)) (by rfl) Nlaw_fields.g Nlaw_fields.kp Nlaw_fields.b .nil pass0 (pa_cons (pv 3) pa_nil)) pa_nil)) (pe_callB (call_reprQ ns gd hr) (by rfl) T.repr_ (by decide +kernel) (pa_cons (pv 5) pa_nil)) (nomark _))))))))), ?_⟩
    generalize hσ : L2.start _ _ = σ0
    obtain rfl : σ0 = [some (.ref b), none, none, none, none, none, none, none, none] := hσ.symm.trans rfl
    have bs : b ≠ sysModules := fun e => by
      obtain ⟨o, so⟩ := sm
      obtain ⟨x, y, z, hb1, _⟩ := hb
      rw [e, so] at hb1
      cases hb1
    rw [tSeq, tAsg]
    refine ⟨_, rfl, b, n, rfl, hb, by omega, fun v1 d1 m1 H1 a1 a2 a3 th1 kb1 B1 => ?_⟩
    dsimp only [gName, List.set_cons_succ, List.set_cons_zero]
    rw [tSeq, tAsg]
    refine ⟨_, rfl, b, n + 2, rfl, B1, by omega, fun v2 d2 m2 H2 c1 c2 c3 th2 kb2 B2 => ?_⟩
    dsimp only [gName, List.set_cons_succ, List.set_cons_zero]
    rw [tSeq, tAsg]
    refine ⟨_, rfl, _, rfl, v1, v2, rfl, fun p xs H3 s3 n3 e3 ks => ?_⟩
    dsimp only [gName, List.set_cons_succ, List.set_cons_zero]
    have kC : ∀ {i : Nat} {c : Addr × Option (Str × V)}, (madeL C0 C1 C2 C3 C4 C5 C6 C7 C8 C9 C10 C11 C12 C13 C14 C15 C16 C17 C18 C19 C20 C21 C22 C23 C24 C25 C26 C27 C28 C29 C30 C31 C32 C33 C34 C35 C36 C37 C38 C39 C40 C41 C42 C43 C44 C45 C46 v1 v2)[i]? = some c → ([C0, C1, C2, C3, C4, C5, C6, C7, C8, C9, C10, C11, C12, C13, C14, C15, C16, C17, C18, C19, C20, C21, C22, C23, C24, C25, C26, C27, C28, C29, C30, C31, C32, C33, C34, C35, C36, C37, C38, C39, C40, C41, C42, C43, C44, C45, C46] : List Addr)[i]? = some c.1 := fun {i c} h => by
      have e := congrArg (Option.map Prod.fst) h
      rw [← List.getElem?_map] at e
      exact e
    have h47 : xs.length = 47 := ks.len
    rw [tSeq]
    refine ⟨_, rfl, p, xs, rfl, SqL.of e3, for_it (walk_enum (K := K) (a := p) (xs := xs)) (fun _ σ H' => (∃ x y, σ = [some (.ref b), some v1, some v2, some (.ref p), x, none, none, y, none]) ∧ Same H3 H') ⟨⟨_, _, rfl⟩, fun _ _ h => h⟩ (fun _ _ _ _ h => SqL.of (h.2 _ _ e3)) ?_ ?_⟩
    · rintro i v σ H4 H5 hi ⟨⟨x, y, rfl⟩, s4⟩ ⟨T1, a, e, rfl, hT, rfl, q1, q2⟩
      obtain rfl := Option.some.inj q1
      refine ⟨T1, _, rfl, SqT.of upd_same, rfl, _, _, rfl, _, _, rfl, rfl, ?_⟩
      have s5 := same_trans s4 (same_alloc (o := HO.tup [.int (i : Nat), e]) hT)
      generalize upd H4 T1 (.tup [.int (i : Nat), e]) = H5 at s5 ⊢
      obtain ⟨c, hc, kc⟩ := ks.at q2
      have hC := kC hc
      have hm := List.mem_of_getElem? hC
      have kd := (kc.nt (same_nt s5)).d
      refine ⟨_, rfl, e, c.1, rfl, kd, cl.ex _ hm, (fun D hD => cl.kd _ hm _ hD), fun q H6 s6 hq eq => ?_⟩
      have s36 := same_trans s5 s6
      refine ⟨_, rfl, p, xs, rfl, .inl (SqL.of (s36 _ _ e3)), _, rfl, by omega, by omega, fun D hD => ?_⟩
      have hn : ((xs.length : Nat) : Int).toNat = 47 := by rw [h47]; rfl
      rw [hn]
      refine eqs_it (j := i) (n := 47) rfl (by exact Nat.le_of_ble_eq_true rfl) (by decide) hD fun H7 s7 e7 => ?_
      have s37 := same_trans s36 s7
      have eL := eqL_at cl.nd hC
      have dq7 : Dp K H7 (.ref q) (.list ((List.range 47).map fun k : Nat => PyData.bool (decide (V.int (i : Int) = V.int ((0 : Int) + (k : Int)))))) := bls_dp (f := fun k : Nat => decide (V.int (i : Int) = V.int ((0 : Int) + (k : Int)))) (n := 47) (s7 _ _ (eq.trans (congrArg (fun l => some (HO.lst l)) eL)))
      have dD7 : Dp K H7 (.ref D) (.list ((List.range 47).map fun k : Nat => PyData.bool (decide (V.int (i : Int) = V.int ((0 : Int) + (k : Int)))))) := bls_dp (f := fun k : Nat => decide (V.int (i : Int) = V.int ((0 : Int) + (k : Int)))) (n := 47) e7
      have sh : SeqAt.shaped (.list ((List.range 47).map fun k : Nat => PyData.bool (decide (V.int (i : Int) = V.int ((0 : Int) + (k : Int)))))) = true := by
        have := bls_shaped ((List.range 47).map fun k : Nat => decide (V.int (i : Int) = V.int ((0 : Int) + (k : Int))))
        rw [List.map_map] at this
        exact this
      refine ⟨_, _, dq7, dD7, sh, sh, ?_⟩
      rw [SeqAt.eqv_refl _ (SeqAt.canLay_of_shaped sh)]
      refine ⟨_, rfl, ?_⟩
      obtain ⟨ea, ed, rfl, g1, g2⟩ := (kc.nt (same_nt (same_trans s5 (same_trans s6 s7)))).d
      refine ⟨_, rfl, ea, c.1, ed, .ref CE, .ref CE, true, rfl, cl.ex _ hm, g1, g2, (fun u r => r), cl.ke _ hm, _, rfl, ?_⟩
      refine ⟨_, rfl, ea, c.1, ed, .ty "ValueError", .type "ValueError", true, rfl, cl.ex _ hm, g1, g2, (fun u r => r), cl.kv _ hm, _, rfl, ?_⟩
      exact ⟨⟨_, _, rfl⟩, s37⟩
    · rintro σ H4 ⟨⟨x, y, rfl⟩, s4⟩
      refine ⟨_, rfl, 7, rfl, _, rfl, p, xs, rfl, SqL.of (s4 _ _ e3), fun c hc => ?_⟩
      rw [show cutV xs none (some (-(7 : Int))) = xs.take 40 from cut_back h47]
      have s5 := same_trans s4 (same_alloc (o := HO.lst (xs.take 40)) hc)
      have e5 : (upd H4 c (.lst (xs.take 40))) c = some (.lst (xs.take 40)) := upd_same
      generalize upd H4 c (.lst (xs.take 40)) = H5 at s5 e5 ⊢
      refine ⟨c, rfl, ⟨_, SqL.of e5⟩, fun D hD => same_it (K := K) (y := v1) rfl hD e5 (by rw [List.length_take]; omega) fun H6 s6 e6 => ?_⟩
      rw [List.length_take, h47] at e6
      have s36 := same_trans s5 s6
      refine ⟨_, rfl, _, rfl, _, rfl, _, rfl, _, rfl, by rw [sizeLine_eq]; show 5 ≤ 16777216; decide, fun q hq => ⟨D, q, _, _, rfl, rfl, (same_alloc hq) _ _ e6, upd_same, ?_, fun u hu => ?_⟩⟩
      · rw [List.length_replicate, sizeLine_eq]
        show 40 + 5 ≤ 16777216
        decide
      have s7 := same_trans s36 (same_alloc (o := HO.lst [v1, v1, v2, v1, v2]) hq)
      generalize upd H6 q (.lst [v1, v1, v2, v1, v2]) = H7 at s7 hu ⊢
      have s8 := same_trans s7 (same_alloc (o := HO.lst (dueL v1 v2)) hu)
      have e8 : (upd H7 u (.lst (dueL v1 v2))) u = some (.lst (dueL v1 v2)) := upd_same
      have n3u := same_free s7 hu
      change tSeq _ _ _ _ (upd H7 u (.lst (dueL v1 v2)))
      generalize upd H7 u (.lst (dueL v1 v2)) = H8 at s8 e8 ⊢
      refine ⟨_, rfl, _, rfl, by rw [sizeLine_eq]; show 2 ≤ 16777216; decide, fun ℓ hℓ => ?_⟩
      have s9 := same_trans s8 (same_alloc (o := HO.lst [v1, v2]) hℓ)
      have s89 := same_alloc (o := HO.lst [v1, v2]) hℓ
      have e9 : (upd H8 ℓ (.lst [v1, v2])) ℓ = some (.lst [v1, v2]) := upd_same
      have n3ℓ := same_free s8 hℓ
      generalize upd H8 ℓ (.lst [v1, v2]) = H9 at s9 s89 e9 ⊢
      -- what lies where
      have some1 : ∀ c o, H c = some o → ∃ o', H1 c = some o' := fun c o h => by
        by_cases cb : c = b
        · obtain ⟨x, y, z, hb1, _⟩ := id B1
          exact ⟨_, by rw [cb]; exact hb1⟩
        · exact ⟨_, kb1 c o cb h⟩
      have some2 : ∀ c o, H1 c = some o → ∃ o', H2 c = some o' := fun c o h => by
        by_cases cb : c = b
        · obtain ⟨x, y, z, hb1, _⟩ := id B2
          exact ⟨_, by rw [cb]; exact hb1⟩
        · exact ⟨_, kb2 c o cb h⟩
      have nil1 : ∀ c, H2 c = none → H1 c = none := fun c h => by
        cases e : H1 c with
        | none => rfl
        | some o => obtain ⟨o', e'⟩ := some2 _ _ e; rw [h] at e'; cases e'
      have f1 : ∀ c, H2 c = none → fresh H H1 c = none := fun c h => fresh_nil (nil1 c h)
      have f2 : ∀ c, H2 c = none → fresh H1 H2 c = none := fun c h => fresh_nil h
      have n2u := same_free s3 n3u
      have n2ℓ := same_free s3 n3ℓ
      have hbH : ∃ o, H b = some o := by
        obtain ⟨x, y, z, hb1, _⟩ := id hb
        exact ⟨_, hb1⟩
      have hsH : ∃ o, H sysModules = some o := by
        obtain ⟨o, so⟩ := id sm
        exact ⟨_, so⟩
      have hfb : fresh H H1 b = none := let ⟨_, e⟩ := hbH; fresh_old e
      have hfs : fresh H H1 sysModules = none := let ⟨_, e⟩ := hsH; fresh_old e
      have old2 : ∀ c o, H c = some o → fresh H1 H2 c = none := fun c o h => let ⟨_, e⟩ := some1 c o h; fresh_old e
      have hgb : fresh H1 H2 b = none := let ⟨_, e⟩ := hbH; old2 _ _ e
      have hgs : fresh H1 H2 sysModules = none := let ⟨_, e⟩ := hsH; old2 _ _ e
      have x21 : ∀ c o, fresh H1 H2 c = some o → fresh H H1 c = none := fun c o h => fresh_nil (fresh_some h).1
      have x12 : ∀ c, fresh H H1 c = none ∨ fresh H1 H2 c = none := fun c => by
        cases e : fresh H1 H2 c with
        | none => exact .inr rfl
        | some o => exact .inl (x21 _ _ e)
      have t2 : Same H2 H9 := same_trans s3 s9
      have k2 : KB b H H2 := kb1.trans kb2
      have S1 : Same (fresh H H1) H9 := fun c o h => by
        have cb : c ≠ b := fun e => by rw [e, hfb] at h; cases h
        exact t2 _ _ (kb2 _ _ cb (fresh_some h).2)
      have S2 : Same (fresh H1 H2) H9 := fun c o h => t2 _ _ (fresh_some h).2
      obtain ⟨wa1, wb1⟩ := shapes_sb a1 a2 a3
      obtain ⟨wa2, wb2⟩ := shapes_sb c1 c2 c3
      have R0 : Rst K H b (n + 4) p u ℓ xs (madeL C0 C1 C2 C3 C4 C5 C6 C7 C8 C9 C10 C11 C12 C13 C14 C15 C16 C17 C18 C19 C20 C21 C22 C23 C24 C25 C26 C27 C28 C29 C30 C31 C32 C33 C34 C35 C36 C37 C38 C39 C40 C41 C42 C43 C44 C45 C46 v1 v2) v1 v2 (fresh H H1) (fresh H1 H2) d1 d2 H9 := by
        obtain ⟨x, y, z, hb2, r⟩ := id B2
        obtain ⟨o, so⟩ := id sm
        have sb : sysModules ≠ b := fun e => bs e.symm
        refine ⟨s9 _ _ e3, ks.nt (same_nt s9), s89 _ _ e8, e9, th1.dq, th2.dq, S1, S2, wa1, wa2, fun c o d h => t2 _ _ (k2 c o d h), ?_, ⟨o, t2 _ _ (k2 _ _ sb so)⟩⟩
        have : Bx b (n + 2 + 2) H9 := ⟨x, y, z, t2 _ _ hb2, r⟩
        exact this.mono (by omega)
      clear s4 s5 e5 s6 e6 s36 s7 s8 e8 s9 s89 e9 hu hq hℓ hD hc
      refine ⟨ℓ, rfl, ⟨_, SqL.of R0.hl⟩, for_it (walk_list (K := K) (a := ℓ) (xs := [v1, v2])) (fun i σ H' => (∃ w, σ = [some (.ref b), some v1, some v2, some (.ref p), x, some (.ref u), w, y, none]) ∧
        ∃ F1 F2 z1 z2, Rst K H b (n + 4) p u ℓ xs (madeL C0 C1 C2 C3 C4 C5 C6 C7 C8 C9 C10 C11 C12 C13 C14 C15 C16 C17 C18 C19 C20 C21 C22 C23 C24 C25 C26 C27 C28 C29 C30 C31 C32 C33 C34 C35 C36 C37 C38 C39 C40 C41 C42 C43 C44 C45 C46 v1 v2) v1 v2 F1 F2 z1 z2 H' ∧ (i = 0 → F1 = fresh H H1 ∧ z1 = d1) ∧ (i ≤ 1 → F2 = fresh H1 H2 ∧ z2 = d2) ∧ (∀ c, fresh H H1 c = none → F1 c = none)) ?_ ?_ ?_ ?_⟩
      · exact ⟨⟨_, rfl⟩, _, _, _, _, R0, fun _ => ⟨rfl, rfl⟩, fun _ => ⟨rfl, rfl⟩, fun _ h => h⟩
      · rintro i σ H' _ ⟨_, F1, F2, z1, z2, R, _⟩
        exact SqL.of R.hl
      · rintro i v σ G H' hi ⟨⟨w, rfl⟩, F1, F2, z1, z2, R, i1, i2, i3⟩ ⟨rfl, hv⟩
        refine ⟨_, rfl, p, xs, v1, v2, rfl, R.hp, R.ks, fl v1 v2, fun q7 G7 s7 hq7 eq7 => ?_⟩
        have R7 := R.same s7
        obtain ⟨dq1, r1, r2, r3⟩ := R7.rep eq7
        obtain ⟨dq2, _⟩ := R7.rep R7.hu
        refine ⟨_, _, rfl, R7.sm, dq1, r1, r2, r3, ?_⟩
        refine ⟨_, rfl, _, _, rfl, R7.sm, dq2, r1, r2, r3, ?_⟩
        refine ⟨rfl, _, rfl, ?_⟩
        rw [decide_eq_true rfl]
        match i, hi with
        | 0, _ =>
          obtain rfl := Option.some.inj hv
          obtain ⟨rfl, rfl⟩ := i1 rfl
          obtain ⟨rfl, rfl⟩ := i2 (by omega)
          exact grow (i := 6) th1 a3 R7.s1 rfl fun F' G' s' q' h0 hg kx => ⟨⟨_, rfl⟩, F', fresh H1 H2, _, _, R7.up1 s' q' wb1 hg kx (f1 _ n3) (f1 _ n2u) (f1 _ n2ℓ) hfb hfs (fun c o h => fresh_old h) x21, (fun e => by cases e), (fun _ => ⟨rfl, rfl⟩), h0⟩
        | 1, _ =>
          obtain rfl := Option.some.inj hv
          obtain ⟨rfl, rfl⟩ := i2 (Nat.le_refl 1)
          exact grow (i := 6) th2 c3 R7.s2 rfl fun F' G' s' q' h0 hg kx => ⟨⟨_, rfl⟩, F1, F', z1, _, R7.up2 s' q' wb2 hg kx (f2 _ n3) (f2 _ n2u) (f2 _ n2ℓ) hgb hgs old2 (fun c o h => (x12 c).resolve_left fun e => by rw [i3 c e] at h; cases h), (fun e => by cases e), (fun e => by omega), i3⟩
      · rintro σ G ⟨⟨w, rfl⟩, F1, F2, z1, z2, R, i1, i2, i3⟩
        refine ⟨_, rfl, p, xs, v1, v2, rfl, R.hp, R.ks, fl v1 v2, fun q7 G7 s7 hq7 eq7 => ?_⟩
        have R7 := R.same s7
        obtain ⟨dq1, r1, r2, r3⟩ := R7.rep eq7
        obtain ⟨dq2, _⟩ := R7.rep R7.hu
        refine ⟨_, _, rfl, R7.sm, dq1, r1, r2, r3, ?_⟩
        refine ⟨_, rfl, _, _, rfl, R7.sm, dq2, r1, r2, r3, ?_⟩
        refine ⟨rfl, ?_⟩
        rw [decide_eq_true rfl]
        exact k G7 R7.kb R7.bx
end
end E9

set_option maxRecDepth 100000
set_option maxHeartbeats 3200000
/-! What the classes' orders say of isinstance. -/
namespace E9
open PySem PySem.Spec PyProof.Rows L2 GxR Gd TL My
/-- a class C straight under CE -/
structure Cd (K : PySem.W.Frag) (CE C : Addr) : Prop where
  cls : ∃ cd, PySem.W.clsIn K C = some cd ∧ cd.mro = [.ref C, .ref CE, .type "ValueError", .type "Exception", .type "BaseException", .type "object"]
  ty : PySem.W.typeIn K (.ref C) = some (.type "type")
structure Ce (K : PySem.W.Frag) (C : Addr) : Prop where
  cls : ∃ cd, PySem.W.clsIn K C = some cd ∧ cd.mro = [.ref C, .type "ValueError", .type "Exception", .type "BaseException", .type "object"]
  ty : PySem.W.typeIn K (.ref C) = some (.type "type")
theorem ref_beq {a b : Addr} : ((Value.ref a == Value.ref b) = true) ↔ a = b := by
  rw [beq_iff_eq]
  exact ⟨fun h => by cases h; rfl, fun h => by rw [h]⟩
theorem kit_at {K : PySem.W.Frag} {D C : Addr} {cd ce : ClassData} {l : List Value} (hD : PySem.W.clsIn K D = some cd) (hm : cd.mro = .ref D :: l) (hC : PySem.W.clsIn K C = some ce) (ty : PySem.W.typeIn K (.ref C) = some (.type "type")) : PySem.W.kitOne K (.ref D) (.ref C) = some (decide (D = C) || l.contains (.ref C)) := by
  unfold PySem.W.kitOne
  by_cases e : D = C
  · rw [if_pos (ref_beq.mpr e), decide_eq_true e]
    rfl
  · rw [if_neg (fun h => e (ref_beq.mp h)), decide_eq_false e]
    show (if ((PySem.W.clsIn K C).isSome && PySem.W.typeIn K (.ref C) == some (.type "type")) = true then PySem.W.mroIn K D (.ref C) else none) = _
    rw [hC, ty, if_pos (by simp)]
    unfold PySem.W.mroIn
    rw [hD]
    simp only [Option.bind_some, hm, List.isEmpty_cons, Bool.false_eq_true, if_false, List.contains_cons, Bool.false_or]
    have : (Value.ref C == Value.ref D) = false := by
      rw [Bool.eq_false_iff]
      intro h
      exact e (ref_beq.mp h).symm
    rw [this, Bool.false_or]
theorem kit_ve {K : PySem.W.Frag} {D : Addr} {cd : ClassData} {l : List Value} (hD : PySem.W.clsIn K D = some cd) (hm : cd.mro = .ref D :: l) (hl : l.contains (.type "ValueError") = true) : PySem.W.kitOne K (.ref D) (.type "ValueError") = some true := by
  unfold PySem.W.kitOne
  rw [if_neg (by simp)]
  show (if PySem.W.kitMeta "ValueError" = true then PySem.W.mroIn K D (.type "ValueError") else none) = _
  rw [if_pos (by decide +kernel)]
  unfold PySem.W.mroIn
  rw [hD]
  simp only [Option.bind_some, hm, List.isEmpty_cons, Bool.false_eq_true, if_false, List.contains_cons, hl, Bool.or_true]
theorem cl_of {K : PySem.W.Frag} {Cs : List Addr} {CE : Addr} (nd : Cs.Nodup) (nE : CE ∉ Cs) (ex : ∀ D ∈ Cs, ExcC K D) (cd : ∀ D ∈ Cs, Cd K CE D) (ce : Ce K CE) : Cl K Cs CE ∧ (∀ C ∈ Cs, PySem.W.kitOne K (.ref CE) (.ref C) = some (decide (CE = C))) ∧ PySem.W.kitOne K (.ref CE) (.type "ValueError") = some true := by
  obtain ⟨e, he, hme⟩ := ce.cls
  have ne : ∀ C ∈ Cs, (Value.ref C == Value.ref CE) = false := fun C hC => by
    rw [Bool.eq_false_iff]
    intro h
    exact nE (by rw [← ref_beq.mp h]; exact hC)
  have nt : ∀ (C : Addr) (t : String), (Value.ref C == Value.type t) = false := fun C t => by
    rw [Bool.eq_false_iff]
    intro h
    cases beq_iff_eq.mp h
  refine ⟨⟨nd, ex, fun D hD C hC => ?_, fun D hD => ?_, fun D hD => ?_⟩, fun C hC => ?_, ?_⟩
  · obtain ⟨d, hd, hm⟩ := (cd D hD).cls
    obtain ⟨c, hc, _⟩ := (cd C hC).cls
    rw [kit_at hd hm hc (cd C hC).ty]
    simp only [List.contains_cons, List.contains_nil, ne C hC, nt, Bool.or_false]
  · obtain ⟨d, hd, hm⟩ := (cd D hD).cls
    rw [kit_at hd hm he ce.ty]
    have : (Value.ref CE == Value.ref CE) = true := ref_beq.mpr rfl
    simp only [List.contains_cons, this, Bool.true_or, Bool.or_true]
  · obtain ⟨d, hd, hm⟩ := (cd D hD).cls
    exact kit_ve hd hm (by simp)
  · obtain ⟨c, hc, _⟩ := (cd C hC).cls
    rw [kit_at he hme hc (cd C hC).ty]
    simp only [List.contains_cons, List.contains_nil, nt, Bool.or_false]
  · exact kit_ve he hme (by simp)
end E9
namespace E9
open PySem PySem.Spec PyProof.Rows L2 GxR Gd TL My
theorem fld_nil {K : PySem.W.Frag} : Fld K [] := fun c hc => by cases hc
theorem fld_cons {K : PySem.W.Frag} {C : Addr} {f : Str} {y : V} {l : List (Addr × Option (Str × V))} (a : XfC K C ∧ PySem.W.findIn K (.ref C) f = some none) (r : Fld K l) : Fld K ((C, some (f, y)) :: l) := by
  intro c hc g x e
  rcases List.mem_cons.mp hc with rfl | hc
  · cases e
    exact a
  · exact r c hc g x e
theorem fld_cons0 {K : PySem.W.Frag} {C : Addr} {l : List (Addr × Option (Str × V))} (r : Fld K l) : Fld K ((C, none) :: l) := by
  intro c hc g x e
  rcases List.mem_cons.mp hc with rfl | hc
  · cases e
  · exact r c hc g x e
theorem all_cons {p : Addr → Prop} {C : Addr} {l : List Addr} (a : p C) (r : ∀ D ∈ l, p D) : ∀ D ∈ C :: l, p D := by
  intro D hD
  rcases List.mem_cons.mp hD with rfl | hD
  · exact a
  · exact r D hD
theorem all_nil {p : Addr → Prop} : ∀ D ∈ ([] : List Addr), p D := fun D hD => by cases hD
end E9

set_option maxRecDepth 100000
set_option maxHeartbeats 3200000
/-! A class of the program, all that is asked of it at once. -/
namespace E9
open PySem PySem.Spec PyProof.Rows L2 GxR Gd TL My
structure WC (K : PySem.W.Frag) (x q : Str) (CE C f : Addr) (st : Stmt) : Prop where
  g : PySem.W.nsIn K mainGlobals x = some (some (.ref C))
  cls : ∃ (nm qq : Str) (N : Addr) (bs : List Value) (sn : List Str) (sub : List Value) (ab : Bool) (col : Option Bool) (dd : Option Addr) (k0 k1 k2 k3 k5 : Option Value),
    K.lookup C = some (excClassObj nm qq C N bs [.ref CE, .type "ValueError", .type "Exception", .type "BaseException", .type "object"] true sn sub ab col dd k0 k1 k2 k3 k5 "ValueError.__new__")
  sa : PySem.W.findIn K (.ref C) "__setattr__" = some (some (.builtin "object.__setattr__"))
  ga : PySem.W.findIn K (.ref C) "__getattribute__" = some (some (.builtin "BaseException.__getattribute__"))
  gg : PySem.W.findIn K (.ref C) "__getattr__" = some none
  kc : PySem.W.keepIn K (.ref C) = true
  ex : PySem.W.subIn K (.ref C) (.type "BaseException") = some true
  ty : PySem.W.typeIn K (.ref C) = some (.type "type")
  hd : PySem.W.hasDictIn K C = true
  co : PySem.W.findIn K (.ref C) "__class__" = some (some (.builtin "object.__class__"))
  mo : PySem.W.mroIn K C (.type "object") = some true
  i : PySem.W.findIn K (.ref C) "__init__" = some (some (.ref f))
  fi : PySem.W.isFn K (.ref f) = true
  l : ∃ (oc kV doc pm cdv ct : Value) (od an : Option Addr) (osl : Array (Option Value)), K.lookup f = some ⟨oc, od, .func (PySem.W.fnOf "__init__" q (defArgs st) (defBody st) (defScope st) .none kV doc pm an cdv ct), osl⟩ ∧ PySem.W.codeIn K cdv q = true
  k : PySem.W.keepIn K (.ref f) = true
section
variable {P : Program} {w : World} {K : PySem.W.Frag} {mg : Str → Option Value} {base hp : Heap} {x q fld : Str} {CE C f : Addr} {st : Stmt}
theorem WC.o (h : WC K x q CE C f st) : OexC K C := by
  obtain ⟨nm, qq, N, bs, sn, sub, ab, col, dd, k0, k1, k2, k3, k5, e⟩ := h.cls
  exact ⟨⟨nm, qq, N, bs, _, sn, sub, ab, col, dd, k0, k1, k2, k3, k5, e, rfl⟩, h.sa, h.ex, h.ty, h.kc⟩
theorem WC.xc (h : WC K x q CE C f st) (cg : PySem.W.specialIn K (.builtin "object.__class__") "__get__" = some (some (.builtin "getset_descriptor.__get__"))) (ct : PySem.W.takesIn K (.builtin "object.__class__") = some true) : L2.ExcC K C :=
  ⟨h.ga, h.gg, h.ex, h.hd, h.co, cg, ct, h.mo⟩
theorem WC.xf (h : WC K x q CE C f st) : XfC K C := ⟨h.ga, h.gg, h.ex, h.hd⟩
theorem WC.d (h : WC K x q CE C f st) : Cd K CE C := by
  obtain ⟨nm, qq, N, bs, sn, sub, ab, col, dd, k0, k1, k2, k3, k5, e⟩ := h.cls
  exact ⟨⟨_, (by unfold PySem.W.clsIn; rw [e]), rfl⟩, h.ty⟩
theorem WC.fn (h : WC K x q CE C f st) {ps : List Str} (hb : ∀ (kV doc pm : Value) (an : Option Addr) (cdv ct : Value) (us : List Value), us.length = ps.length → bindArgs (PySem.W.fnOf "__init__" q (defArgs st) (defBody st) (defScope st) .none kV doc pm an cdv ct) ⟨us, []⟩ = pure (ps.zip us)) : ∃ fd, Fun K "__init__" q st f fd ∧ Binds K fd ps [] := by
  obtain ⟨oc, kV, doc, pm, cdv, ct, od, an, osl, e, c⟩ := h.l
  exact ⟨_, fun_mk e c h.k, (fun_mk e c h.k).binds hb⟩
theorem WC.kx (h : WC K x q CE C f st) (n : PySem.W.findIn K (.ref C) fld = some none) (X : K.In hp) (G : hp.Ns mainGlobals mg) (cg : PySem.W.specialIn K (.builtin "object.__class__") "__get__" = some (some (.builtin "getset_descriptor.__get__"))) (ct : PySem.W.takesIn K (.builtin "object.__class__") = some true)
    (hb : ∀ (kV doc pm : Value) (an : Option Addr) (cdv ct : Value) (us : List Value), us.length = 2 → bindArgs (PySem.W.fnOf "__init__" q (defArgs st) (defBody st) (defScope st) .none kV doc pm an cdv ct) ⟨us, []⟩ = pure ((["self", fld] : List Str).zip us))
    (ok : ∀ fd, Fun K "__init__" q st f fd → OexC K C → PySem.W.findIn K (.ref C) fld = some none → FnOk P w K mg base CX0 2 f fd ["self", fld] (spOne K C fld)) : KX1 P w K mg base x fld C := by
  obtain ⟨fd, F, b⟩ := h.fn (ps := ["self", fld]) hb
  exact ⟨PySem.W.mg_of X G h.g, h.o, h.xc cg ct, h.xf, n, f, fd, h.i, beq_iff_eq.mp h.fi, b, ok fd F h.o n⟩
theorem WC.kx0 (h : WC K x q CE C f st) (X : K.In hp) (G : hp.Ns mainGlobals mg) (cg : PySem.W.specialIn K (.builtin "object.__class__") "__get__" = some (some (.builtin "getset_descriptor.__get__"))) (ct : PySem.W.takesIn K (.builtin "object.__class__") = some true)
    (hb : ∀ (kV doc pm : Value) (an : Option Addr) (cdv ct : Value) (us : List Value), us.length = 1 → bindArgs (PySem.W.fnOf "__init__" q (defArgs st) (defBody st) (defScope st) .none kV doc pm an cdv ct) ⟨us, []⟩ = pure ((["self"] : List Str).zip us))
    (ok : ∀ fd, Fun K "__init__" q st f fd → OexC K C → FnOk P w K mg base CX0 2 f fd ["self"] (spNil K C)) : KX0 P w K mg base x C := by
  obtain ⟨fd, F, b⟩ := h.fn (ps := ["self"]) hb
  exact ⟨PySem.W.mg_of X G h.g, h.o, h.xc cg ct, f, fd, h.i, beq_iff_eq.mp h.fi, b, ok fd F h.o⟩
end
end E9

set_option maxRecDepth 100000
set_option maxHeartbeats 3200000
namespace E9
open PySem PySem.Spec PyProof.Rows L2 GxR Gd TL My
/-- the one above them all -/
structure KXS (P : Program) (w : World) (K : PySem.W.Frag) (mg : Str → Option Value) (base : Heap) (C : Addr) : Prop where
  g : mg "StaffError" = some (.ref C)
  o : OexC K C
  e : ExcC K C
  m : ∃ f fd, PySem.W.findIn K (.ref C) "__init__" = some (some (.ref f)) ∧ PySem.W.typeIn K (.ref f) = some (.type "function") ∧ Binds K fd ["self", "text"] [] ∧ FnOk P w K mg base CX0 1 f fd ["self", "text"] (spUp K)
section
variable {X : Cx} {e : Expr} {es : List Expr} {ta : TA} {p pos : Pos} {C : Addr}
theorem KXS.pe (T : KXS X.prog X.w X.K X.mg X.base C) (hr : Room 2 X.A) (hg : Gl X "StaffError") (ha : PA X (e :: es) ta)
    (hdb : (("StaffError" : Str) == ("__debug__" : Str)) = false := by decide) (he : starEach (e :: es) X.env = (false, eval e X.env) :: starEach es X.env := by rfl) (hpl : (backTo pos (starEach es X.env)).any (·.1) = false := by rfl) :
    PE X (.Call (.Name "StaffError" p) (e :: es) [] pos) (tMkV C (spUp X.K) ta) := by
  obtain ⟨f, fd, iC, tI, hb, F⟩ := T.m
  exact pe_oexV T.o iC tI F hr hb pass0 hg T.g ha hdb he hpl
end
section
variable {P : Program} {w : World} {K : PySem.W.Frag} {mg : Str → Option Value} {base : Heap}
abbrev s_law : Stmt := top 58
theorem sc_law : FnScope ["_law_script", "_law_k", "_law_box_here", "_law_above"] ["_law_script"] (defScope s_law) := ⟨rfl, rfl, rfl, by decide +kernel, rfl, by decide +kernel, by decide +kernel⟩
def spLaw (K : PySem.W.Frag) : Sp := fun vs H Q _ => ∃ (l : Addr) (ns : List Int), vs = [.ref l] ∧ SqL K H l (ns.map V.int) ∧ SmAt H ∧ ns.length ≤ 63 ∧ ∀ H', Q (.bl true) H'
theorem ok_law {C0 C1 C2 C3 C4 C5 C6 C7 C8 C9 C10 C11 C12 C13 C14 C15 C16 C17 C18 C19 C20 C21 C22 C23 C24 C25 C26 C27 C28 C29 C30 C31 C32 C33 C34 C35 C36 C37 C38 C39 C40 C41 C42 C43 C44 C45 C46 CE : Addr} {f f1 f2 f3 f4 : Addr} {fd fd1 fd2 fd3 fd4 : FuncData} (F : Fun K "law" "law" s_law f fd) (T : Txt mg) (hV : mg "ValueError" = none) (ES : KXS P w K mg base CE) (cl : Cl K [C0, C1, C2, C3, C4, C5, C6, C7, C8, C9, C10, C11, C12, C13, C14, C15, C16, C17, C18, C19, C20, C21, C22, C23, C24, C25, C26, C27, C28, C29, C30, C31, C32, C33, C34, C35, C36, C37, C38, C39, C40, C41, C42, C43, C44, C45, C46] CE)
    (kE : ∀ C ∈ ([C0, C1, C2, C3, C4, C5, C6, C7, C8, C9, C10, C11, C12, C13, C14, C15, C16, C17, C18, C19, C20, C21, C22, C23, C24, C25, C26, C27, C28, C29, C30, C31, C32, C33, C34, C35, C36, C37, C38, C39, C40, C41, C42, C43, C44, C45, C46] : List Addr), PySem.W.kitOne K (.ref CE) (.ref C) = some (decide (CE = C))) (nE : CE ∉ ([C0, C1, C2, C3, C4, C5, C6, C7, C8, C9, C10, C11, C12, C13, C14, C15, C16, C17, C18, C19, C20, C21, C22, C23, C24, C25, C26, C27, C28, C29, C30, C31, C32, C33, C34, C35, C36, C37, C38, C39, C40, C41, C42, C43, C44, C45, C46] : List Addr)) (vE : PySem.W.kitOne K (.ref CE) (.type "ValueError") = some true)
    (Nlaw_cell : Fn K mg "_law_cell" sCell ["_law_script", "_law_k"] f1 fd1) (Glaw_cell : FnOk P w K mg base CX0 1 f1 fd1 ["_law_script", "_law_k"] (spCell K))
    (Nlaw_box : Fn K mg "_law_box" sBox ["_law_cell_here"] f2 fd2) (Glaw_box : FnOk P w K mg base CX0 1 f2 fd2 ["_law_cell_here"] spBox)
    (Nlaw_kinds : Fn K mg "_law_kinds" s_law_kinds ["_law_error"] f3 fd3) (Glaw_kinds : FnOk P w K mg base CX0 1 f3 fd3 ["_law_error"] (spKinds K [C0, C1, C2, C3, C4, C5, C6, C7, C8, C9, C10, C11, C12, C13, C14, C15, C16, C17, C18, C19, C20, C21, C22, C23, C24, C25, C26, C27, C28, C29, C30, C31, C32, C33, C34, C35, C36, C37, C38, C39, C40, C41, C42, C43, C44, C45, C46]))
    (Nlaw_right : Fn K mg "_law_right" s_law_right ["_law_box_here"] f4 fd4) (Glaw_right : GOk P w K mg base CX0 5 f4 fd4 ["_law_box_here"] spRight) :
    GOk P w K mg base CX0 6 f fd ["_law_script"] (spLaw K) := by
  refine gok F sc_law (fun vs H Q E h => ?_) (fun cdv A outer s H vs Q E gd hr h => ?_)
  · obtain ⟨l, ns, rfl, _⟩ := h
    rfl
  · obtain ⟨l, ns, rfl, hS, sm, hlen, k⟩ := h
    have hu := hr.units
    refine ⟨_, pss_cons (ps_for PassesOwn.never rfl (pi_range1 (by rfl) T.range_ (pa_cons (pe_callB (call_max2 rfl) (by rfl) T.max_ (by decide +kernel) (pa_cons pe_int (pa_cons (pe_callB (call_min2 rfl) (by rfl) T.min_ (by decide +kernel) (pa_cons pe_int (pa_cons (pe_callB call_len_seq (by rfl) T.len_ PySem.boot_len (pa_cons (pv 0) pa_nil)) pa_nil))) pa_nil))) pa_nil)) (pg_name (i := 1) sc_law.nd rfl (Or.inl rfl)) (pss_cons (ps_set (i := 2) sc_law.nd rfl (Or.inl rfl) (pe_call Glaw_box (hr.mono (by decide)) (by rfl) Nlaw_box.g Nlaw_box.kp Nlaw_box.b .nil pass0 (pa_cons (pe_call Glaw_cell (hr.mono (by decide)) (by rfl) Nlaw_cell.g Nlaw_cell.kp Nlaw_cell.b .nil pass0 (pa_cons (pv 0) (pa_cons (pv 1) pa_nil))) pa_nil)))
          (pss_one (ps_if (PW.pt (pw_or (pt_not (pt_val (pe_gcall gd Glaw_right (hr.mono (by decide)) (by rfl) Nlaw_right.g Nlaw_right.kp Nlaw_right.b .nil pass0 (pa_cons (pv 2) pa_nil)))) (pw_or1 (pt_not (pt_val (pe_gcall gd Glaw_right (hr.mono (by decide)) (by rfl) Nlaw_right.g Nlaw_right.kp Nlaw_right.b .nil pass0 (pa_cons (pv 2) pa_nil))))))) (pss_one (ps_ret pe_bl)) pss_nil))))
      (pss_cons (ps_set (i := 3) sc_law.nd rfl (Or.inl rfl) (KXS.pe ES (hr.mono (by decide)) (by rfl) (pa_cons pe_str pa_nil)))
      (pss_one (ps_ret (pe_and (pe_callB (isXK (K := K) rfl) (by rfl) T.isinstance_ (by decide +kernel) (pa_cons (pv 3) (pa_cons (pe_bltn (v := .ty "ValueError") (by rfl) hV (by decide +kernel) rfl) pa_nil))) (pe_one (pe_cmpR op_notIn_seq pe_bl (pe_call Glaw_kinds (hr.mono (by decide)) (by rfl) Nlaw_kinds.g Nlaw_kinds.kp Nlaw_kinds.b .nil pass0 (pa_cons (pv 3) pa_nil)) rfl)))))), ?_⟩
    generalize hσ : L2.start _ _ = σ0
    obtain rfl : σ0 = [some (.ref l), none, none, none] := hσ.symm.trans rfl
    refine ⟨_, rfl, l, _, rfl, .inl hS, 3, _, rfl, 2, _, rfl, _, rfl, ?_, ?_, for_it walk_range (fun _ σ H' => (∃ x y, σ = [some (.ref l), x, y, none]) ∧ Same H H') ⟨⟨_, _, rfl⟩, fun _ _ h => h⟩ (fun _ _ _ _ _ => trivial) ?_ ?_⟩
    · split <;> split <;> omega
    · rw [List.length_map]
      split <;> split <;> omega
    · rintro i v σ H1 _ hi ⟨⟨x, y, rfl⟩, s1⟩ ⟨rfl, rfl⟩
      refine ⟨_, rfl, _, rfl, l, ns, i, by simp, (same_nt s1).seq hS, fun c => ⟨c, rfl, fun b H2 fb off B => ?_⟩⟩
      have s2 : Same H H2 := fun c o h => by
        have e := s1 _ _ h
        rw [off c (ne_of_none e fb)]
        exact e
      have bH : H b = none := same_free s1 fb
      refine ⟨_, rfl, b, 0, rfl, B, by decide, sm.same s2, fun H3 kb3 B3 => ⟨_, rfl, ?_⟩⟩
      have s3 : Same H H3 := fun c o h => kb3 _ _ (ne_of_none h bH) (s2 _ _ h)
      refine ⟨_, rfl, b, 4, rfl, B3, by decide, sm.same s3, fun H4 kb4 B4 => ⟨_, rfl, ⟨_, _, rfl⟩, fun c o h => kb4 _ _ (ne_of_none h bH) (s3 _ _ h)⟩⟩
    · rintro σ H1 ⟨⟨x, y, rfl⟩, s1⟩
      refine ⟨by decide, fun a ha => ⟨a, CE, _, rfl, ES.o, upd_same, rfl, ?_⟩⟩
      have ea : (upd H1 a (exo a CE none)) a = some (exo a CE none) := upd_same
      generalize upd H1 a (exo a CE none) = H2 at ea ⊢
      refine ⟨_, rfl, a, CE, none, .ty "ValueError", .type "ValueError", true, rfl, ES.e, ea, .inl rfl, (fun u r => r), vE, ?_⟩
      refine ⟨true, rfl, ?_⟩
      have kd : KeptD H2 (.ref a) CE := ⟨a, none, rfl, ea, .inl rfl⟩
      refine ⟨_, rfl, .ref a, CE, rfl, kd, ES.e, kE, fun q H3 s3 hq eq => ?_⟩
      refine ⟨q, _, rfl, .inl (SqL.of eq), rfl, ?_, ?_⟩
      · rw [List.all_eq_true]
        intro v hv
        obtain ⟨C, _, rfl⟩ := List.mem_map.mp hv
        rfl
      · have no : inV (.bl true) (List.map (fun C => V.bl (decide (CE = C))) ([C0, C1, C2, C3, C4, C5, C6, C7, C8, C9, C10, C11, C12, C13, C14, C15, C16, C17, C18, C19, C20, C21, C22, C23, C24, C25, C26, C27, C28, C29, C30, C31, C32, C33, C34, C35, C36, C37, C38, C39, C40, C41, C42, C43, C44, C45, C46] : List Addr)) = false := by
          unfold inV
          rw [List.any_eq_false]
          intro v hv
          obtain ⟨C, hC, rfl⟩ := List.mem_map.mp hv
          rw [decide_eq_false (fun e => nE (by rw [e]; exact hC))]
          decide
        rw [no]
        exact k H3
end
end E9

set_option maxRecDepth 100000
set_option maxHeartbeats 4000000
namespace E9
open PySem PySem.Spec PyProof.Rows L2 GxR Gd TL My
theorem all_mk {l : PySem.W.OpenLaw}  {w : World} {K : PySem.W.Frag} {h : Heap} {mg : Str → Option Value} {fa CE C0 C1 C2 C3 C4 C5 C6 C7 C8 C9 C10 C11 C12 C13 C14 C15 C16 C17 C18 C19 C20 C21 C22 C23 C24 C25 C26 C27 C28 C29 C30 C31 C32 C33 C34 C35 C36 C37 C38 C39 C40 C41 C42 C43 C44 C45 C46 h0 h1 h2 h3 h4 h5 h6 h7 h8 h9 h10 h11 h12 h13 h14 h15 h16 h17 h18 h19 h20 h21 h22 h23 h24 h25 h26 h27 h28 h29 h30 h31 h32 h33 h34 h35 h36 h37 h38 h39 h40 h41 h42 h43 h44 h45 h46 f1 f2 f3 f4 f5 f6 f7 f8 f9 f10  : Addr} 
    (X : K.In h) (G : h.Ns mainGlobals mg) (hfa : mg "law" = some (.ref fa)) 
     {nmCE qCE : Str} {NCE : Addr} {bsCE : List Value} {snCE : List Str} {subCE : List Value} {abCE : Bool} {colCE : Option Bool} {ddCE : Option Addr} {m0CE m1CE m2CE m3CE m5CE : Option Value} {od1 an1 : Option Addr} {sl1 : Array (Option Value)} {oc1 kV1 dc1 pm1 cd1 ct1 : Value} {od2 an2 : Option Addr} {sl2 : Array (Option Value)} {oc2 kV2 dc2 pm2 cd2 ct2 : Value} {od3 an3 : Option Addr} {sl3 : Array (Option Value)} {oc3 kV3 dc3 pm3 cd3 ct3 : Value} {od4 an4 : Option Addr} {sl4 : Array (Option Value)} {oc4 kV4 dc4 pm4 cd4 ct4 : Value} {od5 an5 : Option Addr} {sl5 : Array (Option Value)} {oc5 kV5 dc5 pm5 cd5 ct5 : Value} {od6 an6 : Option Addr} {sl6 : Array (Option Value)} {oc6 kV6 dc6 pm6 cd6 ct6 : Value} {od7 an7 : Option Addr} {sl7 : Array (Option Value)} {oc7 kV7 dc7 pm7 cd7 ct7 : Value} {od8 an8 : Option Addr} {sl8 : Array (Option Value)} {oc8 kV8 dc8 pm8 cd8 ct8 : Value} {od9 an9 : Option Addr} {sl9 : Array (Option Value)} {oc9 kV9 dc9 pm9 cd9 ct9 : Value} {od10 an10 : Option Addr} {sl10 : Array (Option Value)} {oc10 kV10 dc10 pm10 cd10 ct10 : Value}
    (aCE : PySem.W.nsIn K mainGlobals "StaffError" = some (some (.ref CE))) (xlCE : K.lookup CE = some (excClassObj nmCE qCE CE NCE bsCE [.type "ValueError", .type "Exception", .type "BaseException", .type "object"] true snCE subCE abCE colCE ddCE m0CE m1CE m2CE m3CE m5CE "ValueError.__new__")) (saCE : PySem.W.findIn K (.ref CE) "__setattr__" = some (some (.builtin "object.__setattr__"))) (gaCE : PySem.W.findIn K (.ref CE) "__getattribute__" = some (some (.builtin "BaseException.__getattribute__"))) (ggCE : PySem.W.findIn K (.ref CE) "__getattr__" = some none) (kcCE : PySem.W.keepIn K (.ref CE) = true) (exCE : PySem.W.subIn K (.ref CE) (.type "BaseException") = some true) (tyCE : PySem.W.typeIn K (.ref CE) = some (.type "type")) (hdCE : PySem.W.hasDictIn K CE = true) (icCE : PySem.W.isClsIn K CE = true) (coCE : PySem.W.findIn K (.ref CE) "__class__" = some (some (.builtin "object.__class__"))) (moCE : PySem.W.mroIn K CE (.type "object") = some true) (a1 : PySem.W.findIn K (.ref CE) "__init__" = some (some (.ref f1))) (i1 : PySem.W.isFn K (.ref f1) = true) (l1 : K.lookup f1 = some ⟨oc1, od1, .func (PySem.W.fnOf "__init__" "StaffError.__init__" (defArgs sSE) (defBody sSE) (defScope sSE) .none kV1 dc1 pm1 an1 cd1 ct1), sl1⟩) (c1 : PySem.W.codeIn K cd1 "StaffError.__init__" = true) (k1 : PySem.W.keepIn K (.ref f1) = true) (a2 : PySem.W.nsIn K mainGlobals "_law_cell" = some (some (.ref f2))) (l2 : K.lookup f2 = some ⟨oc2, od2, .func (PySem.W.fnOf "_law_cell" "_law_cell" (defArgs sCell) (defBody sCell) (defScope sCell) .none kV2 dc2 pm2 an2 cd2 ct2), sl2⟩) (c2 : PySem.W.codeIn K cd2 "_law_cell" = true) (k2 : PySem.W.keepIn K (.ref f2) = true) (a3 : PySem.W.nsIn K mainGlobals "_law_box" = some (some (.ref f3))) (l3 : K.lookup f3 = some ⟨oc3, od3, .func (PySem.W.fnOf "_law_box" "_law_box" (defArgs sBox) (defBody sBox) (defScope sBox) .none kV3 dc3 pm3 an3 cd3 ct3), sl3⟩) (c3 : PySem.W.codeIn K cd3 "_law_box" = true) (k3 : PySem.W.keepIn K (.ref f3) = true) (a4 : PySem.W.nsIn K mainGlobals "_law_take" = some (some (.ref f4))) (l4 : K.lookup f4 = some ⟨oc4, od4, .func (PySem.W.fnOf "_law_take" "_law_take" (defArgs sTake) (defBody sTake) (defScope sTake) .none kV4 dc4 pm4 an4 cd4 ct4), sl4⟩) (c4 : PySem.W.codeIn K cd4 "_law_take" = true) (k4 : PySem.W.keepIn K (.ref f4) = true) (a5 : PySem.W.nsIn K mainGlobals "_law_thing" = some (some (.ref f5))) (l5 : K.lookup f5 = some ⟨oc5, od5, .func (PySem.W.fnOf "_law_thing" "_law_thing" (defArgs s_law_thing) (defBody s_law_thing) (defScope s_law_thing) .none kV5 dc5 pm5 an5 cd5 ct5), sl5⟩) (c5 : PySem.W.codeIn K cd5 "_law_thing" = true) (k5 : PySem.W.keepIn K (.ref f5) = true) (a6 : PySem.W.nsIn K mainGlobals "_law_kinds" = some (some (.ref f6))) (l6 : K.lookup f6 = some ⟨oc6, od6, .func (PySem.W.fnOf "_law_kinds" "_law_kinds" (defArgs s_law_kinds) (defBody s_law_kinds) (defScope s_law_kinds) .none kV6 dc6 pm6 an6 cd6 ct6), sl6⟩) (c6 : PySem.W.codeIn K cd6 "_law_kinds" = true) (k6 : PySem.W.keepIn K (.ref f6) = true) (a7 : PySem.W.nsIn K mainGlobals "_law_made" = some (some (.ref f7))) (l7 : K.lookup f7 = some ⟨oc7, od7, .func (PySem.W.fnOf "_law_made" "_law_made" (defArgs s_law_made) (defBody s_law_made) (defScope s_law_made) .none kV7 dc7 pm7 an7 cd7 ct7), sl7⟩) (c7 : PySem.W.codeIn K cd7 "_law_made" = true) (k7 : PySem.W.keepIn K (.ref f7) = true) (a8 : PySem.W.nsIn K mainGlobals "_law_fields" = some (some (.ref f8))) (l8 : K.lookup f8 = some ⟨oc8, od8, .func (PySem.W.fnOf "_law_fields" "_law_fields" (defArgs s_law_fields) (defBody s_law_fields) (defScope s_law_fields) .none kV8 dc8 pm8 an8 cd8 ct8), sl8⟩) (c8 : PySem.W.codeIn K cd8 "_law_fields" = true) (k8 : PySem.W.keepIn K (.ref f8) = true) (a9 : PySem.W.nsIn K mainGlobals "_law_right" = some (some (.ref f9))) (l9 : K.lookup f9 = some ⟨oc9, od9, .func (PySem.W.fnOf "_law_right" "_law_right" (defArgs s_law_right) (defBody s_law_right) (defScope s_law_right) .none kV9 dc9 pm9 an9 cd9 ct9), sl9⟩) (c9 : PySem.W.codeIn K cd9 "_law_right" = true) (k9 : PySem.W.keepIn K (.ref f9) = true) (a10 : PySem.W.nsIn K mainGlobals "law" = some (some (.ref f10))) (l10 : K.lookup f10 = some ⟨oc10, od10, .func (PySem.W.fnOf "law" "law" (defArgs s_law) (defBody s_law) (defScope s_law) .none kV10 dc10 pm10 an10 cd10 ct10), sl10⟩) (c10 : PySem.W.codeIn K cd10 "law" = true) (k10 : PySem.W.keepIn K (.ref f10) = true) (z0 : PySem.W.nsIn K mainGlobals "isinstance" = some none) (z1 : PySem.W.nsIn K mainGlobals "int" = some none) (z2 : PySem.W.nsIn K mainGlobals "bool" = some none) (z3 : PySem.W.nsIn K mainGlobals "str" = some none) (z4 : PySem.W.nsIn K mainGlobals "len" = some none) (z5 : PySem.W.nsIn K mainGlobals "all" = some none) (z6 : PySem.W.nsIn K mainGlobals "max" = some none) (z7 : PySem.W.nsIn K mainGlobals "min" = some none) (z8 : PySem.W.nsIn K mainGlobals "range" = some none) (z9 : PySem.W.nsIn K mainGlobals "repr" = some none) (z10 : PySem.W.nsIn K mainGlobals "list" = some none) (z11 : PySem.W.nsIn K mainGlobals "tuple" = some none) (z12 : PySem.W.nsIn K mainGlobals "enumerate" = some none) (z13 : PySem.W.nsIn K mainGlobals "sorted" = some none) (z14 : PySem.W.nsIn K mainGlobals "dict" = some none) (z15 : PySem.W.nsIn K mainGlobals "ValueError" = some none) (cg : PySem.W.specialIn K (.builtin "object.__class__") "__get__" = some (some (.builtin "getset_descriptor.__get__"))) (ct : PySem.W.takesIn K (.builtin "object.__class__") = some true) (gaCS : PySem.W.specialIn K (.ref CE) "__getattribute__" = some (some (.builtin "type.__getattribute__"))) (rdCS : PySem.W.readsIn K CE (.type "type") = true) (atCS : PySem.W.findCls K (.ref CE) (.type "type") "__init__" = some (.val (.ref f1))) (vi : PySem.W.findCls K (.type "ValueError") (.type "type") "__init__" = some (.val (.builtin "ValueError.__init__"))) (w0 : WC K "NoName" "NoName.__init__" CE C0 h0 sNoName) (w1 : WC K "NoPlace" "NoPlace.__init__" CE C1 h1 sNoPlace) (w2 : WC K "NoTrain" "NoTrain.__init__" CE C2 h2 sNoTrain) (w3 : WC K "NoTrains" "NoTrains.__init__" CE C3 h3 sNoTrains) (w4 : WC K "NoEnds" "NoEnds.__init__" CE C4 h4 sNoEnds) (w5 : WC K "NoStretch" "NoStretch.__init__" CE C5 h5 sNoStretch) (w6 : WC K "NoLong" "NoLong.__init__" CE C6 h6 sNoLong) (w7 : WC K "NoPlaces" "NoPlaces.__init__" CE C7 h7 sNoPlaces) (w8 : WC K "NoStretches" "NoStretches.__init__" CE C8 h8 sNoStretches) (w9 : WC K "NoLongs" "NoLongs.__init__" CE C9 h9 sNoLongs) (w10 : WC K "NoNumber" "NoNumber.__init__" CE C10 h10 sNoNumber) (w11 : WC K "NoThing" "NoThing.__init__" CE C11 h11 sNoThing) (w12 : WC K "NoKind" "NoKind.__init__" CE C12 h12 sNoKind) (w13 : WC K "NoWord" "NoWord.__init__" CE C13 h13 sNoWord) (w14 : WC K "NoDeed" "NoDeed.__init__" CE C14 h14 sNoDeed) (w15 : WC K "NoWay" "NoWay.__init__" CE C15 h15 sNoWay) (w16 : WC K "NoUse" "NoUse.__init__" CE C16 h16 sNoUse) (w17 : WC K "NoBooks" "NoBooks.__init__" CE C17 h17 sNoBooks) (w18 : WC K "NoRows" "NoRows.__init__" CE C18 h18 sNoRows) (w19 : WC K "NoMove" "NoMove.__init__" CE C19 h19 sNoMove) (w20 : WC K "NoRuns" "NoRuns.__init__" CE C20 h20 sNoRuns) (w21 : WC K "NoRun" "NoRun.__init__" CE C21 h21 sNoRun) (w22 : WC K "NoLine" "NoLine.__init__" CE C22 h22 sNoLine) (w23 : WC K "NoState" "NoState.__init__" CE C23 h23 sNoState) (w24 : WC K "Twice" "Twice.__init__" CE C24 h24 sTwice) (w25 : WC K "NotHere" "NotHere.__init__" CE C25 h25 sNotHere) (w26 : WC K "NotIn" "NotIn.__init__" CE C26 h26 sNotIn) (w27 : WC K "NotHeld" "NotHeld.__init__" CE C27 h27 sNotHeld) (w28 : WC K "NotHelped" "NotHelped.__init__" CE C28 h28 sNotHelped) (w29 : WC K "Full" "Full.__init__" CE C29 h29 sFull) (w30 : WC K "Lacks" "Lacks.__init__" CE C30 h30 sLacks) (w31 : WC K "Shut" "Shut.__init__" CE C31 h31 sShut) (w32 : WC K "Held" "Held.__init__" CE C32 h32 sHeld) (w33 : WC K "NotClear" "NotClear.__init__" CE C33 h33 sNotClear) (w34 : WC K "NoTickets" "NoTickets.__init__" CE C34 h34 sNoTickets) (w35 : WC K "NoRight" "NoRight.__init__" CE C35 h35 sNoRight) (w36 : WC K "NotShut" "NotShut.__init__" CE C36 h36 sNotShut) (w37 : WC K "Taken" "Taken.__init__" CE C37 h37 sTaken) (w38 : WC K "Boxed" "Boxed.__init__" CE C38 h38 sBoxed) (w39 : WC K "Silent" "Silent.__init__" CE C39 h39 sSilent) (w40 : WC K "TooMany" "TooMany.__init__" CE C40 h40 sTooMany) (w41 : WC K "NoText" "NoText.__init__" CE C41 h41 sNoText) (w42 : WC K "Gap" "Gap.__init__" CE C42 h42 sGap) (w43 : WC K "NotSo" "NotSo.__init__" CE C43 h43 sNotSo) (w44 : WC K "NoTrip" "NoTrip.__init__" CE C44 h44 sNoTrip) (w45 : WC K "NoStart" "NoStart.__init__" CE C45 h45 sNoStart) (w46 : WC K "NoBack" "NoBack.__init__" CE C46 h46 sNoBack) (n0 : PySem.W.findIn K (.ref C0) "found" = some none) (n1 : PySem.W.findIn K (.ref C1) "found" = some none) (n2 : PySem.W.findIn K (.ref C2) "found" = some none) (n3 : PySem.W.findIn K (.ref C3) "found" = some none) (n4 : PySem.W.findIn K (.ref C4) "found" = some none) (n5 : PySem.W.findIn K (.ref C5) "found" = some none) (n6 : PySem.W.findIn K (.ref C6) "found" = some none) (n7 : PySem.W.findIn K (.ref C7) "found" = some none) (n8 : PySem.W.findIn K (.ref C8) "found" = some none) (n9 : PySem.W.findIn K (.ref C9) "found" = some none) (n10 : PySem.W.findIn K (.ref C10) "found" = some none) (n11 : PySem.W.findIn K (.ref C11) "found" = some none) (n12 : PySem.W.findIn K (.ref C12) "found" = some none) (n13 : PySem.W.findIn K (.ref C13) "found" = some none) (n14 : PySem.W.findIn K (.ref C14) "found" = some none) (n15 : PySem.W.findIn K (.ref C15) "found" = some none) (n16 : PySem.W.findIn K (.ref C16) "found" = some none) (n17 : PySem.W.findIn K (.ref C17) "found" = some none) (n18 : PySem.W.findIn K (.ref C18) "found" = some none) (n19 : PySem.W.findIn K (.ref C19) "found" = some none) (n20 : PySem.W.findIn K (.ref C20) "found" = some none) (n21 : PySem.W.findIn K (.ref C21) "found" = some none) (n22 : PySem.W.findIn K (.ref C22) "found" = some none) (n23 : PySem.W.findIn K (.ref C23) "found" = some none) (n24 : PySem.W.findIn K (.ref C24) "found" = some none) (n25 : PySem.W.findIn K (.ref C25) "found" = some none) (n26 : PySem.W.findIn K (.ref C26) "found" = some none) (n27 : PySem.W.findIn K (.ref C27) "found" = some none) (n28 : PySem.W.findIn K (.ref C28) "found" = some none) (n29 : PySem.W.findIn K (.ref C29) "found" = some none) (n30 : PySem.W.findIn K (.ref C30) "found" = some none) (n31 : PySem.W.findIn K (.ref C31) "found" = some none) (n32 : PySem.W.findIn K (.ref C32) "found" = some none) (n33 : PySem.W.findIn K (.ref C33) "found" = some none) (n34 : PySem.W.findIn K (.ref C34) "found" = some none) (n35 : PySem.W.findIn K (.ref C35) "found" = some none) (n36 : PySem.W.findIn K (.ref C36) "found" = some none) (n37 : PySem.W.findIn K (.ref C37) "found" = some none) (n38 : PySem.W.findIn K (.ref C38) "found" = some none) (n39 : PySem.W.findIn K (.ref C39) "found" = some none) (n40 : PySem.W.findIn K (.ref C40) "many" = some none) (n41 : PySem.W.findIn K (.ref C41) "row" = some none) (n42 : PySem.W.findIn K (.ref C42) "number" = some none) (n43 : PySem.W.findIn K (.ref C43) "number" = some none) (n44 : PySem.W.findIn K (.ref C44) "run" = some none) (nd : ([C0, C1, C2, C3, C4, C5, C6, C7, C8, C9, C10, C11, C12, C13, C14, C15, C16, C17, C18, C19, C20, C21, C22, C23, C24, C25, C26, C27, C28, C29, C30, C31, C32, C33, C34, C35, C36, C37, C38, C39, C40, C41, C42, C43, C44, C45, C46] : List Addr).Nodup) (nE : CE ∉ ([C0, C1, C2, C3, C4, C5, C6, C7, C8, C9, C10, C11, C12, C13, C14, C15, C16, C17, C18, C19, C20, C21, C22, C23, C24, C25, C26, C27, C28, C29, C30, C31, C32, C33, C34, C35, C36, C37, C38, C39, C40, C41, C42, C43, C44, C45, C46] : List Addr)) (smN : K.lookup sysModules = none) :
    GLawS l w K CX0 6 63 "_law_script" mg fa := by
  have e := hfa.symm.trans (PySem.W.mg_of X G a10)
  cases e
  have T : Txt mg := ⟨PySem.W.mg_none_of X G z0, PySem.W.mg_none_of X G z1, PySem.W.mg_none_of X G z2, PySem.W.mg_none_of X G z3, PySem.W.mg_none_of X G z4, PySem.W.mg_none_of X G z5, PySem.W.mg_none_of X G z6, PySem.W.mg_none_of X G z7, PySem.W.mg_none_of X G z8, PySem.W.mg_none_of X G z9, PySem.W.mg_none_of X G z10, PySem.W.mg_none_of X G z11, PySem.W.mg_none_of X G z12, PySem.W.mg_none_of X G z13⟩
  have seCE : PySem.W.subIn K (.ref CE) (.ref CE) = some true := My.sub_self (by unfold PySem.W.clsIn; rw [xlCE] <;> rfl) rfl
  have F1 := fun_mk (st := sSE) l1 c1 k1
  have b1 := F1.binds (ps := ["self", "text"]) fun _ _ _ _ _ _ us hl => match us, hl with | [_, _], _ => rfl
  have F2 := fun_mk (st := sCell) l2 c2 k2
  have b2 := F2.binds (ps := ["_law_script", "_law_k"]) fun _ _ _ _ _ _ us hl => match us, hl with | [_, _], _ => rfl
  have F3 := fun_mk (st := sBox) l3 c3 k3
  have b3 := F3.binds (ps := ["_law_cell_here"]) fun _ _ _ _ _ _ us hl => match us, hl with | [_], _ => rfl
  have F4 := fun_mk (st := sTake) l4 c4 k4
  have b4 := F4.binds (ps := ["_law_box_here", "_law_many"]) fun _ _ _ _ _ _ us hl => match us, hl with | [_, _], _ => rfl
  have F5 := fun_mk (st := s_law_thing) l5 c5 k5
  have b5 := F5.binds (ps := ["_law_box_here"]) fun _ _ _ _ _ _ us hl => match us, hl with | [_], _ => rfl
  have F6 := fun_mk (st := s_law_kinds) l6 c6 k6
  have b6 := F6.binds (ps := ["_law_error"]) fun _ _ _ _ _ _ us hl => match us, hl with | [_], _ => rfl
  have F7 := fun_mk (st := s_law_made) l7 c7 k7
  have b7 := F7.binds (ps := ["_law_one", "_law_other"]) fun _ _ _ _ _ _ us hl => match us, hl with | [_, _], _ => rfl
  have F8 := fun_mk (st := s_law_fields) l8 c8 k8
  have b8 := F8.binds (ps := ["_law_made_here"]) fun _ _ _ _ _ _ us hl => match us, hl with | [_], _ => rfl
  have F9 := fun_mk (st := s_law_right) l9 c9 k9
  have b9 := F9.binds (ps := ["_law_box_here"]) fun _ _ _ _ _ _ us hl => match us, hl with | [_], _ => rfl
  have F10 := fun_mk (st := s_law) l10 c10 k10
  have ES0 : SeT K mg CE f1 _ sSE := ⟨PySem.W.mg_none_of X G z15, vi, PySem.W.mg_of X G aCE, ⟨gaCS, rdCS, atCS⟩, k1, F1, b1⟩
  have oCE : OexC K CE := ⟨⟨nmCE, qCE, NCE, bsCE, _, snCE, subCE, abCE, colCE, ddCE, m0CE, m1CE, m2CE, m3CE, m5CE, xlCE, rfl⟩, saCE, exCE, tyCE, kcCE⟩
  have xCE : L2.ExcC K CE := ⟨gaCE, ggCE, exCE, hdCE, coCE, cg, ct, moCE⟩
  have dCE : Ce K CE := ⟨⟨_, (by unfold PySem.W.clsIn; rw [xlCE]), rfl⟩, tyCE⟩
  have XA : ∀ D ∈ ([C0, C1, C2, C3, C4, C5, C6, C7, C8, C9, C10, C11, C12, C13, C14, C15, C16, C17, C18, C19, C20, C21, C22, C23, C24, C25, C26, C27, C28, C29, C30, C31, C32, C33, C34, C35, C36, C37, C38, C39, C40, C41, C42, C43, C44, C45, C46] : List Addr), L2.ExcC K D := (all_cons (w0.xc cg ct) (all_cons (w1.xc cg ct) (all_cons (w2.xc cg ct) (all_cons (w3.xc cg ct) (all_cons (w4.xc cg ct) (all_cons (w5.xc cg ct) (all_cons (w6.xc cg ct) (all_cons (w7.xc cg ct) (all_cons (w8.xc cg ct) (all_cons (w9.xc cg ct) (all_cons (w10.xc cg ct) (all_cons (w11.xc cg ct) (all_cons (w12.xc cg ct) (all_cons (w13.xc cg ct) (all_cons (w14.xc cg ct) (all_cons (w15.xc cg ct) (all_cons (w16.xc cg ct) (all_cons (w17.xc cg ct) (all_cons (w18.xc cg ct) (all_cons (w19.xc cg ct) (all_cons (w20.xc cg ct) (all_cons (w21.xc cg ct) (all_cons (w22.xc cg ct) (all_cons (w23.xc cg ct) (all_cons (w24.xc cg ct) (all_cons (w25.xc cg ct) (all_cons (w26.xc cg ct) (all_cons (w27.xc cg ct) (all_cons (w28.xc cg ct) (all_cons (w29.xc cg ct) (all_cons (w30.xc cg ct) (all_cons (w31.xc cg ct) (all_cons (w32.xc cg ct) (all_cons (w33.xc cg ct) (all_cons (w34.xc cg ct) (all_cons (w35.xc cg ct) (all_cons (w36.xc cg ct) (all_cons (w37.xc cg ct) (all_cons (w38.xc cg ct) (all_cons (w39.xc cg ct) (all_cons (w40.xc cg ct) (all_cons (w41.xc cg ct) (all_cons (w42.xc cg ct) (all_cons (w43.xc cg ct) (all_cons (w44.xc cg ct) (all_cons (w45.xc cg ct) (all_cons (w46.xc cg ct) all_nil)))))))))))))))))))))))))))))))))))))))))))))))
  have DA : ∀ D ∈ ([C0, C1, C2, C3, C4, C5, C6, C7, C8, C9, C10, C11, C12, C13, C14, C15, C16, C17, C18, C19, C20, C21, C22, C23, C24, C25, C26, C27, C28, C29, C30, C31, C32, C33, C34, C35, C36, C37, C38, C39, C40, C41, C42, C43, C44, C45, C46] : List Addr), Cd K CE D := (all_cons w0.d (all_cons w1.d (all_cons w2.d (all_cons w3.d (all_cons w4.d (all_cons w5.d (all_cons w6.d (all_cons w7.d (all_cons w8.d (all_cons w9.d (all_cons w10.d (all_cons w11.d (all_cons w12.d (all_cons w13.d (all_cons w14.d (all_cons w15.d (all_cons w16.d (all_cons w17.d (all_cons w18.d (all_cons w19.d (all_cons w20.d (all_cons w21.d (all_cons w22.d (all_cons w23.d (all_cons w24.d (all_cons w25.d (all_cons w26.d (all_cons w27.d (all_cons w28.d (all_cons w29.d (all_cons w30.d (all_cons w31.d (all_cons w32.d (all_cons w33.d (all_cons w34.d (all_cons w35.d (all_cons w36.d (all_cons w37.d (all_cons w38.d (all_cons w39.d (all_cons w40.d (all_cons w41.d (all_cons w42.d (all_cons w43.d (all_cons w44.d (all_cons w45.d (all_cons w46.d all_nil)))))))))))))))))))))))))))))))))))))))))))))))
  have CLS := cl_of nd nE XA DA dCE
  have FLD : ∀ y z, Fld K (madeL C0 C1 C2 C3 C4 C5 C6 C7 C8 C9 C10 C11 C12 C13 C14 C15 C16 C17 C18 C19 C20 C21 C22 C23 C24 C25 C26 C27 C28 C29 C30 C31 C32 C33 C34 C35 C36 C37 C38 C39 C40 C41 C42 C43 C44 C45 C46 y z) := fun y z => (fld_cons ⟨w0.xf, n0⟩ (fld_cons ⟨w1.xf, n1⟩ (fld_cons ⟨w2.xf, n2⟩ (fld_cons ⟨w3.xf, n3⟩ (fld_cons ⟨w4.xf, n4⟩ (fld_cons ⟨w5.xf, n5⟩ (fld_cons ⟨w6.xf, n6⟩ (fld_cons ⟨w7.xf, n7⟩ (fld_cons ⟨w8.xf, n8⟩ (fld_cons ⟨w9.xf, n9⟩ (fld_cons ⟨w10.xf, n10⟩ (fld_cons ⟨w11.xf, n11⟩ (fld_cons ⟨w12.xf, n12⟩ (fld_cons ⟨w13.xf, n13⟩ (fld_cons ⟨w14.xf, n14⟩ (fld_cons ⟨w15.xf, n15⟩ (fld_cons ⟨w16.xf, n16⟩ (fld_cons ⟨w17.xf, n17⟩ (fld_cons ⟨w18.xf, n18⟩ (fld_cons ⟨w19.xf, n19⟩ (fld_cons ⟨w20.xf, n20⟩ (fld_cons ⟨w21.xf, n21⟩ (fld_cons ⟨w22.xf, n22⟩ (fld_cons ⟨w23.xf, n23⟩ (fld_cons ⟨w24.xf, n24⟩ (fld_cons ⟨w25.xf, n25⟩ (fld_cons ⟨w26.xf, n26⟩ (fld_cons ⟨w27.xf, n27⟩ (fld_cons ⟨w28.xf, n28⟩ (fld_cons ⟨w29.xf, n29⟩ (fld_cons ⟨w30.xf, n30⟩ (fld_cons ⟨w31.xf, n31⟩ (fld_cons ⟨w32.xf, n32⟩ (fld_cons ⟨w33.xf, n33⟩ (fld_cons ⟨w34.xf, n34⟩ (fld_cons ⟨w35.xf, n35⟩ (fld_cons ⟨w36.xf, n36⟩ (fld_cons ⟨w37.xf, n37⟩ (fld_cons ⟨w38.xf, n38⟩ (fld_cons ⟨w39.xf, n39⟩ (fld_cons ⟨w40.xf, n40⟩ (fld_cons ⟨w41.xf, n41⟩ (fld_cons ⟨w42.xf, n42⟩ (fld_cons ⟨w43.xf, n43⟩ (fld_cons ⟨w44.xf, n44⟩ (fld_cons0 (fld_cons0 fld_nil)))))))))))))))))))))))))))))))))))))))))))))))
  refine ⟨PySem.W.fnOf "law" "law" (defArgs s_law) (defBody s_law) (defScope s_law) .none kV10 dc10 pm10 an10 cd10 ct10, spLaw K, smN, fun s v => .of_eq rfl, ?_, ?_⟩
  · intro H a ns hn sm hS
    exact ⟨a, ns, rfl, hS, sm, hn, fun _ => rfl⟩
  · intro base kb nb
    have ESE : KXS l.prog w K mg base CE := ⟨PySem.W.mg_of X G aCE, oCE, xCE, f1, _, a1, beq_iff_eq.mp i1, b1, ok_SE ES0⟩
    have ENoName : KX1 l.prog w K mg base "NoName" "found" C0 := w0.kx n0 X G cg ct (fun _ _ _ _ _ _ us hl => match us, hl with | [_, _], _ => rfl) (fun fd F o n => ok_NoName ES0 F o n)
    have ENoPlace : KX1 l.prog w K mg base "NoPlace" "found" C1 := w1.kx n1 X G cg ct (fun _ _ _ _ _ _ us hl => match us, hl with | [_, _], _ => rfl) (fun fd F o n => ok_NoPlace ES0 F o n)
    have ENoTrain : KX1 l.prog w K mg base "NoTrain" "found" C2 := w2.kx n2 X G cg ct (fun _ _ _ _ _ _ us hl => match us, hl with | [_, _], _ => rfl) (fun fd F o n => ok_NoTrain ES0 F o n)
    have ENoTrains : KX1 l.prog w K mg base "NoTrains" "found" C3 := w3.kx n3 X G cg ct (fun _ _ _ _ _ _ us hl => match us, hl with | [_, _], _ => rfl) (fun fd F o n => ok_NoTrains ES0 F o n)
    have ENoEnds : KX1 l.prog w K mg base "NoEnds" "found" C4 := w4.kx n4 X G cg ct (fun _ _ _ _ _ _ us hl => match us, hl with | [_, _], _ => rfl) (fun fd F o n => ok_NoEnds ES0 F o n)
    have ENoStretch : KX1 l.prog w K mg base "NoStretch" "found" C5 := w5.kx n5 X G cg ct (fun _ _ _ _ _ _ us hl => match us, hl with | [_, _], _ => rfl) (fun fd F o n => ok_NoStretch ES0 F o n)
    have ENoLong : KX1 l.prog w K mg base "NoLong" "found" C6 := w6.kx n6 X G cg ct (fun _ _ _ _ _ _ us hl => match us, hl with | [_, _], _ => rfl) (fun fd F o n => ok_NoLong ES0 F o n)
    have ENoPlaces : KX1 l.prog w K mg base "NoPlaces" "found" C7 := w7.kx n7 X G cg ct (fun _ _ _ _ _ _ us hl => match us, hl with | [_, _], _ => rfl) (fun fd F o n => ok_NoPlaces ES0 F o n)
    have ENoStretches : KX1 l.prog w K mg base "NoStretches" "found" C8 := w8.kx n8 X G cg ct (fun _ _ _ _ _ _ us hl => match us, hl with | [_, _], _ => rfl) (fun fd F o n => ok_NoStretches ES0 F o n)
    have ENoLongs : KX1 l.prog w K mg base "NoLongs" "found" C9 := w9.kx n9 X G cg ct (fun _ _ _ _ _ _ us hl => match us, hl with | [_, _], _ => rfl) (fun fd F o n => ok_NoLongs ES0 F o n)
    have ENoNumber : KX1 l.prog w K mg base "NoNumber" "found" C10 := w10.kx n10 X G cg ct (fun _ _ _ _ _ _ us hl => match us, hl with | [_, _], _ => rfl) (fun fd F o n => ok_NoNumber ES0 F o n)
    have ENoThing : KX1 l.prog w K mg base "NoThing" "found" C11 := w11.kx n11 X G cg ct (fun _ _ _ _ _ _ us hl => match us, hl with | [_, _], _ => rfl) (fun fd F o n => ok_NoThing ES0 F o n)
    have ENoKind : KX1 l.prog w K mg base "NoKind" "found" C12 := w12.kx n12 X G cg ct (fun _ _ _ _ _ _ us hl => match us, hl with | [_, _], _ => rfl) (fun fd F o n => ok_NoKind ES0 F o n)
    have ENoWord : KX1 l.prog w K mg base "NoWord" "found" C13 := w13.kx n13 X G cg ct (fun _ _ _ _ _ _ us hl => match us, hl with | [_, _], _ => rfl) (fun fd F o n => ok_NoWord ES0 F o n)
    have ENoDeed : KX1 l.prog w K mg base "NoDeed" "found" C14 := w14.kx n14 X G cg ct (fun _ _ _ _ _ _ us hl => match us, hl with | [_, _], _ => rfl) (fun fd F o n => ok_NoDeed ES0 F o n)
    have ENoWay : KX1 l.prog w K mg base "NoWay" "found" C15 := w15.kx n15 X G cg ct (fun _ _ _ _ _ _ us hl => match us, hl with | [_, _], _ => rfl) (fun fd F o n => ok_NoWay ES0 F o n)
    have ENoUse : KX1 l.prog w K mg base "NoUse" "found" C16 := w16.kx n16 X G cg ct (fun _ _ _ _ _ _ us hl => match us, hl with | [_, _], _ => rfl) (fun fd F o n => ok_NoUse ES0 F o n)
    have ENoBooks : KX1 l.prog w K mg base "NoBooks" "found" C17 := w17.kx n17 X G cg ct (fun _ _ _ _ _ _ us hl => match us, hl with | [_, _], _ => rfl) (fun fd F o n => ok_NoBooks ES0 F o n)
    have ENoRows : KX1 l.prog w K mg base "NoRows" "found" C18 := w18.kx n18 X G cg ct (fun _ _ _ _ _ _ us hl => match us, hl with | [_, _], _ => rfl) (fun fd F o n => ok_NoRows ES0 F o n)
    have ENoMove : KX1 l.prog w K mg base "NoMove" "found" C19 := w19.kx n19 X G cg ct (fun _ _ _ _ _ _ us hl => match us, hl with | [_, _], _ => rfl) (fun fd F o n => ok_NoMove ES0 F o n)
    have ENoRuns : KX1 l.prog w K mg base "NoRuns" "found" C20 := w20.kx n20 X G cg ct (fun _ _ _ _ _ _ us hl => match us, hl with | [_, _], _ => rfl) (fun fd F o n => ok_NoRuns ES0 F o n)
    have ENoRun : KX1 l.prog w K mg base "NoRun" "found" C21 := w21.kx n21 X G cg ct (fun _ _ _ _ _ _ us hl => match us, hl with | [_, _], _ => rfl) (fun fd F o n => ok_NoRun ES0 F o n)
    have ENoLine : KX1 l.prog w K mg base "NoLine" "found" C22 := w22.kx n22 X G cg ct (fun _ _ _ _ _ _ us hl => match us, hl with | [_, _], _ => rfl) (fun fd F o n => ok_NoLine ES0 F o n)
    have ENoState : KX1 l.prog w K mg base "NoState" "found" C23 := w23.kx n23 X G cg ct (fun _ _ _ _ _ _ us hl => match us, hl with | [_, _], _ => rfl) (fun fd F o n => ok_NoState ES0 F o n)
    have ETwice : KX1 l.prog w K mg base "Twice" "found" C24 := w24.kx n24 X G cg ct (fun _ _ _ _ _ _ us hl => match us, hl with | [_, _], _ => rfl) (fun fd F o n => ok_Twice ES0 F o n)
    have ENotHere : KX1 l.prog w K mg base "NotHere" "found" C25 := w25.kx n25 X G cg ct (fun _ _ _ _ _ _ us hl => match us, hl with | [_, _], _ => rfl) (fun fd F o n => ok_NotHere ES0 F o n)
    have ENotIn : KX1 l.prog w K mg base "NotIn" "found" C26 := w26.kx n26 X G cg ct (fun _ _ _ _ _ _ us hl => match us, hl with | [_, _], _ => rfl) (fun fd F o n => ok_NotIn ES0 F o n)
    have ENotHeld : KX1 l.prog w K mg base "NotHeld" "found" C27 := w27.kx n27 X G cg ct (fun _ _ _ _ _ _ us hl => match us, hl with | [_, _], _ => rfl) (fun fd F o n => ok_NotHeld ES0 F o n)
    have ENotHelped : KX1 l.prog w K mg base "NotHelped" "found" C28 := w28.kx n28 X G cg ct (fun _ _ _ _ _ _ us hl => match us, hl with | [_, _], _ => rfl) (fun fd F o n => ok_NotHelped ES0 F o n)
    have EFull : KX1 l.prog w K mg base "Full" "found" C29 := w29.kx n29 X G cg ct (fun _ _ _ _ _ _ us hl => match us, hl with | [_, _], _ => rfl) (fun fd F o n => ok_Full ES0 F o n)
    have ELacks : KX1 l.prog w K mg base "Lacks" "found" C30 := w30.kx n30 X G cg ct (fun _ _ _ _ _ _ us hl => match us, hl with | [_, _], _ => rfl) (fun fd F o n => ok_Lacks ES0 F o n)
    have EShut : KX1 l.prog w K mg base "Shut" "found" C31 := w31.kx n31 X G cg ct (fun _ _ _ _ _ _ us hl => match us, hl with | [_, _], _ => rfl) (fun fd F o n => ok_Shut ES0 F o n)
    have EHeld : KX1 l.prog w K mg base "Held" "found" C32 := w32.kx n32 X G cg ct (fun _ _ _ _ _ _ us hl => match us, hl with | [_, _], _ => rfl) (fun fd F o n => ok_Held ES0 F o n)
    have ENotClear : KX1 l.prog w K mg base "NotClear" "found" C33 := w33.kx n33 X G cg ct (fun _ _ _ _ _ _ us hl => match us, hl with | [_, _], _ => rfl) (fun fd F o n => ok_NotClear ES0 F o n)
    have ENoTickets : KX1 l.prog w K mg base "NoTickets" "found" C34 := w34.kx n34 X G cg ct (fun _ _ _ _ _ _ us hl => match us, hl with | [_, _], _ => rfl) (fun fd F o n => ok_NoTickets ES0 F o n)
    have ENoRight : KX1 l.prog w K mg base "NoRight" "found" C35 := w35.kx n35 X G cg ct (fun _ _ _ _ _ _ us hl => match us, hl with | [_, _], _ => rfl) (fun fd F o n => ok_NoRight ES0 F o n)
    have ENotShut : KX1 l.prog w K mg base "NotShut" "found" C36 := w36.kx n36 X G cg ct (fun _ _ _ _ _ _ us hl => match us, hl with | [_, _], _ => rfl) (fun fd F o n => ok_NotShut ES0 F o n)
    have ETaken : KX1 l.prog w K mg base "Taken" "found" C37 := w37.kx n37 X G cg ct (fun _ _ _ _ _ _ us hl => match us, hl with | [_, _], _ => rfl) (fun fd F o n => ok_Taken ES0 F o n)
    have EBoxed : KX1 l.prog w K mg base "Boxed" "found" C38 := w38.kx n38 X G cg ct (fun _ _ _ _ _ _ us hl => match us, hl with | [_, _], _ => rfl) (fun fd F o n => ok_Boxed ES0 F o n)
    have ESilent : KX1 l.prog w K mg base "Silent" "found" C39 := w39.kx n39 X G cg ct (fun _ _ _ _ _ _ us hl => match us, hl with | [_, _], _ => rfl) (fun fd F o n => ok_Silent ES0 F o n)
    have ETooMany : KX1 l.prog w K mg base "TooMany" "many" C40 := w40.kx n40 X G cg ct (fun _ _ _ _ _ _ us hl => match us, hl with | [_, _], _ => rfl) (fun fd F o n => ok_TooMany ES0 F o n)
    have ENoText : KX1 l.prog w K mg base "NoText" "row" C41 := w41.kx n41 X G cg ct (fun _ _ _ _ _ _ us hl => match us, hl with | [_, _], _ => rfl) (fun fd F o n => ok_NoText ES0 F o n)
    have EGap : KX1 l.prog w K mg base "Gap" "number" C42 := w42.kx n42 X G cg ct (fun _ _ _ _ _ _ us hl => match us, hl with | [_, _], _ => rfl) (fun fd F o n => ok_Gap ES0 F o n)
    have ENotSo : KX1 l.prog w K mg base "NotSo" "number" C43 := w43.kx n43 X G cg ct (fun _ _ _ _ _ _ us hl => match us, hl with | [_, _], _ => rfl) (fun fd F o n => ok_NotSo ES0 F o n)
    have ENoTrip : KX1 l.prog w K mg base "NoTrip" "run" C44 := w44.kx n44 X G cg ct (fun _ _ _ _ _ _ us hl => match us, hl with | [_, _], _ => rfl) (fun fd F o n => ok_NoTrip ES0 F o n)
    have ENoStart : KX0 l.prog w K mg base "NoStart" C45 := w45.kx0 X G cg ct (fun _ _ _ _ _ _ us hl => match us, hl with | [_], _ => rfl) (fun fd F o => ok_NoStart ES0 F o)
    have ENoBack : KX0 l.prog w K mg base "NoBack" C46 := w46.kx0 X G cg ct (fun _ _ _ _ _ _ us hl => match us, hl with | [_], _ => rfl) (fun fd F o => ok_NoBack ES0 F o)
    have glaw_cell : FnOk l.prog w K mg base CX0 _ f2 _ _ _ := ok_cell F2 T
    have glaw_box : FnOk l.prog w K mg base CX0 _ f3 _ _ _ := ok_box F3 T
    have glaw_take : FnOk l.prog w K mg base CX0 _ f4 _ _ _ := ok_take F4
    have glaw_thing : FnOk l.prog w K mg base CX0 _ f5 _ _ _ := ok_thing F5 T ⟨F4, PySem.W.mg_of X G a4, b4⟩ glaw_take
    have glaw_kinds : FnOk l.prog w K mg base CX0 _ f6 _ _ _ := ok_kinds F6 T (PySem.W.mg_of X G w0.g) (PySem.W.mg_of X G w1.g) (PySem.W.mg_of X G w2.g) (PySem.W.mg_of X G w3.g) (PySem.W.mg_of X G w4.g) (PySem.W.mg_of X G w5.g) (PySem.W.mg_of X G w6.g) (PySem.W.mg_of X G w7.g) (PySem.W.mg_of X G w8.g) (PySem.W.mg_of X G w9.g) (PySem.W.mg_of X G w10.g) (PySem.W.mg_of X G w11.g) (PySem.W.mg_of X G w12.g) (PySem.W.mg_of X G w13.g) (PySem.W.mg_of X G w14.g) (PySem.W.mg_of X G w15.g) (PySem.W.mg_of X G w16.g) (PySem.W.mg_of X G w17.g) (PySem.W.mg_of X G w18.g) (PySem.W.mg_of X G w19.g) (PySem.W.mg_of X G w20.g) (PySem.W.mg_of X G w21.g) (PySem.W.mg_of X G w22.g) (PySem.W.mg_of X G w23.g) (PySem.W.mg_of X G w24.g) (PySem.W.mg_of X G w25.g) (PySem.W.mg_of X G w26.g) (PySem.W.mg_of X G w27.g) (PySem.W.mg_of X G w28.g) (PySem.W.mg_of X G w29.g) (PySem.W.mg_of X G w30.g) (PySem.W.mg_of X G w31.g) (PySem.W.mg_of X G w32.g) (PySem.W.mg_of X G w33.g) (PySem.W.mg_of X G w34.g) (PySem.W.mg_of X G w35.g) (PySem.W.mg_of X G w36.g) (PySem.W.mg_of X G w37.g) (PySem.W.mg_of X G w38.g) (PySem.W.mg_of X G w39.g) (PySem.W.mg_of X G w40.g) (PySem.W.mg_of X G w41.g) (PySem.W.mg_of X G w42.g) (PySem.W.mg_of X G w43.g) (PySem.W.mg_of X G w44.g) (PySem.W.mg_of X G w45.g) (PySem.W.mg_of X G w46.g)
    have glaw_made : FnOk l.prog w K mg base CX0 _ f7 _ _ _ := ok_made F7 T ENoName ENoPlace ENoTrain ENoTrains ENoEnds ENoStretch ENoLong ENoPlaces ENoStretches ENoLongs ENoNumber ENoThing ENoKind ENoWord ENoDeed ENoWay ENoUse ENoBooks ENoRows ENoMove ENoRuns ENoRun ENoLine ENoState ETwice ENotHere ENotIn ENotHeld ENotHelped EFull ELacks EShut EHeld ENotClear ENoTickets ENoRight ENotShut ETaken EBoxed ESilent ETooMany ENoText EGap ENotSo ENoTrip ENoStart ENoBack
    have glaw_fields : FnOk l.prog w K mg base CX0 _ f8 _ _ _ := ok_fields (C0 := C0) (C1 := C1) (C2 := C2) (C3 := C3) (C4 := C4) (C5 := C5) (C6 := C6) (C7 := C7) (C8 := C8) (C9 := C9) (C10 := C10) (C11 := C11) (C12 := C12) (C13 := C13) (C14 := C14) (C15 := C15) (C16 := C16) (C17 := C17) (C18 := C18) (C19 := C19) (C20 := C20) (C21 := C21) (C22 := C22) (C23 := C23) (C24 := C24) (C25 := C25) (C26 := C26) (C27 := C27) (C28 := C28) (C29 := C29) (C30 := C30) (C31 := C31) (C32 := C32) (C33 := C33) (C34 := C34) (C35 := C35) (C36 := C36) (C37 := C37) (C38 := C38) (C39 := C39) (C40 := C40) (C41 := C41) (C42 := C42) (C43 := C43) (C44 := C44) (C45 := C45) (C46 := C46) F8 T
    have glaw_right : GOk l.prog w K mg base CX0 _ f9 _ _ _ := ok_right smN F9 T (PySem.W.mg_none_of X G z15) (PySem.W.mg_none_of X G z14) (PySem.W.mg_of X G aCE) CLS.1 FLD ⟨F5, PySem.W.mg_of X G a5, b5⟩ glaw_thing ⟨F7, PySem.W.mg_of X G a7, b7⟩ glaw_made ⟨F6, PySem.W.mg_of X G a6, b6⟩ glaw_kinds ⟨F8, PySem.W.mg_of X G a8, b8⟩ glaw_fields
    exact (ok_law F10 T (PySem.W.mg_none_of X G z15) ESE CLS.1 CLS.2.1 nE CLS.2.2 ⟨F2, PySem.W.mg_of X G a2, b2⟩ glaw_cell ⟨F3, PySem.W.mg_of X G a3, b3⟩ glaw_box ⟨F6, PySem.W.mg_of X G a6, b6⟩ glaw_kinds ⟨F9, PySem.W.mg_of X G a9, b9⟩ glaw_right)
end E9


open PySem PySem.W PyProof.Rows in
set_option maxRecDepth 100000 in
set_option maxHeartbeats 0 in
theorem PySem.Challenge.cw_onestaff_k09_refusals_apart_holds : PySem.Challenge.rw_onestaff_k09_refusals_apart.Holds := by
  refine E9.Hd.hd ⟨My.left_cut (K := E9.Hd.hd.heap_39) (as := E9.Hd.asH) E9.Hd.S3 rfl (by kernel_rfl) (by rfl) (fun s => by kernel_rfl) (by rfl) E9.Hd.sz E9.Hd.run E9.Hd.sL E9.Hd.sA E9.Hd.hs, ?_⟩
  k_fill
  refine Gd.walk_s (no := by first | rfl | decide +kernel) (l := PySem.Challenge.rw_onestaff_k09_refusals_apart) (n := 63) (k := 6) (x := "_law_script") (CX := fun _ => L2.CX0) rfl (by decide) rfl ⟨rfl, by decide, by decide⟩ (fun w h Y => PySem.W.kIn_of Y) ?F (fun _ _ _ _ _ z => z)
  case F =>
    intro w mg fa h Y KX G hmg 
    refine' E9.all_mk KX G hmg  ?QaCE ?QxlCE ?QsaCE ?QgaCE ?QggCE ?QkcCE ?QexCE ?QtyCE ?QhdCE ?QicCE ?QcoCE ?QmoCE ?Qa1 ?Qi1 ?Ql1 ?Qc1 ?Qk1 ?Qa2 ?Ql2 ?Qc2 ?Qk2 ?Qa3 ?Ql3 ?Qc3 ?Qk3 ?Qa4 ?Ql4 ?Qc4 ?Qk4 ?Qa5 ?Ql5 ?Qc5 ?Qk5 ?Qa6 ?Ql6 ?Qc6 ?Qk6 ?Qa7 ?Ql7 ?Qc7 ?Qk7 ?Qa8 ?Ql8 ?Qc8 ?Qk8 ?Qa9 ?Ql9 ?Qc9 ?Qk9 ?Qa10 ?Ql10 ?Qc10 ?Qk10 ?Qz0 ?Qz1 ?Qz2 ?Qz3 ?Qz4 ?Qz5 ?Qz6 ?Qz7 ?Qz8 ?Qz9 ?Qz10 ?Qz11 ?Qz12 ?Qz13 ?Qz14 ?Qz15 ?Qcg ?Qct ?QgaCS ?QrdCS ?QatCS ?Qvi ?Qw0 ?Qw1 ?Qw2 ?Qw3 ?Qw4 ?Qw5 ?Qw6 ?Qw7 ?Qw8 ?Qw9 ?Qw10 ?Qw11 ?Qw12 ?Qw13 ?Qw14 ?Qw15 ?Qw16 ?Qw17 ?Qw18 ?Qw19 ?Qw20 ?Qw21 ?Qw22 ?Qw23 ?Qw24 ?Qw25 ?Qw26 ?Qw27 ?Qw28 ?Qw29 ?Qw30 ?Qw31 ?Qw32 ?Qw33 ?Qw34 ?Qw35 ?Qw36 ?Qw37 ?Qw38 ?Qw39 ?Qw40 ?Qw41 ?Qw42 ?Qw43 ?Qw44 ?Qw45 ?Qw46 ?Qn0 ?Qn1 ?Qn2 ?Qn3 ?Qn4 ?Qn5 ?Qn6 ?Qn7 ?Qn8 ?Qn9 ?Qn10 ?Qn11 ?Qn12 ?Qn13 ?Qn14 ?Qn15 ?Qn16 ?Qn17 ?Qn18 ?Qn19 ?Qn20 ?Qn21 ?Qn22 ?Qn23 ?Qn24 ?Qn25 ?Qn26 ?Qn27 ?Qn28 ?Qn29 ?Qn30 ?Qn31 ?Qn32 ?Qn33 ?Qn34 ?Qn35 ?Qn36 ?Qn37 ?Qn38 ?Qn39 ?Qn40 ?Qn41 ?Qn42 ?Qn43 ?Qn44 ?Qnd ?QnE ?QsmN
    (case QaCE => k_is)
    (case QxlCE => k_is)
    (case QsaCE => k_is)
    (case QgaCE => k_is)
    (case QggCE => k_is)
    (case QkcCE => k_is)
    (case QexCE => k_is)
    (case QtyCE => k_is)
    (case QhdCE => k_is)
    (case QicCE => k_is)
    (case QcoCE => k_is)
    (case QmoCE => k_is)
    (case Qa1 => k_is)
    (case Qi1 => k_is)
    (case Ql1 => k_is)
    (case Qc1 => k_is)
    (case Qk1 => k_is)
    (case Qa2 => k_is)
    (case Ql2 => k_is)
    (case Qc2 => k_is)
    (case Qk2 => k_is)
    (case Qa3 => k_is)
    (case Ql3 => k_is)
    (case Qc3 => k_is)
    (case Qk3 => k_is)
    (case Qa4 => k_is)
    (case Ql4 => k_is)
    (case Qc4 => k_is)
    (case Qk4 => k_is)
    (case Qa5 => k_is)
    (case Ql5 => k_is)
    (case Qc5 => k_is)
    (case Qk5 => k_is)
    (case Qa6 => k_is)
    (case Ql6 => k_is)
    (case Qc6 => k_is)
    (case Qk6 => k_is)
    (case Qa7 => k_is)
    (case Ql7 => k_is)
    (case Qc7 => k_is)
    (case Qk7 => k_is)
    (case Qa8 => k_is)
    (case Ql8 => k_is)
    (case Qc8 => k_is)
    (case Qk8 => k_is)
    (case Qa9 => k_is)
    (case Ql9 => k_is)
    (case Qc9 => k_is)
    (case Qk9 => k_is)
    (case Qa10 => k_is)
    (case Ql10 => k_is)
    (case Qc10 => k_is)
    (case Qk10 => k_is)
    (case Qz0 => k_is)
    (case Qz1 => k_is)
    (case Qz2 => k_is)
    (case Qz3 => k_is)
    (case Qz4 => k_is)
    (case Qz5 => k_is)
    (case Qz6 => k_is)
    (case Qz7 => k_is)
    (case Qz8 => k_is)
    (case Qz9 => k_is)
    (case Qz10 => k_is)
    (case Qz11 => k_is)
    (case Qz12 => k_is)
    (case Qz13 => k_is)
    (case Qz14 => k_is)
    (case Qz15 => k_is)
    (case Qcg => k_is)
    (case Qct => k_is)
    (case QgaCS => k_is)
    (case QrdCS => k_is)
    (case QatCS => k_is)
    (case Qvi => k_is)
    (case Qw0 => exact ⟨by k_is, ⟨_, _, _, _, _, _, _, _, _, _, _, _, _, _, by k_is⟩, by k_is, by k_is, by k_is, by k_is, by k_is, by k_is, by k_is, by k_is, by k_is, by k_is, by k_is, ⟨_, _, _, _, _, _, _, _, _, by k_is, by k_is⟩, by k_is⟩)
    (case Qw1 => exact ⟨by k_is, ⟨_, _, _, _, _, _, _, _, _, _, _, _, _, _, by k_is⟩, by k_is, by k_is, by k_is, by k_is, by k_is, by k_is, by k_is, by k_is, by k_is, by k_is, by k_is, ⟨_, _, _, _, _, _, _, _, _, by k_is, by k_is⟩, by k_is⟩)
    (case Qw2 => exact ⟨by k_is, ⟨_, _, _, _, _, _, _, _, _, _, _, _, _, _, by k_is⟩, by k_is, by k_is, by k_is, by k_is, by k_is, by k_is, by k_is, by k_is, by k_is, by k_is, by k_is, ⟨_, _, _, _, _, _, _, _, _, by k_is, by k_is⟩, by k_is⟩)
    (case Qw3 => exact ⟨by k_is, ⟨_, _, _, _, _, _, _, _, _, _, _, _, _, _, by k_is⟩, by k_is, by k_is, by k_is, by k_is, by k_is, by k_is, by k_is, by k_is, by k_is, by k_is, by k_is, ⟨_, _, _, _, _, _, _, _, _, by k_is, by k_is⟩, by k_is⟩)
    (case Qw4 => exact ⟨by k_is, ⟨_, _, _, _, _, _, _, _, _, _, _, _, _, _, by k_is⟩, by k_is, by k_is, by k_is, by k_is, by k_is, by k_is, by k_is, by k_is, by k_is, by k_is, by k_is, ⟨_, _, _, _, _, _, _, _, _, by k_is, by k_is⟩, by k_is⟩)
    (case Qw5 => exact ⟨by k_is, ⟨_, _, _, _, _, _, _, _, _, _, _, _, _, _, by k_is⟩, by k_is, by k_is, by k_is, by k_is, by k_is, by k_is, by k_is, by k_is, by k_is, by k_is, by k_is, ⟨_, _, _, _, _, _, _, _, _, by k_is, by k_is⟩, by k_is⟩)
    (case Qw6 => exact ⟨by k_is, ⟨_, _, _, _, _, _, _, _, _, _, _, _, _, _, by k_is⟩, by k_is, by k_is, by k_is, by k_is, by k_is, by k_is, by k_is, by k_is, by k_is, by k_is, by k_is, ⟨_, _, _, _, _, _, _, _, _, by k_is, by k_is⟩, by k_is⟩)
    (case Qw7 => exact ⟨by k_is, ⟨_, _, _, _, _, _, _, _, _, _, _, _, _, _, by k_is⟩, by k_is, by k_is, by k_is, by k_is, by k_is, by k_is, by k_is, by k_is, by k_is, by k_is, by k_is, ⟨_, _, _, _, _, _, _, _, _, by k_is, by k_is⟩, by k_is⟩)
    (case Qw8 => exact ⟨by k_is, ⟨_, _, _, _, _, _, _, _, _, _, _, _, _, _, by k_is⟩, by k_is, by k_is, by k_is, by k_is, by k_is, by k_is, by k_is, by k_is, by k_is, by k_is, by k_is, ⟨_, _, _, _, _, _, _, _, _, by k_is, by k_is⟩, by k_is⟩)
    (case Qw9 => exact ⟨by k_is, ⟨_, _, _, _, _, _, _, _, _, _, _, _, _, _, by k_is⟩, by k_is, by k_is, by k_is, by k_is, by k_is, by k_is, by k_is, by k_is, by k_is, by k_is, by k_is, ⟨_, _, _, _, _, _, _, _, _, by k_is, by k_is⟩, by k_is⟩)
    (case Qw10 => exact ⟨by k_is, ⟨_, _, _, _, _, _, _, _, _, _, _, _, _, _, by k_is⟩, by k_is, by k_is, by k_is, by k_is, by k_is, by k_is, by k_is, by k_is, by k_is, by k_is, by k_is, ⟨_, _, _, _, _, _, _, _, _, by k_is, by k_is⟩, by k_is⟩)
    (case Qw11 => exact ⟨by k_is, ⟨_, _, _, _, _, _, _, _, _, _, _, _, _, _, by k_is⟩, by k_is, by k_is, by k_is, by k_is, by k_is, by k_is, by k_is, by k_is, by k_is, by k_is, by k_is, ⟨_, _, _, _, _, _, _, _, _, by k_is, by k_is⟩, by k_is⟩)
    (case Qw12 => exact ⟨by k_is, ⟨_, _, _, _, _, _, _, _, _, _, _, _, _, _, by k_is⟩, by k_is, by k_is, by k_is, by k_is, by k_is, by k_is, by k_is, by k_is, by k_is, by k_is, by k_is, ⟨_, _, _, _, _, _, _, _, _, by k_is, by k_is⟩, by k_is⟩)
    (case Qw13 => exact ⟨by k_is, ⟨_, _, _, _, _, _, _, _, _, _, _, _, _, _, by k_is⟩, by k_is, by k_is, by k_is, by k_is, by k_is, by k_is, by k_is, by k_is, by k_is, by k_is, by k_is, ⟨_, _, _, _, _, _, _, _, _, by k_is, by k_is⟩, by k_is⟩)
    (case Qw14 => exact ⟨by k_is, ⟨_, _, _, _, _, _, _, _, _, _, _, _, _, _, by k_is⟩, by k_is, by k_is, by k_is, by k_is, by k_is, by k_is, by k_is, by k_is, by k_is, by k_is, by k_is, ⟨_, _, _, _, _, _, _, _, _, by k_is, by k_is⟩, by k_is⟩)
    (case Qw15 => exact ⟨by k_is, ⟨_, _, _, _, _, _, _, _, _, _, _, _, _, _, by k_is⟩, by k_is, by k_is, by k_is, by k_is, by k_is, by k_is, by k_is, by k_is, by k_is, by k_is, by k_is, ⟨_, _, _, _, _, _, _, _, _, by k_is, by k_is⟩, by k_is⟩)
    (case Qw16 => exact ⟨by k_is, ⟨_, _, _, _, _, _, _, _, _, _, _, _, _, _, by k_is⟩, by k_is, by k_is, by k_is, by k_is, by k_is, by k_is, by k_is, by k_is, by k_is, by k_is, by k_is, ⟨_, _, _, _, _, _, _, _, _, by k_is, by k_is⟩, by k_is⟩)
    (case Qw17 => exact ⟨by k_is, ⟨_, _, _, _, _, _, _, _, _, _, _, _, _, _, by k_is⟩, by k_is, by k_is, by k_is, by k_is, by k_is, by k_is, by k_is, by k_is, by k_is, by k_is, by k_is, ⟨_, _, _, _, _, _, _, _, _, by k_is, by k_is⟩, by k_is⟩)
    (case Qw18 => exact ⟨by k_is, ⟨_, _, _, _, _, _, _, _, _, _, _, _, _, _, by k_is⟩, by k_is, by k_is, by k_is, by k_is, by k_is, by k_is, by k_is, by k_is, by k_is, by k_is, by k_is, ⟨_, _, _, _, _, _, _, _, _, by k_is, by k_is⟩, by k_is⟩)
    (case Qw19 => exact ⟨by k_is, ⟨_, _, _, _, _, _, _, _, _, _, _, _, _, _, by k_is⟩, by k_is, by k_is, by k_is, by k_is, by k_is, by k_is, by k_is, by k_is, by k_is, by k_is, by k_is, ⟨_, _, _, _, _, _, _, _, _, by k_is, by k_is⟩, by k_is⟩)
    (case Qw20 => exact ⟨by k_is, ⟨_, _, _, _, _, _, _, _, _, _, _, _, _, _, by k_is⟩, by k_is, by k_is, by k_is, by k_is, by k_is, by k_is, by k_is, by k_is, by k_is, by k_is, by k_is, ⟨_, _, _, _, _, _, _, _, _, by k_is, by k_is⟩, by k_is⟩)
    (case Qw21 => exact ⟨by k_is, ⟨_, _, _, _, _, _, _, _, _, _, _, _, _, _, by k_is⟩, by k_is, by k_is, by k_is, by k_is, by k_is, by k_is, by k_is, by k_is, by k_is, by k_is, by k_is, ⟨_, _, _, _, _, _, _, _, _, by k_is, by k_is⟩, by k_is⟩)
    (case Qw22 => exact ⟨by k_is, ⟨_, _, _, _, _, _, _, _, _, _, _, _, _, _, by k_is⟩, by k_is, by k_is, by k_is, by k_is, by k_is, by k_is, by k_is, by k_is, by k_is, by k_is, by k_is, ⟨_, _, _, _, _, _, _, _, _, by k_is, by k_is⟩, by k_is⟩)
    (case Qw23 => exact ⟨by k_is, ⟨_, _, _, _, _, _, _, _, _, _, _, _, _, _, by k_is⟩, by k_is, by k_is, by k_is, by k_is, by k_is, by k_is, by k_is, by k_is, by k_is, by k_is, by k_is, ⟨_, _, _, _, _, _, _, _, _, by k_is, by k_is⟩, by k_is⟩)
    (case Qw24 => exact ⟨by k_is, ⟨_, _, _, _, _, _, _, _, _, _, _, _, _, _, by k_is⟩, by k_is, by k_is, by k_is, by k_is, by k_is, by k_is, by k_is, by k_is, by k_is, by k_is, by k_is, ⟨_, _, _, _, _, _, _, _, _, by k_is, by k_is⟩, by k_is⟩)
    (case Qw25 => exact ⟨by k_is, ⟨_, _, _, _, _, _, _, _, _, _, _, _, _, _, by k_is⟩, by k_is, by k_is, by k_is, by k_is, by k_is, by k_is, by k_is, by k_is, by k_is, by k_is, by k_is, ⟨_, _, _, _, _, _, _, _, _, by k_is, by k_is⟩, by k_is⟩)
    (case Qw26 => exact ⟨by k_is, ⟨_, _, _, _, _, _, _, _, _, _, _, _, _, _, by k_is⟩, by k_is, by k_is, by k_is, by k_is, by k_is, by k_is, by k_is, by k_is, by k_is, by k_is, by k_is, ⟨_, _, _, _, _, _, _, _, _, by k_is, by k_is⟩, by k_is⟩)
    (case Qw27 => exact ⟨by k_is, ⟨_, _, _, _, _, _, _, _, _, _, _, _, _, _, by k_is⟩, by k_is, by k_is, by k_is, by k_is, by k_is, by k_is, by k_is, by k_is, by k_is, by k_is, by k_is, ⟨_, _, _, _, _, _, _, _, _, by k_is, by k_is⟩, by k_is⟩)
    (case Qw28 => exact ⟨by k_is, ⟨_, _, _, _, _, _, _, _, _, _, _, _, _, _, by k_is⟩, by k_is, by k_is, by k_is, by k_is, by k_is, by k_is, by k_is, by k_is, by k_is, by k_is, by k_is, ⟨_, _, _, _, _, _, _, _, _, by k_is, by k_is⟩, by k_is⟩)
    (case Qw29 => exact ⟨by k_is, ⟨_, _, _, _, _, _, _, _, _, _, _, _, _, _, by k_is⟩, by k_is, by k_is, by k_is, by k_is, by k_is, by k_is, by k_is, by k_is, by k_is, by k_is, by k_is, ⟨_, _, _, _, _, _, _, _, _, by k_is, by k_is⟩, by k_is⟩)
    (case Qw30 => exact ⟨by k_is, ⟨_, _, _, _, _, _, _, _, _, _, _, _, _, _, by k_is⟩, by k_is, by k_is, by k_is, by k_is, by k_is, by k_is, by k_is, by k_is, by k_is, by k_is, by k_is, ⟨_, _, _, _, _, _, _, _, _, by k_is, by k_is⟩, by k_is⟩)
    (case Qw31 => exact ⟨by k_is, ⟨_, _, _, _, _, _, _, _, _, _, _, _, _, _, by k_is⟩, by k_is, by k_is, by k_is, by k_is, by k_is, by k_is, by k_is, by k_is, by k_is, by k_is, by k_is, ⟨_, _, _, _, _, _, _, _, _, by k_is, by k_is⟩, by k_is⟩)
    (case Qw32 => exact ⟨by k_is, ⟨_, _, _, _, _, _, _, _, _, _, _, _, _, _, by k_is⟩, by k_is, by k_is, by k_is, by k_is, by k_is, by k_is, by k_is, by k_is, by k_is, by k_is, by k_is, ⟨_, _, _, _, _, _, _, _, _, by k_is, by k_is⟩, by k_is⟩)
    (case Qw33 => exact ⟨by k_is, ⟨_, _, _, _, _, _, _, _, _, _, _, _, _, _, by k_is⟩, by k_is, by k_is, by k_is, by k_is, by k_is, by k_is, by k_is, by k_is, by k_is, by k_is, by k_is, ⟨_, _, _, _, _, _, _, _, _, by k_is, by k_is⟩, by k_is⟩)
    (case Qw34 => exact ⟨by k_is, ⟨_, _, _, _, _, _, _, _, _, _, _, _, _, _, by k_is⟩, by k_is, by k_is, by k_is, by k_is, by k_is, by k_is, by k_is, by k_is, by k_is, by k_is, by k_is, ⟨_, _, _, _, _, _, _, _, _, by k_is, by k_is⟩, by k_is⟩)
    (case Qw35 => exact ⟨by k_is, ⟨_, _, _, _, _, _, _, _, _, _, _, _, _, _, by k_is⟩, by k_is, by k_is, by k_is, by k_is, by k_is, by k_is, by k_is, by k_is, by k_is, by k_is, by k_is, ⟨_, _, _, _, _, _, _, _, _, by k_is, by k_is⟩, by k_is⟩)
    (case Qw36 => exact ⟨by k_is, ⟨_, _, _, _, _, _, _, _, _, _, _, _, _, _, by k_is⟩, by k_is, by k_is, by k_is, by k_is, by k_is, by k_is, by k_is, by k_is, by k_is, by k_is, by k_is, ⟨_, _, _, _, _, _, _, _, _, by k_is, by k_is⟩, by k_is⟩)
    (case Qw37 => exact ⟨by k_is, ⟨_, _, _, _, _, _, _, _, _, _, _, _, _, _, by k_is⟩, by k_is, by k_is, by k_is, by k_is, by k_is, by k_is, by k_is, by k_is, by k_is, by k_is, by k_is, ⟨_, _, _, _, _, _, _, _, _, by k_is, by k_is⟩, by k_is⟩)
    (case Qw38 => exact ⟨by k_is, ⟨_, _, _, _, _, _, _, _, _, _, _, _, _, _, by k_is⟩, by k_is, by k_is, by k_is, by k_is, by k_is, by k_is, by k_is, by k_is, by k_is, by k_is, by k_is, ⟨_, _, _, _, _, _, _, _, _, by k_is, by k_is⟩, by k_is⟩)
    (case Qw39 => exact ⟨by k_is, ⟨_, _, _, _, _, _, _, _, _, _, _, _, _, _, by k_is⟩, by k_is, by k_is, by k_is, by k_is, by k_is, by k_is, by k_is, by k_is, by k_is, by k_is, by k_is, ⟨_, _, _, _, _, _, _, _, _, by k_is, by k_is⟩, by k_is⟩)
    (case Qw40 => exact ⟨by k_is, ⟨_, _, _, _, _, _, _, _, _, _, _, _, _, _, by k_is⟩, by k_is, by k_is, by k_is, by k_is, by k_is, by k_is, by k_is, by k_is, by k_is, by k_is, by k_is, ⟨_, _, _, _, _, _, _, _, _, by k_is, by k_is⟩, by k_is⟩)
    (case Qw41 => exact ⟨by k_is, ⟨_, _, _, _, _, _, _, _, _, _, _, _, _, _, by k_is⟩, by k_is, by k_is, by k_is, by k_is, by k_is, by k_is, by k_is, by k_is, by k_is, by k_is, by k_is, ⟨_, _, _, _, _, _, _, _, _, by k_is, by k_is⟩, by k_is⟩)
    (case Qw42 => exact ⟨by k_is, ⟨_, _, _, _, _, _, _, _, _, _, _, _, _, _, by k_is⟩, by k_is, by k_is, by k_is, by k_is, by k_is, by k_is, by k_is, by k_is, by k_is, by k_is, by k_is, ⟨_, _, _, _, _, _, _, _, _, by k_is, by k_is⟩, by k_is⟩)
    (case Qw43 => exact ⟨by k_is, ⟨_, _, _, _, _, _, _, _, _, _, _, _, _, _, by k_is⟩, by k_is, by k_is, by k_is, by k_is, by k_is, by k_is, by k_is, by k_is, by k_is, by k_is, by k_is, ⟨_, _, _, _, _, _, _, _, _, by k_is, by k_is⟩, by k_is⟩)
    (case Qw44 => exact ⟨by k_is, ⟨_, _, _, _, _, _, _, _, _, _, _, _, _, _, by k_is⟩, by k_is, by k_is, by k_is, by k_is, by k_is, by k_is, by k_is, by k_is, by k_is, by k_is, by k_is, ⟨_, _, _, _, _, _, _, _, _, by k_is, by k_is⟩, by k_is⟩)
    (case Qw45 => exact ⟨by k_is, ⟨_, _, _, _, _, _, _, _, _, _, _, _, _, _, by k_is⟩, by k_is, by k_is, by k_is, by k_is, by k_is, by k_is, by k_is, by k_is, by k_is, by k_is, by k_is, ⟨_, _, _, _, _, _, _, _, _, by k_is, by k_is⟩, by k_is⟩)
    (case Qw46 => exact ⟨by k_is, ⟨_, _, _, _, _, _, _, _, _, _, _, _, _, _, by k_is⟩, by k_is, by k_is, by k_is, by k_is, by k_is, by k_is, by k_is, by k_is, by k_is, by k_is, by k_is, ⟨_, _, _, _, _, _, _, _, _, by k_is, by k_is⟩, by k_is⟩)
    (case Qn0 => k_is)
    (case Qn1 => k_is)
    (case Qn2 => k_is)
    (case Qn3 => k_is)
    (case Qn4 => k_is)
    (case Qn5 => k_is)
    (case Qn6 => k_is)
    (case Qn7 => k_is)
    (case Qn8 => k_is)
    (case Qn9 => k_is)
    (case Qn10 => k_is)
    (case Qn11 => k_is)
    (case Qn12 => k_is)
    (case Qn13 => k_is)
    (case Qn14 => k_is)
    (case Qn15 => k_is)
    (case Qn16 => k_is)
    (case Qn17 => k_is)
    (case Qn18 => k_is)
    (case Qn19 => k_is)
    (case Qn20 => k_is)
    (case Qn21 => k_is)
    (case Qn22 => k_is)
    (case Qn23 => k_is)
    (case Qn24 => k_is)
    (case Qn25 => k_is)
    (case Qn26 => k_is)
    (case Qn27 => k_is)
    (case Qn28 => k_is)
    (case Qn29 => k_is)
    (case Qn30 => k_is)
    (case Qn31 => k_is)
    (case Qn32 => k_is)
    (case Qn33 => k_is)
    (case Qn34 => k_is)
    (case Qn35 => k_is)
    (case Qn36 => k_is)
    (case Qn37 => k_is)
    (case Qn38 => k_is)
    (case Qn39 => k_is)
    (case Qn40 => k_is)
    (case Qn41 => k_is)
    (case Qn42 => k_is)
    (case Qn43 => k_is)
    (case Qn44 => k_is)
    (case Qnd => decide +kernel)
    (case QnE => decide +kernel)
    (case QsmN => first | rfl | kernel_rfl)

