import PyProof.Rows.All
import Wide.All
import OpenK.AllK
import Wide.FinOn
import PyProof.EqAt
import PyProof.EqKinds
import PyProof.TupleCall
import HandS.Base
import HandS.Call
import HandS.List
import HandS.Comp
import HandS.Ends
import HandS.Text
import HandS.Exc
import HandS.Words
import HandS.WordsList
import HandS.Iter
import HandS.Dict
import HandS.Wide
import HandS.IsInst
import HandS.AnyAll
import HandS.EndBits
import HandS.EndTab
import KE.GoesMore
import KE.GoesEnum
import HandS.Walk
import HandS.DictComp
import HandS.TryMany
import HandS.ExcOwn
import HandS.WordsExc
import HandS.ExcInit
import HandS.ExcField
import HandS.ExcIs
import KE.KExcIs
import KE.KIsAll
import KE.KEqDict
import PyProof.Rows.RegFStrParts
import PyProof.Rows.ReprShort
import HandS.Conv
import HandS.NoneIn
import HandS.FStr
import HandS.Style
import HandS.Strs
import HandS.Deep
import KE.GoesEnumKw
import HandS.SortKw
import HandS.CallLocal
import PyProof.StrLawsChain
import PyProof.Rows.StrSplitAre
import PyProof.Rows.StrItems
import PyProof.Rows.StrSplitJoin
import PyProof.NeKinds
import KE.KxIndex
import PyProof.ListStr
import HandS.More
import HandS.Replace
import KE.GoesRaise
import PySem.Challenge.RW_onestaff_k08_whole_line_texts
set_option Elab.async false
set_option linter.all false
set_option maxRecDepth 100000
set_option maxHeartbeats 4000000
/-! Defs that show lists and tuples: they run where no display is under way. -/
namespace Gd
open PySem PySem.Spec PyProof.Rows L2

/-- a def's promise, kept wherever no display is under way -/
structure GOk (P : Program) (w : World) (K : PySem.W.Frag) (mg : Str → Option Value) (base : Heap) (CX : CXT) (k : Nat) (f : Addr) (fd : FuncData) (ps : List Str) (sp : Sp) : Prop where
  size : ∀ vs H Q E, sp vs H Q E → vs.length = ps.length
  go : ∀ (A : Around) (out : List Env) (s : Shared) (H : Hp) (ar : Args) (us : List Value) (vs : List V) (Q : VK) (E : XK), A.guards = some [] →
    Room k A → Env0 P w K mg base A out s H → BindsTo s fd ar (ps.zip us) → Vals vs us → sp vs H Q E →
    codeAny (model P w) A (.call (.ref f) ar) (CR CX out P w H s Q E) s

section
variable {P : Program} {w : World} {K : PySem.W.Frag} {mg : Str → Option Value} {base : Heap}

/-- by its body -/
theorem gok_body {CX : CXT} {k : Nat} {x qual : Str} {st : Stmt} {f : Addr} {fd : FuncData} {N ps : List Str} {sp : Sp} (F : Fun K x qual st f fd) (S : FnScope N ps (defScope st))
    (size : ∀ vs H Q E, sp vs H Q E → vs.length = ps.length)
    (body : ∀ (cd : Value) (A : Around) (out : List Env) (s : Shared) (H : Hp) (vs : List V) (Q : VK) (E : XK), A.guards = some [] →
      Room k (A.deeper (envOfC qual (defScope st) s.heap.objs.size f cd)) → sp vs H Q E →
      ∃ t, PSs (cxOf CX P w K mg base N qual (defScope st) f cd A out s H E) (defBody st) t ∧ t { nx := fun _ H' => Q .non H', rt := Q } (start N vs) H) :
    GOk P w K mg base CX (k + 1) f fd ps sp := by
  obtain ⟨oc, od, kV, doc, pm, an, cd, ct, osl, rfl, lk, hcd⟩ := F.ex
  refine ⟨size, fun A out s H ar us vs Q E gd hr e0 hb r hsp => ?_⟩
  have hl := size _ _ _ _ hsp
  have KX : K.In s.heap := e0.mod.kin.keeps fun b o z => (e0.bs b o z).1
  have kinds : ∀ y ∈ ps.zip us, (defScope st).names.lookup y.1 = some .local ∨
      ((defScope st).names.lookup y.1 = some .cell ∧ ((cellsFrom (s.heap.objs.size + 1) (defScope st).names []).lookup y.1).isSome = true) := by
    rintro ⟨n, v⟩ hy
    have hm := (List.of_mem_zip hy).1
    cases S.par n hm with
    | inl q => exact .inl q
    | inr q => exact .inr ⟨q, PySem.W.cellsFrom_some _ _ _ (.inl q)⟩
  have Z := PySem.W.codeRec_of KX hcd
  refine codeAny_call_function hr.depth (KX _ _ lk) rfl S.co S.gen rfl Z (hb _ _ _ _ ?_)
  refine wpAny_newFunctionEnv_cells S.kind kinds fun env he s1 ic => ?_
  subst he
  have lim : s.heap.NoLimit := e0.mod.nolimit.keeps fun b o z => (e0.bs b o z).1
  refine ⟨lim.keeps ic.toInCall.keep, codeAny_func ?_⟩
  obtain ⟨t, ht, hq⟩ := body cd A out s H vs Q E gd (hr.deeper _) hsp
  have I := inv_start (CX := CX) (E := E) S hr.hd e0 hl r ic
  refine wpAny_mono (ht.run [] s1 (start N vs) H _ I hq) ?_ (fun _ _ z => z)
  intro fl s' hs
  cases fl with
  | brk => obtain ⟨_, _, _, q⟩ := hs; exact q.elim
  | cont => obtain ⟨_, _, _, q⟩ := hs; exact q.elim
  | next =>
    obtain ⟨σ', H', J, q⟩ := hs
    exact ⟨V.non, H', J.os, J.bare, J.base, J.hok, rfl, q⟩
  | ret u =>
    obtain ⟨v, σ', H', J, rv, q⟩ := hs
    exact ⟨v, H', J.os, J.bare, J.base, J.hok, rv, q⟩
/-- the same where nothing is raised -/
theorem gok {k : Nat} {x qual : Str} {st : Stmt} {f : Addr} {fd : FuncData} {N ps : List Str} {sp : Sp} (F : Fun K x qual st f fd) (S : FnScope N ps (defScope st))
    (size : ∀ vs H Q E, sp vs H Q E → vs.length = ps.length)
    (body : ∀ (cd : Value) (A : Around) (out : List Env) (s : Shared) (H : Hp) (vs : List V) (Q : VK) (E : XK), A.guards = some [] →
      Room k (A.deeper (envOfC qual (defScope st) s.heap.objs.size f cd)) → sp vs H Q E →
      ∃ t, PSs (cxOf CX0 P w K mg base N qual (defScope st) f cd A out s H E).nox (defBody st) t ∧ t { nx := fun _ H' => Q .non H', rt := Q } (start N vs) H) :
    GOk P w K mg base CX0 (k + 1) f fd ps sp := by
  refine gok_body F S size fun cd A out s H vs Q E gd hr q => ?_
  obtain ⟨t, h, z⟩ := body cd A out s H vs Q E gd hr q
  exact ⟨t, h.nox, z⟩
theorem GOk.mono {CX : CXT} {j k : Nat} {f : Addr} {fd : FuncData} {ps : List Str} {sp : Sp} (F : GOk P w K mg base CX j f fd ps sp) (h : j ≤ k) : GOk P w K mg base CX k f fd ps sp :=
  ⟨F.size, fun A out s H ar us vs Q E gd hr => F.go A out s H ar us vs Q E gd (hr.mono h)⟩
theorem gok_of {CX : CXT} {k : Nat} {f : Addr} {fd : FuncData} {ps : List Str} {sp : Sp} (F : FnOk P w K mg base CX k f fd ps sp) : GOk P w K mg base CX k f fd ps sp :=
  ⟨F.len, fun A out s H ar us vs Q E _ hr => F.run A out s H ar us vs Q E hr⟩
end

section
variable {X : Cx} {CX : CXT} {k : Nat} {f : Addr} {fd : FuncData} {ps : List Str} {sp : Sp} {dvs : List V} {ds : List Value} {E : XK} {x : Str} {p pos : Pos} {e : Expr} {es : List Expr} {t : TA}
/-- f(e, ..), f such a def, from a body of such a def -/
theorem pe_gcall (gd : X.A.guards = some []) (F : GOk X.prog X.w X.K X.mg X.base CX k f fd ps sp) (hr : Room k X.A) (hg : Gl X x) (hm : X.mg x = some (.ref f)) (hk : PySem.W.keepIn X.K (.ref f) = true)
    (hb : Binds X.K fd ps ds) (hd : Vals dvs ds) (hx : Passes CX X E) (ha : PA X (e :: es) t) (hdb : (x == ("__debug__" : Str)) = false := by decide)
    (he : starEach (e :: es) X.env = (false, eval e X.env) :: starEach es X.env := by rfl) (hpl : (backTo pos (starEach es X.env)).any (·.1) = false := by rfl) :
    PE X (.Call (.Name x p) (e :: es) [] pos) (tCall sp dvs E t) := by
  refine ⟨fun pins s σ H Q I h => wpAny_Call_Name_kw (ld_glob I hg hm ?_ hdb)⟩
  have A1 := ha.run pos pins s σ H _ I h
  refine PySem.W.callWith_K (h₀ := X.base) I.ok.mod.kin hk (thn A1 ?_) he hpl
  rintro us s1 ⟨vs, H1, I1, r, q⟩
  refine ⟨I1.kIn, ?_⟩
  have both := r.append hd
  have hl : (us ++ ds).length = ps.length := (both.length).symm.trans (F.size _ _ _ _ q)
  have run1 := F.go X.A X.stack s1 H1 ⟨us, []⟩ (us ++ ds) (vs ++ dvs) Q E gd hr I1.env0 (hb s1 us I1.kIn hl) both q
  refine wpAny_call (codeAny_mono run1 ?_)
  intro res s' hq
  match res, hq with
  | .error e, hq => exact hx pins σ H1 s1 e s' I1 hq
  | .ok (.ret u), hq => exact I1.after hq
  | .ok .next, hq => exact hq.elim
  | .ok .brk, hq => exact hq.elim
  | .ok .cont, hq => exact hq.elim

/-! ### repr of data -/
mutual
theorem dp_noDict {K : PySem.W.Frag} {H : Hp} : ∀ {v : V} {d : PyData}, Dp K H v d → d.hasDict = false
  | _, _, .non => by simp only [PyData.hasDict]
  | _, _, .bl _ => by simp only [PyData.hasDict]
  | _, _, .int _ => by simp only [PyData.hasDict]
  | _, _, .str _ => by simp only [PyData.hasDict]
  | _, _, .lst _ h => by simp only [PyData.hasDict]; exact dpAll_noDict h
  | _, _, .tup _ h => by simp only [PyData.hasDict]; exact dpAll_noDict h
theorem dpAll_noDict {K : PySem.W.Frag} {H : Hp} : ∀ {vs : List V} {ds : List PyData}, DpAll K H vs ds → PyData.hasDictAll ds = false
  | _, _, .nil => by simp only [PyData.hasDictAll]
  | _, _, .cons h t => by simp only [PyData.hasDictAll, dp_noDict h, dpAll_noDict t, Bool.or_self]
end
/-- repr(v), v some data d -/
def rRepr (K : PySem.W.Frag) : List V → Hp → VK → Prop := fun xs H Q => ∃ v d, xs = [v] ∧ Dp K H v d ∧ d.showable = true ∧ d.depth ≤ 100 ∧ d.shown.length ≤ sizeLine ∧ Q (.str d.shown) H
theorem call_repr (gd : X.A.guards = some []) (hr : Room k X.A) : CallR X (.builtin "repr") (rRepr X.K) := by
  intro pins s σ H xs us Q I r h
  obtain ⟨v, d, rfl, dp, hs, hdep, hsz, q⟩ := h
  cases r with
  | cons rv rn =>
    cases rn
    have hun := hr.un
    cases dp with
    | non =>
      cases rv
      refine PySem.P.repr_of_none ⟨.str _, H, I.tok _, ⟨_, rfl⟩, ?_⟩
      simpa only [PyData.shown] using q
    | bl b =>
      cases rv
      refine PySem.P.repr_of_bool ⟨.str _, H, I.tok _, ⟨_, rfl⟩, ?_⟩
      simpa only [PyData.shown] using q
    | int i =>
      obtain ⟨t, rfl⟩ := rv
      refine PySem.P.repr_of_int (by simpa [PyData.showable] using hs) ⟨.str _, H, I.tok _, ⟨_, rfl⟩, ?_⟩
      simpa only [PyData.shown] using q
    | str z =>
      obtain ⟨t, rfl⟩ := rv
      refine PySem.P.repr_of_str ⟨.str _, H, I.tok _, ⟨_, rfl⟩, ?_⟩ (by simpa only [PyData.shown] using hsz)
      simpa only [PyData.shown] using q
    | lst hl ha =>
      cases rv
      obtain ⟨as, rd⟩ := Dp.reads I _ _ _ (.lst hl ha) rfl
      refine repr_of_reads' rd hs (PyData.noDict_hsm (dp_noDict (.lst hl ha))) gd (by omega) (fun _ _ z => z) (fun h' u tk hk => ?_) hsz
      exact ⟨.str _, H, I.kept hk, ⟨_, rfl⟩, q⟩
    | tup hl ha =>
      cases rv
      obtain ⟨as, rd⟩ := Dp.reads I _ _ _ (.tup hl ha) rfl
      refine repr_of_reads' rd hs (PyData.noDict_hsm (dp_noDict (.tup hl ha))) gd (by omega) (fun _ _ z => z) (fun h' u tk hk => ?_) hsz
      exact ⟨.str _, H, I.kept hk, ⟨_, rfl⟩, q⟩
end
end Gd

set_option maxRecDepth 100000
set_option maxHeartbeats 4000000
/-! The end of a law whose own def shows data: no display is under way at its call. -/
namespace Gd
open PySem PySem.Spec PyProof.Rows L2 GxR

/-- the script's own object -/
def scriptO (vs : List Value) : Obj := { cls := .type "list", data := .seq vs.toArray }
def tabO : Obj := { cls := .none, data := .fields #[] }
open Classical in
/-- what is tracked at the law's call: the script (where the written part hasn't it), the tables -/
noncomputable def h0 (K : PySem.W.Frag) (a : Addr) (vs : List Value) (ns : List Int) (T : List Addr) : Hp := fun b =>
  if b = a ∧ K.lookup a = none then some (.frz (scriptO vs) (.lst (ns.map V.int))) else if b ∈ T then some (.tbl #[]) else none

theorem h0_inv {K : PySem.W.Frag} {a b : Addr} {vs : List Value} {ns : List Int} {T : List Addr} {u : HO} (h : h0 K a vs ns T b = some u) :
    (b = a ∧ K.lookup a = none ∧ u = .frz (scriptO vs) (.lst (ns.map V.int))) ∨ (b ∈ T ∧ u = .tbl #[]) := by
  unfold h0 at h
  by_cases c1 : b = a ∧ K.lookup a = none
  · rw [if_pos c1] at h
    exact .inl ⟨c1.1, c1.2, (Option.some.inj h).symm⟩
  · rw [if_neg c1] at h
    by_cases c2 : b ∈ T
    · rw [if_pos c2] at h
      exact .inr ⟨c2, (Option.some.inj h).symm⟩
    · rw [if_neg c2] at h
      cases h

section
variable {P : Program} {w : World} {K : PySem.W.Frag} {mg mb : Str → Option Value} {CX : CXT} {k : Nat} {fa a : Addr} {cs : List (Addr × Addr)} {fd : FuncData} {x : Str} {sp : Sp} {s1 : Shared} {vs : List Value} {ns : List Int}
theorem law_gcall (KX : K.In s1.heap) (nsG : s1.heap.Ns mainGlobals mg) (nsB : s1.heap.Ns builtinsNs mb) (isB : ∀ x : Str, x ≠ "__name__" → mb x = bootBuiltins x) (lim : s1.heap.NoLimit) (gens : s1.gens = #[])
    (tabs : ∀ p ∈ cs, s1.heap.get? p.2 = some tabO) (tabK : ∀ p ∈ cs, K.lookup p.2 = none) (codes : ∀ p ∈ cs, PySem.W.CodeHd s1.heap p.1 p.2)
    (bmain : ∃ (bm : Addr) (ob : Obj), mg "__builtins__" = some (.ref bm) ∧ bm ≠ builtinsNs ∧ s1.heap.get? bm = some ob ∧ ob.cls = .type "module" ∧ ob.dict = some builtinsNs ∧ ob.data = .plain)
    (ha : s1.heap.get? a = some (scriptO vs)) (hi : IntsAre vs ns) (hl : ns.length ≤ sizeLine) (hr : Room k callerA)
    (F : ∀ base : Heap, K.In base → base.Ns mainGlobals mg → (∀ p ∈ cs, TabB base mg p.1 p.2) → GOk P w K mg base CX k fa fd [x] sp)
    (hbind : ∀ (s : Shared) (u : Value), BindsTo s fd ⟨[u], []⟩ [(x, u)])
    (hsp : ∀ H : Hp, (∀ p ∈ cs, H p.2 = some (.tbl #[])) → SqL K H a (ns.map V.int) → sp [.ref a] H (fun v _ => v = .bl true) fun _ _ _ => False)
    (hCX : ∀ H e s', CX [] H s1 (fun _ _ _ => False) e s' → False) :
    codeAny (model P w) callerA (.call (.ref fa) ⟨[.ref a], []⟩) (fun r s' => r = .ok (.ret (.bool true)) ∧ OldK s1.heap s'.heap ∧ s'.os = s1.os ∧ AllBare s'.gens) s1 := by
  have rv := vals_ints hi
  have hlen := hi.length
  let T := cs.map Prod.snd
  have inT : ∀ p ∈ cs, p.2 ∈ T := fun p hp => List.mem_map.mpr ⟨p, hp, rfl⟩
  have ofT : ∀ b ∈ T, s1.heap.get? b = some tabO ∧ K.lookup b = none := by
    intro b hb
    obtain ⟨p, hp, rfl⟩ := List.mem_map.mp hb
    exact ⟨tabs p hp, tabK p hp⟩
  have neT : a ∉ T := fun z => by
    have q := (ofT a z).1
    rw [ha] at q
    cases q
  let H := h0 K a vs ns T
  -- a tracked object is the script or a table
  have seen : ∀ {b : Addr} {o : Obj}, s1.heap.get? b = some o → (∀ us n, o.data ≠ .seq us n) → o.data ≠ .fields #[] → H b = none := by
    intro b o e n1 n2
    cases q : H b with
    | none => rfl
    | some u =>
      exfalso
      rcases h0_inv q with ⟨rfl, _, _⟩ | ⟨hb, _⟩
      · rw [ha] at e
        cases e
        exact n1 _ _ rfl
      · rw [(ofT b hb).1] at e
        cases e
        exact n2 rfl
  have keepHid : ∀ {b : Addr} {o : Obj}, s1.heap.get? b = some o → H b = none → (hidT s1.heap H).get? b = some o := fun e n => hidT_get e n
  have dictHid : ∀ {b : Addr} {o : Obj} {es : Array DictEntry} {ep : Nat}, s1.heap.get? b = some o → o.data = .dict es ep → (hidT s1.heap H).get? b = some o := by
    intro b o es ep e d
    refine keepHid e (seen e (fun us n z => ?_) fun z => ?_) <;> (rw [d] at z; cases z)
  have nsHid : ∀ {b : Addr} {m : Str → Option Value}, s1.heap.Ns b m → (hidT s1.heap H).Ns b m := by
    rintro b m ⟨o, es, ep, e, d, rest⟩
    exact ⟨o, es, ep, dictHid e d, d, rest⟩
  have KH : K.In (hidT s1.heap H) := by
    intro b o e
    refine keepHid (KX b o e) ?_
    cases q : H b with
    | none => rfl
    | some u =>
      exfalso
      rcases h0_inv q with ⟨rfl, z, _⟩ | ⟨hb, _⟩
      · rw [z] at e
        cases e
      · rw [(ofT b hb).2] at e
        cases e
  have limH : (hidT s1.heap H).NoLimit := by
    obtain ⟨mc, h1, h2⟩ := lim
    exact ⟨mc, nsHid h1, h2⟩
  have M : L2.Mod K mg (hidT s1.heap H) := ⟨KH, nsHid nsG, ⟨mb, nsHid nsB, isB⟩, limH⟩
  have TB : ∀ p ∈ cs, TabB (hidT s1.heap H) mg p.1 p.2 := by
    intro p hp
    have tp := tabs p hp
    refine ⟨?_, ?_, ?_⟩
    · obtain ⟨o, us, file, tf, flags, tg, inF, text, tt, e1, r1, r2, r3, rest⟩ := codes p hp
      refine ⟨o, us, file, tf, flags, tg, inF, text, tt, keepHid e1 (seen e1 (fun vs n z => ?_) fun z => ?_), r1, r2, r3, rest⟩
      · rw [r2] at z
        cases z
      · rw [r2] at z
        cases z
        simp at r3
    · obtain ⟨bm, ob, b1, b2, b3, b4, b5, b6⟩ := bmain
      have g1 : bm ≠ mainGlobals := by
        rintro rfl
        obtain ⟨o, es, ep, e, d, _⟩ := nsG
        rw [b3] at e
        cases e
        rw [b6] at d
        cases d
      have g2 : bm ≠ p.2 := by
        rintro rfl
        rw [tp] at b3
        cases b3
        cases b6
      refine ⟨bm, ob, b1, b2, g1, g2, keepHid b3 (seen b3 (fun vs n z => ?_) fun z => ?_), b4, b5, b6⟩ <;> (rw [b6] at z; cases z)
    · intro z
      obtain ⟨o, es, ep, e, d, _⟩ := nsG
      rw [z, tp] at e
      cases e
      cases d
  have hH : ∀ p ∈ cs, H p.2 = some (.tbl #[]) := by
    intro p hp
    have n1 : ¬ (p.2 = a ∧ K.lookup a = none) := fun z => neT (z.1 ▸ inT p hp)
    exact (if_neg n1).trans (if_pos (inT p hp))
  have hS : SqL K H a (ns.map V.int) := by
    cases q : K.lookup a with
    | none => exact .inl (.inr ⟨scriptO vs, if_pos ⟨rfl, q⟩⟩)
    | some o =>
      have e := KX a o q
      rw [ha] at e
      cases e
      exact .inr ⟨_, vs.toArray, _, q, rfl, rfl, rfl, by rw [List.size_toArray, hlen]; exact hl, by simpa using rv⟩
  have hok : HOk P w H s1.heap := by
    intro b u q
    rcases h0_inv q with ⟨rfl, _, rfl⟩ | ⟨hb, rfl⟩
    · exact ⟨ha, by rw [List.length_map]; exact hl, vs, _, rv, ha⟩
    · exact (ofT b hb).1
  have e0 : Env0 P w K mg (hidT s1.heap H) callerA [] s1 H :=
    ⟨rfl, M, fun b o e => of_hidT e, Nat.le_of_eq (hidT_size _ _), trivial, (fun b hb => by cases (show b ∈ ([] : List Addr) from hb)), hok, .of_eq gens⟩
  have run := (F _ KH (nsHid nsG) TB).go callerA [] s1 H ⟨[.ref a], []⟩ [.ref a] [.ref a] (fun v _ => v = .bl true) (fun _ _ _ => False) rfl hr e0 (hbind s1 (.ref a)) (.cons rfl .nil) (hsp H hH hS)
  refine codeAny_mono run ?_
  intro r s' h
  match r, h with
  | .error e, h => exact (hCX H e s' h).elim
  | .ok .next, h => exact h.elim
  | .ok .brk, h => exact h.elim
  | .ok .cont, h => exact h.elim
  | .ok (.ret u), h =>
    obtain ⟨v, H', os, bare, un, hok', r', q⟩ := h
    obtain rfl : v = .bl true := q
    obtain rfl : u = Value.bool true := r'
    have plain : ∀ b o, b ∉ T → s1.heap.get? b = some o → s'.heap.get? b = some o := by
      intro b o nb e
      cases q : H b with
      | none => exact un.keep b o e q (fun z => by cases (show b ∈ ([] : List Addr) from z)) (by simp)
      | some y =>
        rcases h0_inv q with ⟨rfl, _, rfl⟩ | ⟨hb, _⟩
        · obtain ⟨e2, _⟩ := hok' b _ (un.frzs b _ _ q)
          rw [ha] at e
          cases e
          exact e2
        · exact absurd hb nb
    have grown : ∀ p ∈ cs, ∃ more : Array Value, s'.heap.get? p.2 = some { cls := .none, data := .fields more } := by
      intro p hp
      obtain ⟨more, z⟩ := un.tbls p.2 #[] (hH p hp)
      exact ⟨_, hok' p.2 _ z⟩
    refine ⟨rfl, ⟨fun b o e => ?_, fun b o e => ?_⟩, os, bare⟩ <;> by_cases hb : b ∈ T
    · obtain ⟨p, hp, rfl⟩ := List.mem_map.mp hb
      obtain ⟨more, hm⟩ := grown p hp
      rw [tabs p hp] at e
      cases e
      exact .inr (.inl ⟨((codes p hp).tab (tabs p hp)).isCodeTable, rfl, #[], more, rfl, by rw [Array.empty_append]; exact hm⟩)
    · exact .inl (plain b o hb e)
    · obtain ⟨p, hp, rfl⟩ := List.mem_map.mp hb
      obtain ⟨more, hm⟩ := grown p hp
      exact ⟨_, hm⟩
    · exact ⟨o, plain b o hb e⟩
end

/-- the tables of the text's own defs are empty behind the top -/
def Empt (q : Program) (K : PySem.W.Frag) (h : Heap) : Prop := ∀ (x : Str) (f c t : Addr) (o : Obj) (fd : FuncData) (e : Value) (dd : Option Addr) (us : Array Value) (sl : Array (Option Value)),
  ((PyProof.Rows.recsOf q).any fun r => r.name == x) = true → PySem.W.nsIn K mainGlobals x = some (some (.ref f)) → K.lookup f = some o → o.data = .func fd → fd.code = .ref c →
  K.lookup c = some ⟨e, dd, .fields us, sl⟩ → us[11]? = some (.ref t) → PySem.W.CodeHd h c t ∧ h.get? t = some tabO
/-- what is to be known of the law at the head's heap -/
def GLaw (l : PySem.W.OpenLaw) (w : World) (K : PySem.W.Frag) (CX : CXT) (k n : Nat) (x : Str) (mg : Str → Option Value) (fa : Addr) (h : Heap) : Prop :=
  ∃ (fd : FuncData) (cs : List (Addr × Addr)) (sp : Sp), (∀ p ∈ cs, h.get? p.2 = some tabO) ∧ (∀ p ∈ cs, K.lookup p.2 = none) ∧ (∀ p ∈ cs, PySem.W.CodeHd h p.1 p.2) ∧
    (∀ (s : Shared) (u : Value), BindsTo s fd ⟨[u], []⟩ [(x, u)]) ∧
    (∀ (H : Hp) (a : Addr) (ns : List Int), ns.length ≤ n → (∀ z ∈ ns, Builtin.Int.intBits z ≤ 1048576) → (∀ p ∈ cs, H p.2 = some (.tbl #[])) → SqL K H a (ns.map V.int) →
      sp [.ref a] H (fun v _ => v = .bl true) fun _ _ _ => False) ∧
    ∀ base : Heap, K.In base → base.Ns mainGlobals mg → (∀ p ∈ cs, TabB base mg p.1 p.2) → GOk l.prog w K mg base CX k fa fd [x] sp
theorem walk_g {l : PySem.W.OpenLaw} {n k : Nat} {q : Program} {loose : List Str} {XP : (Str → Option Value) → Heap → Prop} {YP : World → Heap → Prop} {d : DefRec} {K : Params → PySem.W.Frag} {CX : World → CXT} {x : Str}
    (hn : l.most = some n) (small : n ≤ sizeLine) (hdf : d.params.defaults = []) (hr : Room k callerA) (hY : ∀ (w : World) (h : Heap), YP w h → (K w.params).In h)
    (F : ∀ (w : World) (mg : Str → Option Value) (fa : Addr) (h : Heap), YP w h → (K w.params).In h → h.Ns mainGlobals mg → mg d.name = some (.ref fa) → Empt q (K w.params) h → GLaw l w (K w.params) (CX w) k n x mg fa h)
    (hCX : ∀ (w : World) (H : Hp) (s : Shared) (e : Value) (s' : Shared), CX w [] H s (fun _ _ _ => False) e s' → False) :
    PySem.W.WalkO q loose XP YP l.row.toRowW d [] (fun f vs => PySem.call f vs) := by
  refine Att.attach_callB hn hdf ?_
  intro w sA s1 mg mb fa o pm cd doc a vs ns G Y ho hd hcd hmg hobj hints hlen hbits hg
  have KX := hY w _ Y
  have em : Empt q (K w.params) s1.heap := by
    intro x f c t o1 fd1 e dd us sl hx k1 k2 k3 k4 k5 k6
    obtain ⟨r, hr1, hr2⟩ := List.any_eq_true.mp hx
    have hn1 : r.name = x := beq_iff_eq.mp hr2
    obtain ⟨a1, o2, fd2, c2, t2, y1, y2, y3, y4, y5, y6⟩ := G.T.tab r hr1
    have z1 := PySem.W.mg_of KX G.T.g k1
    rw [hn1, z1] at y1
    cases y1
    have z2 := KX _ _ k2
    rw [z2] at y2
    cases y2
    rw [k3] at y3
    cases y3
    rw [k4] at y4
    cases y4
    have y6b := y6
    obtain ⟨⟨oc, vc, e1, e2, e3, e4⟩, hP⟩ := y6b
    have z5 := KX _ _ k5
    rw [z5] at e1
    cases e1
    cases e3
    rw [k6] at e4
    cases e4
    exact ⟨PySem.W.CodeHd.of y5 y6, hP⟩
  obtain ⟨fd, cs, sp, t1, t2, t3, hb, hsp, hF⟩ := F w mg fa _ Y KX G.T.g hmg em
  exact law_gcall KX G.T.g G.T.b G.T.builtins G.T.nolimit hg t1 t2 t3 G.T.bmain hobj hints (Nat.le_trans hlen small) hr hF hb (fun H a1 a2 => hsp H a ns hlen hbits a1 a2) (fun H e s' => hCX w H s1 e s')
end Gd

set_option maxRecDepth 100000
set_option maxHeartbeats 4000000
/-! Things, boxes, texts: what the laws share, over no program. -/
namespace My
open PySem PySem.Spec PyProof.Rows L2 GxR Gd TL
/-! ### things -/
def Good (z : Str) : Prop := ∀ c ∈ z.cps.toList, c < 1114112
inductive Th (H : Hp) : V → Prop
  | non : Th H .non
  | bl (b : Bool) : Th H (.bl b)
  | int (i : Int) : Th H (.int i)
  | str (z : Str) (h : z.length ≤ 1000000) (g : Good z) : Th H (.str z)
  | lst (a : Addr) (xs : List V) (h : H a = some (.lst xs)) : Th H (.ref a)
  | tup (a : Addr) (xs : List V) (h : H a = some (.tup xs)) : Th H (.ref a)
  | dic (a : Addr) {kvs : List (Key × V)} (h : H a = some (.dK kvs)) : Th H (.ref a)
def lc (c : Nat) : Bool := decide (97 ≤ c) && decide (c ≤ 122)
def nm : V → Bool
  | .str z => decide (1 ≤ z.length) && decide (z.length ≤ 6) && z.cps.toList.all lc
  | _ => false
def wh (lo hi : Int) : V → Bool
  | .int i => decide (lo ≤ i) && decide (i ≤ hi)
  | _ => false
/-- its kind -/
theorem Th.ty {K : PySem.W.Frag} {H : Hp} {v : V} (h : Th H v) : ∃ t, TyX K H v (.type t) ∧
    ((∃ i, v = .int i ∧ t = "int") ∨ (∃ b, v = .bl b ∧ t = "bool") ∨ (∃ z, v = .str z ∧ (z.length ≤ 1000000 ∧ Good z) ∧ t = "str") ∨
     ((∀ i, v ≠ .int i) ∧ (∀ b, v ≠ .bl b) ∧ (∀ z, v ≠ .str z) ∧ (t = "NoneType" ∨ t = "list" ∨ t = "tuple" ∨ t = "dict"))) := by
  cases h with
  | non => exact ⟨_, .base .non, .inr (.inr (.inr ⟨by simp, by simp, by simp, .inl rfl⟩))⟩
  | bl b => exact ⟨_, .base (.bl b), .inr (.inl ⟨b, rfl, rfl⟩)⟩
  | int i => exact ⟨_, .base (.int i), .inl ⟨i, rfl, rfl⟩⟩
  | str z h g => exact ⟨_, .base (.str z), .inr (.inr (.inl ⟨z, rfl, ⟨h, g⟩, rfl⟩))⟩
  | lst a xs h => exact ⟨_, .base (.lst h), .inr (.inr (.inr ⟨by simp, by simp, by simp, .inr (.inl rfl)⟩))⟩
  | tup a xs h => exact ⟨_, .base (.tup h), .inr (.inr (.inr ⟨by simp, by simp, by simp, .inr (.inr (.inl rfl))⟩))⟩
  | dic a h => exact ⟨_, .base (.dK h), .inr (.inr (.inr ⟨by simp, by simp, by simp, .inr (.inr (.inr rfl))⟩))⟩
/-- all but the table stays -/
structure KT (P : Addr) (H H' : Hp) : Prop where
  keep : ∀ c o, c ≠ P → H c = some o → H' c = some o
  tab : TabG H' P
theorem TabG.at {H : Hp} {P : Addr} (t : TabG H P) : ∃ ps, H P = some (.tbl ps) := let ⟨ps, h, _⟩ := t; ⟨ps, h⟩
theorem ne_tab {H : Hp} {P a : Addr} {o : HO} (t : TabG H P) (h : H a = some o) (n : ∀ ps, o ≠ .tbl ps) : a ≠ P := by
  rintro rfl
  obtain ⟨ps, e⟩ := TabG.at t
  rw [h] at e
  exact n ps (Option.some.inj e)
theorem KT.refl {P : Addr} {H : Hp} (t : TabG H P) : KT P H H := ⟨fun _ _ _ h => h, t⟩
theorem KT.trans {P : Addr} {H H1 H2 : Hp} (a : KT P H H1) (b : KT P H1 H2) : KT P H H2 := ⟨fun c o n h => b.keep c o n (a.keep c o n h), b.tab⟩
theorem KT.of {P : Addr} {H H' : Hp} (t : Tabbed P H H') : KT P H H' := ⟨fun c o n h => by rw [t.2 c n]; exact h, t.1⟩
theorem KT.alloc {P p : Addr} {H : Hp} {o : HO} (t : TabG H P) (n : H p = none) : KT P H (upd H p o) := by
  obtain ⟨ps, e, ht⟩ := t
  refine ⟨fun c q _ h => by rw [upd_ne (ne_of_none h n)]; exact h, ps, by rw [upd_ne (ne_of_none e n)]; exact e, ht⟩
theorem Th.kt {P : Addr} {H H' : Hp} (t : TabG H P) (k : KT P H H') {v : V} (h : Th H v) : Th H' v := by
  cases h with
  | non => exact .non
  | bl b => exact .bl b
  | int i => exact .int i
  | str z h g => exact .str z h g
  | lst a xs h => exact .lst a xs (k.keep _ _ (ne_tab t h (by simp)) h)
  | tup a xs h => exact .tup a xs (k.keep _ _ (ne_tab t h (by simp)) h)
  | dic a h => exact .dic a (k.keep _ _ (ne_tab t h (by simp)) h)

theorem elt_between {prog : Program} {w : World} {scope : Scope} {x a b : Str} {j1 j2 : Nat} {p1 p2 p3 p4 : Pos} (hk : scope.kind = .function) (hl : scope.names.lookup x = some .local)
    (hd : (x == ("__debug__" : Str)) = false := by decide) :
    EltP prog w scope x (.Compare (.Constant (.str a) j1 p1) [.LtE, .LtE] [.Name x p2, .Constant (.str b) j2 p3] p4) (fun c => !decide ([c] < a.cps.toList) && !decide (b.cps.toList < [c])) := by
  intro cenv A' E' c t s2 m2 hs hn hm
  refine Compare_chain ?_ (by with_unfolding_all rfl)
  refine Calls.Constant_str (chain_link ?_)
  refine wpAny_Name (wpAny_loadName_local (by rw [hs]; exact hk) (show cenv.scope.names.lookup x = some .local by rw [hs]; exact hl) hn hm ?_) hd
  refine PySem.P.le_str ?_
  refine wpAny_truthy_bool ?_
  cases q : decide ([c] < a.cps.toList) with
  | true =>
    refine ite_ff ⟨?_, keeps_tok _ _⟩
    have q' : decide ((⟨#[c]⟩ : Str).cps.toList < a.cps.toList) = true := q
    simp [q']
  | false =>
    refine ite_tt (chain_last ?_)
    refine Calls.Constant_str ?_
    refine PySem.P.le_str ⟨?_, keeps_tok _ _⟩
    have q2 : ¬ [c] < a.cps.toList := of_decide_eq_false q
    simp [List.not_lt.mp q2]
def genSc : Scope := { kind := ScopeKind.function, names := [(Str.ofString ".0", NameKind.local), (Str.ofString "sign", NameKind.local)], isGenerator := true, isCoroutine := false }
theorem no_free : ∀ y ∈ genSc.names, y.2 ≠ NameKind.free := by decide +kernel
theorem one_lt (c d : Nat) : [c] < [d] ↔ c < d := by
  rw [List.cons_lt_cons_iff]
  constructor
  · rintro (h | ⟨_, h⟩)
    · exact h
    · exact absurd h (List.not_lt_nil _)
  · exact .inl
theorem lc_eq (c : Nat) : (!decide ([c] < [97]) && !decide ([122] < [c])) = lc c := by
  unfold lc
  rw [Bool.eq_iff_iff]
  simp only [Bool.and_eq_true, Bool.not_eq_true', decide_eq_false_iff_not, decide_eq_true_eq, one_lt]
  omega
/-! ### the box -/
def Bx (b : Addr) (n : Int) (H : Hp) : Prop := ∃ x y z : Int, H b = some (.lst [.int x, .int y, .int z]) ∧ 0 ≤ x ∧ 0 ≤ y ∧ y < 2147483629 ∧ 0 ≤ z ∧ z ≤ n
theorem Bx.same {b : Addr} {n : Int} {H H' : Hp} (h : Bx b n H) (e : H' b = H b) : Bx b n H' := by
  obtain ⟨x, y, z, h1, r⟩ := h
  exact ⟨x, y, z, e.trans h1, r⟩
theorem Bx.mono {b : Addr} {n m : Int} {H : Hp} (h : Bx b n H) (e : n ≤ m) : Bx b m H := by
  obtain ⟨x, y, z, h1, h2, h3, h4, h5, h6⟩ := h
  exact ⟨x, y, z, h1, h2, h3, h4, h5, by omega⟩
theorem i0 (a b c : V) : atI [a, b, c] 0 = some a := rfl
theorem i1 (a b c : V) : atI [a, b, c] 1 = some b := rfl
theorem i2 (a b c : V) : atI [a, b, c] 2 = some c := rfl
theorem j0 : ixN 3 0 = some 0 := rfl
theorem j2 : ixN 3 2 = some 2 := rfl
/-! ### lists and texts -/
theorem atI_ex {α : Type} {xs : List α} {d : Int} (h0 : 0 ≤ d) (h1 : d < xs.length) : ∃ v, v ∈ xs ∧ atI xs d = some v := by
  obtain ⟨j, rfl⟩ := Int.eq_ofNat_of_zero_le h0
  have hj : j < xs.length := by omega
  exact ⟨xs[j], List.getElem_mem hj, atI_nat (List.getElem?_eq_getElem hj)⟩
theorem joinL_len (S : List Nat) : ∀ ps : List (List Nat), (joinL S ps).length ≤ (ps.map List.length).sum + ps.length * S.length
  | [] => by simp [joinL]
  | [p] => by simp [joinL]
  | p :: q :: r => by
    have ih := joinL_len S (q :: r)
    have e : joinL S (p :: q :: r) = p ++ (S ++ joinL S (q :: r)) := rfl
    rw [e, List.length_append, List.length_append, List.map_cons, List.sum_cons, List.length_cons, Nat.succ_mul]
    omega
theorem tl_len (z : Str) : (tl z).length = z.length := by
  show z.cps.toList.length = z.cps.size
  simp
theorem join_len (y : Str) (ps : List Str) : (Txt.join y ps).length ≤ (ps.map (·.length)).sum + ps.length * y.length := by
  have h := joinL_len (tl y) (ps.map tl)
  rw [← tl_len, join_eq, tl_join]
  have e : (ps.map tl).map List.length = ps.map (·.length) := by
    rw [List.map_map]
    exact List.map_congr_left fun z _ => tl_len z
  rw [e, List.length_map, tl_len] at h
  exact h
theorem sum_ones (ps : List Str) (h : ∀ z ∈ ps, z.length ≤ 1) : (ps.map (·.length)).sum ≤ ps.length := by
  induction ps with
  | nil => simp
  | cons a r ih =>
    have h1 := h a List.mem_cons_self
    have h2 := ih fun z hz => h z (List.mem_cons_of_mem _ hz)
    simp only [List.map_cons, List.sum_cons, List.length_cons]
    omega
theorem lcY {A : TE} {σ : L2.St} {H : Hp} {G : VK} {B : Hp → Prop} (h : A σ H G) : tYes σ H (fun b H3 => if b = true then A σ H3 G else B H3) := by
  show if true = true then A σ H G else B H
  exact iteT h
theorem good_app {a b : Str} (h : Good a) (k : Good b) : Good (a ++ b) := fun c hc => by
  have e : (a ++ b).cps.toList = a.cps.toList ++ b.cps.toList := tl_append a b
  rw [e] at hc
  exact (List.mem_append.mp hc).elim (h c) (k c)
theorem good_cut {a : Str} (h : Good a) (lo hi : Option Int) : Good (cutS a lo hi) := fun c hc => by
  unfold cutS at hc
  exact h c (List.mem_of_mem_drop (List.mem_of_mem_take (by simpa using hc)))
theorem good_joinL {S : List Nat} (hS : ∀ c ∈ S, c < 1114112) : ∀ ps : List (List Nat), (∀ p ∈ ps, ∀ c ∈ p, c < 1114112) → ∀ c ∈ joinL S ps, c < 1114112
  | [], _, c, h => by simp [joinL] at h
  | [p], hp, c, h => hp p List.mem_cons_self c (by simpa [joinL] using h)
  | p :: q :: r, hp, c, h => by
    have e : joinL S (p :: q :: r) = p ++ (S ++ joinL S (q :: r)) := rfl
    rw [e, List.mem_append, List.mem_append] at h
    rcases h with h | h | h
    · exact hp p List.mem_cons_self c h
    · exact hS c h
    · exact good_joinL hS (q :: r) (fun z hz => hp z (List.mem_cons_of_mem _ hz)) c h
theorem good_join {y : Str} {ps : List Str} (hy : Good y) (h : ∀ z ∈ ps, Good z) : Good (Txt.join y ps) := fun c hc => by
  have e : (Txt.join y ps).cps.toList = joinL (tl y) (ps.map tl) := by rw [join_eq]; exact tl_join y ps
  rw [e] at hc
  refine good_joinL hy _ (fun p hp => ?_) c hc
  obtain ⟨z, hz, rfl⟩ := List.mem_map.mp hp
  exact h z hz
theorem good_of (x : String) : Good (Str.ofString x) := fun c hc => by
  have e : (Str.ofString x).cps.toList = x.toList.map Char.toNat := by
    rw [Str.ofString_eq_toList]
  rw [e] at hc
  obtain ⟨d, _, rfl⟩ := List.mem_map.mp hc
  have := d.valid
  unfold UInt32.isValidChar Nat.isValidChar at this
  show d.val.toNat < 1114112
  omega
theorem good_one {z : Str} {c : Nat} (h : Good z) (hc : c ∈ z.cps.toList) : Good ⟨#[c]⟩ := fun d hd => by
  have e : d = c := by simpa using hd
  rw [e]
  exact h c hc
/-- all but the box stays -/
def KB (b : Addr) (H H' : Hp) : Prop := ∀ c o, c ≠ b → H c = some o → H' c = some o
theorem KB.refl (b : Addr) (H : Hp) : KB b H H := fun _ _ _ h => h
theorem KB.trans {b : Addr} {H H1 H2 : Hp} (a : KB b H H1) (c : KB b H1 H2) : KB b H H2 := fun x o n h => c x o n (a x o n h)
theorem KB.off {b : Addr} {H H' : Hp} (h : ∀ a, a ≠ b → H' a = H a) : KB b H H' := fun c o n e => (h c n).trans e
theorem KB.alloc {b p : Addr} {H : Hp} {o : HO} (n : H p = none) : KB b H (upd H p o) := fun c u _ h => by rw [upd_ne (ne_of_none h n)]; exact h
theorem Bx.alloc {b p : Addr} {n : Int} {H : Hp} {o : HO} (h : Bx b n H) (f : H p = none) : Bx b n (upd H p o) := by
  obtain ⟨x, y, z, h1, r⟩ := h
  exact ⟨x, y, z, by rw [upd_ne (ne_of_none h1 f)]; exact h1, r⟩
theorem Bx.put {b p : Addr} {n : Int} {H : Hp} {o : HO} (h : Bx b n H) (f : p ≠ b) : Bx b n (upd H p o) := by
  obtain ⟨x, y, z, h1, r⟩ := h
  exact ⟨x, y, z, by rw [upd_ne f.symm]; exact h1, r⟩
/-- a comprehension over a text's signs -/
theorem lc_text {z : Str} {g : TG} {tt : TT} {te : TE} {vs : List Nat} {σ : L2.St} {H1 : Hp} {D : Addr} {Qd : Hp → Prop} (Pv : Nat → Hp → Prop) (h0 : Pv 0 (upd H1 D (.lst [])))
    (hs : ∀ i c H, z.cps.toList[i]? = some c → Pv i H → g (.str ⟨#[c]⟩) (wipe σ vs) H fun σ2 H2 => wipe σ2 vs = wipe σ vs ∧ tt σ2 H2 fun b H3 =>
      if b = true then te σ2 H3 fun y H4 => ∃ acc, H4 D = some (.lst acc) ∧ acc.length < sizeLine ∧ Pv (i + 1) (upd H4 D (.lst (acc ++ [y]))) else Pv (i + 1) H3) (hd : ∀ H, Pv z.length H → Qd H) :
    ∃ W : Nat → Nat → Hp → Prop, (∃ m, W 0 m (upd H1 D (.lst []))) ∧ ∀ i m H, W i m H →
      ((Its z).stop i H ∧ Qd H) ∨ ((Its z).go i H ∧ ∃ Nx : Hp → Prop, (∀ H', Nx H' → ∃ m', m' < m ∧ W (i + 1) m' H') ∧ ∀ x H', (Its z).yld i H x H' → g x (wipe σ vs) H' fun σ2 H2 => wipe σ2 vs = wipe σ vs ∧ tt σ2 H2 fun b H3 =>
        if b = true then te σ2 H3 fun y H4 => ∃ acc, H4 D = some (.lst acc) ∧ acc.length < sizeLine ∧ Nx (upd H4 D (.lst (acc ++ [y]))) else Nx H3) := by
  refine ⟨fun i m H => i + m = z.cps.size ∧ Pv i H, ⟨z.cps.size, by simp, h0⟩, fun i m H hW => ?_⟩
  obtain ⟨e, p⟩ := hW
  cases m with
  | zero =>
    have ei : i = z.cps.size := e
    subst ei
    exact .inl ⟨Nat.le_refl _, hd H p⟩
  | succ m =>
    refine .inr ⟨show i < z.cps.size by omega, Pv (i + 1), fun H' q => ⟨m, Nat.lt_succ_self m, by omega, q⟩, ?_⟩
    rintro x H' ⟨rfl, c, hc, rfl⟩
    exact hs i c _ (by rw [← hc]; simp) p
def badOf (l : List Nat) : List V := (l.filter fun c => !lc c).map fun c => V.str ⟨#[c]⟩
theorem bad_data {K : PySem.W.Frag} {H : Hp} : ∀ l : List Nat, DpAll K H (l.map fun c => V.str ⟨#[c]⟩) (l.map fun c => PyData.str ⟨#[c]⟩)
  | [] => .nil
  | c :: r => .cons (.str _) (bad_data r)
theorem one_ok {c : Nat} (h : c < 1114112) : PyData.strOk ⟨#[c]⟩ = true := by
  simp [PyData.strOk, h]
theorem bad_shaped : ∀ l : List Nat, (∀ c ∈ l, c < 1114112) → PyData.canLayAll0 (l.map fun c => PyData.str ⟨#[c]⟩) = true
  | [], _ => by simp [PyData.canLayAll0]
  | c :: r, h => by
    simp only [List.map_cons, PyData.canLayAll0, PyData.canLay0, Bool.and_eq_true]
    exact ⟨one_ok (h c List.mem_cons_self), bad_shaped r fun d hd => h d (List.mem_cons_of_mem _ hd)⟩
theorem bad_depth : ∀ l : List Nat, PyData.depthAll (l.map fun c => PyData.str ⟨#[c]⟩) = 0
  | [] => by simp [PyData.depthAll]
  | c :: r => by
    simp only [List.map_cons, PyData.depthAll, PyData.depth, bad_depth r]
    rfl
theorem letters_mem (c : Nat) : decide (c ∈ (Str.ofString "abcdefghijklmnopqrstuvwxyz").cps.toList) = lc c := by
  have e : (Str.ofString "abcdefghijklmnopqrstuvwxyz").cps.toList = (List.range 26).map (· + 97) := by decide +kernel
  rw [e]
  unfold lc
  rw [Bool.eq_iff_iff]
  simp only [decide_eq_true_eq, List.mem_map, List.mem_range, Bool.and_eq_true]
  constructor
  · rintro ⟨a, h, rfl⟩
    omega
  · intro h
    exact ⟨c - 97, by omega, by omega⟩
/-- a fresh place is no box -/
theorem Bx.fresh {b p : Addr} {n : Int} {H : Hp} (h : Bx b n H) (f : H p = none) : p ≠ b := by
  rintro rfl
  obtain ⟨x, y, z, e, _⟩ := h
  rw [f] at e
  cases e
theorem dec9000 {m : Int} (h0 : 0 < m) (h : m ≤ 10 ^ 30) : m.natAbs.log2 < 9000 := by
  have h1 : m.natAbs ≤ 10 ^ 30 := by omega
  have h2 : m.natAbs < 2 ^ 100 := Nat.lt_of_le_of_lt h1 (by decide)
  have h3 := (Nat.log2_lt (by omega)).mpr h2
  omega
theorem log1900 {m : Int} (h : m.natAbs ≤ 10 ^ 31) : m.natAbs.log2 < 1900 := by
  by_cases h0 : m.natAbs = 0
  · rw [h0]
    decide
  · have h2 : m.natAbs < 2 ^ 110 := Nat.lt_of_le_of_lt h (by decide)
    have h3 := (Nat.log2_lt h0).mpr h2
    omega
/-- a place in a list of the script stays -/
theorem seq_kt {K : PySem.W.Frag} {P a : Addr} {H H' : Hp} {xs : List V} (t : TabG H P) (k : KT P H H') (h : SqL K H a xs) : SqL K H' a xs := by
  rcases h with (h | ⟨o, h⟩) | h
  · exact .inl (.inl (k.keep _ _ (ne_tab t h (by simp)) h))
  · exact .inl (.inr ⟨o, k.keep _ _ (ne_tab t h (by simp)) h⟩)
  · exact .inr h
/-- what a row of steps with the box does to all else -/
theorem KT.box {P b : Addr} {H H' H1 : Hp} (t : TabG H P) (f : H b = none) (e : ∀ a, a ≠ b → H1 a = H a) (k : KB b H1 H') : KT P H H' := by
  obtain ⟨ps, ht, tr⟩ := t
  have nb : P ≠ b := ne_of_none ht f
  exact ⟨fun c o _ h => k c o (ne_of_none h f) ((e c (ne_of_none h f)).trans h), ps, k P _ nb ((e P nb).trans ht), tr⟩
theorem two_bools (a b : Bool) : (PyData.list [.bool a, .bool b]).shown.length ≤ sizeLine := by
  cases a <;> cases b <;> decide +kernel
end My

set_option maxRecDepth 100000
set_option maxHeartbeats 4000000
namespace K8
open PySem PySem.Spec PyProof.Rows L2 GxR Gd TL My
/-! ### the text -/
def top (i : Nat) : Stmt := PySem.Challenge.pw_onestaff_k08_whole_line_texts.main.body.getD i (.Pass ⟨0, 0, 0, 0⟩)
abbrev sWhole : Stmt := top 13
abbrev sName : Stmt := top 14
abbrev sList : Stmt := top 15
abbrev sTuple : Stmt := top 16
abbrev sCell : Stmt := top 42
abbrev sBox : Stmt := top 43
abbrev sTake : Stmt := top 44
structure Txt (mg : Str → Option Value) : Prop where
  isinstance_ : mg "isinstance" = none
  int_ : mg "int" = none
  bool_ : mg "bool" = none
  str_ : mg "str" = none
  len_ : mg "len" = none
  all_ : mg "all" = none
  max_ : mg "max" = none
  min_ : mg "min" = none
  range_ : mg "range" = none
  repr_ : mg "repr" = none
  list_ : mg "list" = none
  tuple_ : mg "tuple" = none
  enumerate_ : mg "enumerate" = none
  sorted_ : mg "sorted" = none
structure Fn (K : PySem.W.Frag) (mg : Str → Option Value) (x : Str) (st : Stmt) (ps : List Str) (f : Addr) (fd : FuncData) : Prop where
  fn : Fun K x x st f fd
  g : mg x = some (.ref f)
  b : Binds K fd ps []
theorem Fn.kp {K : PySem.W.Frag} {mg : Str → Option Value} {x : Str} {st : Stmt} {ps : List Str} {f : Addr} {fd : FuncData} (h : Fn K mg x st ps f fd) : PySem.W.keepIn K (.ref f) = true := h.fn.kp
structure FnA (K : PySem.W.Frag) (mg : Str → Option Value) (al x : Str) (st : Stmt) (ps : List Str) (f : Addr) (fd : FuncData) : Prop where
  fn : Fun K x x st f fd
  g : mg al = some (.ref f)
  b : Binds K fd ps []
theorem FnA.kp {K : PySem.W.Frag} {mg : Str → Option Value} {al x : Str} {st : Stmt} {ps : List Str} {f : Addr} {fd : FuncData} (h : FnA K mg al x st ps f fd) : PySem.W.keepIn K (.ref f) = true := h.fn.kp
section
variable {P : Program} {w : World} {K : PySem.W.Frag} {mg : Str → Option Value} {base : Heap}
def spWhole : Sp := fun vs H Q _ => ∃ (v : V) (lo hi : Int), vs = [v, .int lo, .int hi] ∧ Th H v ∧ Q (.bl (wh lo hi v)) H
theorem scWhole : FnScope ["thing", "low", "high"] ["thing", "low", "high"] (defScope sWhole) := ⟨rfl, rfl, rfl, by decide +kernel, rfl, by decide +kernel, by decide +kernel⟩
theorem ok_whole {f : Addr} {fd : FuncData} (F : Fun K "is_whole" "is_whole" sWhole f fd) (T : Txt mg) : FnOk P w K mg base CX0 1 f fd ["thing", "low", "high"] spWhole := by
  refine F.ok scWhole (fun vs H Q E h => ?_) (fun cdv A outer s H vs Q E hr h => ?_)
  · obtain ⟨v, lo, hi, rfl, _⟩ := h
    rfl
  · obtain ⟨v, lo, hi, rfl, th, k⟩ := h
    obtain ⟨t, ty, cs⟩ := th.ty (K := K)
    refine ⟨_, pss_cons (ps_if (PW.pt (pw_or (pt_not (pt_val (pe_callB call_isi (by rfl) T.isinstance_ (by decide +kernel) (pa_cons (pv 0) (pa_cons (pe_bltn (v := .ty "int") (by rfl) T.int_ (by decide +kernel) rfl) pa_nil)))))
        (pw_or1 (pt_val (pe_callB call_isi (by rfl) T.isinstance_ (by decide +kernel) (pa_cons (pv 0) (pa_cons (pe_bltn (v := .ty "bool") (by rfl) T.bool_ (by decide +kernel) rfl) pa_nil)))))))
        (pss_one (ps_ret pe_bl)) pss_nil)
      (pss_one (ps_ret (pe_chain op_le op_le (pv 1) (pv 0) (pv 2)))), ?_⟩
    rcases cs with ⟨i, rfl, rfl⟩ | ⟨b, rfl, rfl⟩ | ⟨z, rfl, _, rfl⟩ | ⟨n1, n2, n3, ht⟩
    · refine ⟨_, rfl, _, _, _, _, true, rfl, .ty "int", ty, (by rfl), _, rfl, iteF ?_⟩
      refine ⟨_, rfl, _, _, _, _, false, rfl, .ty "bool", ty, (by rfl), _, rfl, iteF ?_⟩
      refine ⟨_, rfl, _, rfl, _, _, rfl, rfl, _, rfl, ?_⟩
      refine ite2 (fun c => ?_) (fun c => ?_)
      · refine ⟨_, rfl, _, _, rfl, rfl, ?_⟩
        have e : (decide (i ≤ hi)) = wh lo hi (.int i) := by simp [wh, of_decide_eq_true c]
        show Q (.bl (decide (i ≤ hi))) H
        rw [e]; exact k
      · have e : false = wh lo hi (.int i) := by simp at c; simp [wh]; omega
        rw [e]; exact k
    · refine ⟨_, rfl, _, _, _, _, true, rfl, .ty "int", ty, (by rfl), _, rfl, iteF ?_⟩
      refine ⟨_, rfl, _, _, _, _, true, rfl, .ty "bool", ty, (by rfl), _, rfl, iteT ?_⟩
      exact k
    · refine ⟨_, rfl, _, _, _, _, false, rfl, .ty "int", ty, (by rfl), _, rfl, iteT (iteT ?_)⟩
      exact k
    · have e : wh lo hi v = false := by
        cases v with
        | int i => exact absurd rfl (n1 i)
        | _ => rfl
      rw [e] at k
      rcases ht with rfl | rfl | rfl | rfl
      · exact ⟨_, rfl, _, _, _, _, false, rfl, .ty "int", ty, (by rfl), _, rfl, iteT (iteT k)⟩
      · exact ⟨_, rfl, _, _, _, _, false, rfl, .ty "int", ty, (by rfl), _, rfl, iteT (iteT k)⟩
      · exact ⟨_, rfl, _, _, _, _, false, rfl, .ty "int", ty, (by rfl), _, rfl, iteT (iteT k)⟩
      · exact ⟨_, rfl, _, _, _, _, false, rfl, .ty "int", ty, (by rfl), _, rfl, iteT (iteT k)⟩

/-! ### is_name -/
theorem scName : FnScope ["thing"] ["thing"] (defScope sName) := ⟨rfl, rfl, rfl, by decide +kernel, rfl, by decide +kernel, by decide +kernel⟩
def spName (Pt : Addr) : Sp := fun vs H Q _ => ∃ (v : V), vs = [v] ∧ Th H v ∧ TabG H Pt ∧ ∀ H', KT Pt H H' → Q (.bl (nm v)) H'
theorem ok_name {f Pt c : Addr} {oc kV doc pm ct : Value} {od an : Option Addr} {osl : Array (Option Value)}
    (lk : K.lookup f = some ⟨oc, od, .func (PySem.W.fnOf "is_name" "is_name" (defArgs sName) (defBody sName) (defScope sName) .none kV doc pm an (.ref c) ct), osl⟩) (hcd : PySem.W.codeIn K (.ref c) "is_name" = true)
    (T : Txt mg) (TB : TabB base mg c Pt) : FnOk P w K mg base CX0 2 f (PySem.W.fnOf "is_name" "is_name" (defArgs sName) (defBody sName) (defScope sName) .none kV doc pm an (.ref c) ct) ["thing"] (spName Pt) := by
  refine fn_of lk hcd scName (fun vs H Q E h => ?_) (fun A outer s H vs Q E hr h => ?_)
  · obtain ⟨v, rfl, _⟩ := h
    rfl
  · obtain ⟨v, rfl, th, tb, k⟩ := h
    obtain ⟨t, ty, cs⟩ := th.ty (K := K)
    refine ⟨_, (pss_cons (ps_if (PW.pt (pw_or (pt_not (pt_val (pe_callB call_isi (by rfl) T.isinstance_ (by decide +kernel) (pa_cons (pv 0) (pa_cons (pe_bltn (v := .ty "str") (by rfl) T.str_ (by decide +kernel) rfl) pa_nil)))))
        (pw_or1 (pt_not (pt_chain op_le op_le pe_int (pe_callB call_len_str (by rfl) T.len_ PySem.boot_len (pa_cons (pv 0) pa_nil)) pe_int)))))
        (pss_one (ps_ret pe_bl)) pss_nil)
      (pss_one (ps_ret (pe_allS hr (by rfl) T.all_ (by decide +kernel) TB rfl ⟨rfl, rfl, by decide +kernel, by decide +kernel, by decide +kernel, fun y hy e => absurd e (no_free y hy)⟩ (pv 0) (elt_between (by rfl) (by decide +kernel)) (fun _ => rfl))))).nox, ?_⟩
    have no : ∀ e : nm v = false, Q (.bl false) H := fun e => e ▸ k H (KT.refl tb)
    rcases cs with ⟨i, rfl, rfl⟩ | ⟨b, rfl, rfl⟩ | ⟨z, rfl, ⟨hz, _⟩, rfl⟩ | ⟨n1, n2, n3, ht⟩
    · exact ⟨_, rfl, _, _, _, _, false, rfl, .ty "str", ty, (by rfl), _, rfl, iteT (iteT (no rfl))⟩
    · exact ⟨_, rfl, _, _, _, _, false, rfl, .ty "str", ty, (by rfl), _, rfl, iteT (iteT (no rfl))⟩
    · refine ⟨_, rfl, _, _, _, _, true, rfl, .ty "str", ty, (by rfl), _, rfl, iteF ?_⟩
      have hz2 : z.length ≤ sizeLine := Nat.le_trans hz (by decide)
      refine ⟨_, rfl, z, rfl, hz2, _, _, rfl, rfl, _, rfl, ite2 (fun c1 => ?_) (fun c1 => ?_)⟩
      · have c1' : (1 : Int) ≤ z.length := of_decide_eq_true c1
        refine ⟨_, _, rfl, rfl, _, rfl, ?_⟩
        refine ite2 (fun c2 => ?_) (fun c2 => ?_)
        · refine no ?_
          have c2' : ¬ (z.length : Int) ≤ 6 := by simpa using c2
          have n6 : ¬ z.length ≤ 6 := by omega
          simp [nm, n6]
        · have c2' : (z.length : Int) ≤ 6 := by simpa using c2
          have n6 : z.length ≤ 6 := by omega
          have n1 : 1 ≤ z.length := by omega
          refine ⟨_, rfl, z, rfl, tb, fun H2 ht => ?_⟩
          have e : z.cps.toList.all (fun c => !decide ([c] < (Str.ofString "a").cps.toList) && !decide ((Str.ofString "z").cps.toList < [c])) = nm (.str z) := by
            have ea : (Str.ofString "a").cps.toList = [97] := by decide +kernel
            have ez : (Str.ofString "z").cps.toList = [122] := by decide +kernel
            rw [ea, ez]
            simp only [lc_eq]
            simp [nm, n6, n1]
          show Q (.bl (z.cps.toList.all _)) H2
          rw [e]
          exact k H2 (KT.of ht)
      · refine ⟨_, rfl, iteT (no ?_)⟩
        have c1' : ¬ (1 : Int) ≤ z.length := by simpa using c1
        have n1 : ¬ 1 ≤ z.length := by omega
        simp [nm, n1]
    · have e : nm v = false := by
        cases v with
        | str z => exact absurd rfl (n3 z)
        | _ => rfl
      rcases ht with rfl | rfl | rfl | rfl
      · exact ⟨_, rfl, _, _, _, _, false, rfl, .ty "str", ty, (by rfl), _, rfl, iteT (iteT (no e))⟩
      · exact ⟨_, rfl, _, _, _, _, false, rfl, .ty "str", ty, (by rfl), _, rfl, iteT (iteT (no e))⟩
      · exact ⟨_, rfl, _, _, _, _, false, rfl, .ty "str", ty, (by rfl), _, rfl, iteT (iteT (no e))⟩
      · exact ⟨_, rfl, _, _, _, _, false, rfl, .ty "str", ty, (by rfl), _, rfl, iteT (iteT (no e))⟩
def spCell (K : PySem.W.Frag) : Sp := fun vs H Q _ => ∃ (l : Addr) (ns : List Int) (j : Nat), vs = [.ref l, .int (j : Int)] ∧ SqL K H l (ns.map V.int) ∧ ∀ i : Int, Q (.int i) H
theorem scCell : FnScope ["_law_script", "_law_k"] ["_law_script", "_law_k"] (defScope sCell) := ⟨rfl, rfl, rfl, by decide +kernel, rfl, by decide +kernel, by decide +kernel⟩
theorem ok_cell {f : Addr} {fd : FuncData} (F : Fun K "_law_cell" "_law_cell" sCell f fd) (T : Txt mg) : FnOk P w K mg base CX0 1 f fd ["_law_script", "_law_k"] (spCell K) := by
  refine F.ok scCell (fun vs H Q E h => ?_) (fun cdv A outer s H vs Q E hr h => ?_)
  · obtain ⟨l, ns, j, rfl, _⟩ := h
    rfl
  · obtain ⟨l, ns, j, rfl, hS, k⟩ := h
    refine ⟨_, pss_cons (ps_if (pt_cmpR op_lt (pv 1) (pe_callB call_len_seq (by rfl) T.len_ PySem.boot_len (pa_cons (pv 0) pa_nil)) (nomark _)) (pss_one (ps_ret (pe_ix ix_list (pv 0) (pv 1) (fun _ _ => rfl)))) pss_nil)
      (pss_one (ps_ret (pe_op op_add (pe_op op_mul pe_int (pv 1)) pe_int))), ?_⟩
    refine ⟨_, rfl, _, rfl, l, _, rfl, .inl hS, _, _, rfl, rfl, _, rfl, ite2 (fun c => ?_) (fun c => ?_)⟩
    · have c1 : (j : Int) < ((ns.map V.int).length : Nat) := of_decide_eq_true c
      have c2 : j < ns.length := by rw [List.length_map] at c1; omega
      refine ⟨_, rfl, _, rfl, l, _, _, _, rfl, rfl, hS, atI_nat (v := .int ns[j]) ?_, k _⟩
      rw [List.getElem?_map, List.getElem?_eq_getElem c2]
      rfl
    · exact ⟨_, rfl, _, _, rfl, rfl, .inl ⟨by decide, by decide⟩, _, _, rfl, rfl, k _⟩
def spBox : Sp := fun vs H Q _ => ∃ c : Int, vs = [.int c] ∧ ∀ b H', H b = none → (∀ a, a ≠ b → H' a = H a) → Bx b 0 H' → Q (.ref b) H'
theorem scBox : FnScope ["_law_cell_here"] ["_law_cell_here"] (defScope sBox) := ⟨rfl, rfl, rfl, by decide +kernel, rfl, by decide +kernel, by decide +kernel⟩
theorem ok_box {f : Addr} {fd : FuncData} (F : Fun K "_law_box" "_law_box" sBox f fd) (T : Txt mg) : FnOk P w K mg base CX0 1 f fd ["_law_cell_here"] spBox := by
  refine F.ok scBox (fun vs H Q E h => ?_) (fun cdv A outer s H vs Q E hr h => ?_)
  · obtain ⟨c, rfl, _⟩ := h
    rfl
  · obtain ⟨c, rfl, k⟩ := h
    refine ⟨_, pss_one (ps_ret (pe_lst (pa_cons (pe_callB (call_max2 rfl) (by rfl) T.max_ (by decide +kernel) (pa_cons pe_int (pa_cons (pe_op op_sub (pv 0) (pe_op op_pow pe_int pe_int)) pa_nil))) (pa_cons (pe_op op_mod (pv 0) pe_int) (pa_cons pe_int pa_nil))))), ?_⟩
    refine ⟨_, rfl, _, _, rfl, rfl, ⟨by decide, by decide, by decide⟩, _, _, rfl, rfl, _, _, rfl, ?_⟩
    refine ⟨_, rfl, _, _, rfl, rfl, (by show (0 : Int) < 2147483629; decide), ?_⟩
    refine ⟨(by show 3 ≤ sizeLine; decide), fun b hb => ?_⟩
    refine k b _ hb (fun a na => upd_ne na) ⟨_, _, 0, upd_same, ?_, ?_, ?_, Int.le_refl _, Int.le_refl _⟩
    · split <;> omega
    · exact Int.emod_nonneg _ (by decide)
    · exact Int.emod_lt_of_pos _ (by decide)
def spTake : Sp := fun vs H Q _ => ∃ (b : Addr) (many n : Int), vs = [.ref b, .int many] ∧ Bx b n H ∧ n ≤ 100000 ∧ 0 < many ∧ many.natAbs.log2 < 9000 ∧
  ∀ d H', 0 ≤ d → d < many → (∀ a, a ≠ b → H' a = H a) → Bx b (n + 1) H' → Q (.int d) H'
theorem scTake : FnScope ["_law_box_here", "_law_many", "_law_digit", "_law_number"] ["_law_box_here", "_law_many"] (defScope sTake) := ⟨rfl, rfl, rfl, by decide +kernel, rfl, by decide +kernel, by decide +kernel⟩
theorem ok_take {f : Addr} {fd : FuncData} (F : Fun K "_law_take" "_law_take" sTake f fd) : FnOk P w K mg base CX0 1 f fd ["_law_box_here", "_law_many"] spTake := by
  refine F.ok scTake (fun vs H Q E h => ?_) (fun cdv A outer s H vs Q E hr h => ?_)
  · obtain ⟨b, many, n, rfl, _⟩ := h
    rfl
  · obtain ⟨b, many, n, rfl, ⟨x, y, z, hb, x0, y0, y1, z0, zn⟩, hn, m0, ml, k⟩ := h
    refine ⟨_, pss_cons (ps_if (pt_cmpR op_gt (pe_ix ix_list (pv 0) pe_int (fun _ _ => rfl)) pe_int (nomark _))
        (pss_cons (ps_set (i := 2) scTake.nd rfl (Or.inl rfl) (pe_op op_mod (pe_ix ix_list (pv 0) pe_int (fun _ _ => rfl)) (pv 1)))
        (pss_cons (ps_asg (pe_op op_fdivW (pe_ix ix_list (pv 0) pe_int (fun _ _ => rfl)) (pv 1)) (pg_sub (pv 0) pe_int set_list))
        (pss_one (ps_ret (pv 2))))) pss_nil)
      (pss_cons (ps_asg (pe_op op_add (pe_ix ix_list (pv 0) pe_int (fun _ _ => rfl)) pe_int) (pg_sub (pv 0) pe_int set_list))
      (pss_cons (ps_set (i := 3) scTake.nd rfl (Or.inl rfl) (pe_op op_mod (pe_op op_pow (pe_op op_add (pe_op op_add (pe_ix ix_list (pv 0) pe_int (fun _ _ => rfl)) (pe_op op_mul pe_int (pe_ix ix_list (pv 0) pe_int (fun _ _ => rfl)))) pe_int) pe_int) pe_int))
      (pss_cons (ps_set (i := 3) scTake.nd rfl (Or.inl rfl) (pe_op op_mod (pe_op op_pow (pe_op op_add (pv 3) (pe_op op_mul pe_int (pe_ix ix_list (pv 0) pe_int (fun _ _ => rfl)))) pe_int) pe_int))
      (pss_one (ps_ret (pe_op op_mod (pe_op op_fdiv (pv 3) pe_int) (pv 1))))))), ?_⟩
    have hL : SqL K H b [.int x, .int y, .int z] := SqL.of hb
    refine ⟨_, rfl, b, _, _, _, rfl, rfl, hL, i0 _ _ _, _, _, rfl, rfl, _, rfl, ite2 (fun c => ?_) (fun c => ?_)⟩
    · refine ⟨_, rfl, b, _, _, _, rfl, rfl, hL, i0 _ _ _, _, rfl, _, _, rfl, rfl, m0, ?_⟩
      refine ⟨_, rfl, b, _, _, _, rfl, rfl, hL, i0 _ _ _, _, rfl, _, _, rfl, rfl, ⟨m0, ml⟩, ?_⟩
      refine ⟨_, rfl, b, _, _, _, rfl, rfl, hb, j0, ?_⟩
      refine ⟨_, rfl, ?_⟩
      exact k _ _ (Int.emod_nonneg _ (by omega)) (Int.emod_lt_of_pos _ m0) (fun a na => upd_ne na) ⟨_, _, _, upd_same, Int.ediv_nonneg x0 (by omega), y0, y1, z0, by omega⟩
    · refine ⟨_, rfl, b, _, _, _, rfl, rfl, hL, i2 _ _ _, _, _, rfl, rfl, ?_⟩
      refine ⟨_, rfl, b, _, _, _, rfl, rfl, hb, j2, ?_⟩
      have h1 : upd H b (.lst ([V.int x, .int y, .int z].set 2 (.int (z + 1)))) b = some (.lst [.int x, .int y, .int (z + 1)]) := upd_same
      have hL1 : SqL K (upd H b (.lst ([V.int x, .int y, .int z].set 2 (.int (z + 1))))) b [.int x, .int y, .int (z + 1)] := SqL.of h1
      refine ⟨_, rfl, b, _, _, _, rfl, rfl, hL1, i1 _ _ _, _, rfl, b, _, _, _, rfl, rfl, hL1, i2 _ _ _, _, _, rfl, rfl, .inl ⟨by decide, by decide⟩, _, _, rfl, rfl, _, _, rfl, rfl,
        _, _, rfl, rfl, ⟨by decide, by decide, ?_⟩, _, _, rfl, rfl, (by show (0 : Int) < 2147483647; decide), ?_⟩
      · omega
      refine ⟨_, rfl, _, rfl, b, _, _, _, rfl, rfl, hL1, i2 _ _ _, _, _, rfl, rfl, .inl ⟨by decide, by decide⟩, _, _, rfl, rfl,
        _, _, rfl, rfl, ⟨by decide, by decide, ?_⟩, _, _, rfl, rfl, (by show (0 : Int) < 2147483587; decide), ?_⟩
      · have g0 := Int.emod_nonneg ((y + 7919 * (z + 1) + 29) ^ (5 : Int).toNat) (show (2147483647 : Int) ≠ 0 by decide)
        have g1 := Int.emod_lt_of_pos ((y + 7919 * (z + 1) + 29) ^ (5 : Int).toNat) (show (0 : Int) < 2147483647 by decide)
        generalize (y + 7919 * (z + 1) + 29) ^ (5 : Int).toNat % 2147483647 = q at g0 g1 ⊢
        omega
      refine ⟨_, rfl, _, _, rfl, rfl, ⟨by decide, by decide⟩, _, rfl, _, _, rfl, rfl, m0, ?_⟩
      exact k _ _ (Int.emod_nonneg _ (by omega)) (Int.emod_lt_of_pos _ m0) (fun a na => upd_ne na) ⟨_, _, _, h1, x0, y0, y1, by omega, by omega⟩
end
end K8


set_option maxRecDepth 100000
set_option maxHeartbeats 4000000
/-! Data in the heap, kept by steps that change a box, a table. -/
namespace My
open PySem PySem.Spec PyProof.Rows L2 GxR Gd TL
/-- all but tables stays -/
def Nt (H H' : Hp) : Prop := ∀ c o, (∀ ps, o ≠ .tbl ps) → H c = some o → H' c = some o
theorem Nt.refl (H : Hp) : Nt H H := fun _ _ _ h => h
theorem Nt.trans {H H1 H2 : Hp} (a : Nt H H1) (b : Nt H1 H2) : Nt H H2 := fun c o n h => b c o n (a c o n h)
theorem KT.nt {P : Addr} {H H' : Hp} (t : TabG H P) (k : KT P H H') : Nt H H' := fun c o n h => k.keep c o (ne_tab t h n) h
theorem Nt.alloc {H : Hp} {p : Addr} {o : HO} (n : H p = none) : Nt H (upd H p o) := fun c u _ h => by rw [upd_ne (ne_of_none h n)]; exact h
/-- the heap but the box -/
def hide (b : Addr) (H : Hp) : Hp := fun c => if c = b then none else H c
theorem hide_ne {b c : Addr} {H : Hp} (h : c ≠ b) : hide b H c = H c := if_neg h
theorem hide_some {b c : Addr} {H : Hp} {o : HO} (h : hide b H c = some o) : c ≠ b ∧ H c = some o := by
  unfold hide at h
  by_cases q : c = b
  · rw [if_pos q] at h
    cases h
  · rw [if_neg q] at h
    exact ⟨q, h⟩
theorem KB.nt {b : Addr} {H H' : Hp} (k : KB b H H') : Nt (hide b H) (hide b H') := fun c o _ h => by
  obtain ⟨n, h⟩ := hide_some h
  rw [hide_ne n]
  exact k c o n h
theorem hide_nt (b : Addr) (H : Hp) : Nt (hide b H) H := fun c o _ h => (hide_some h).2
theorem Nt.seq {K : PySem.W.Frag} {H H' : Hp} {a : Addr} {xs : List V} (e : Nt H H') (h : SqL K H a xs) : SqL K H' a xs := by
  rcases h with (h | ⟨o, h⟩) | h
  · exact .inl (.inl (e _ _ (by simp) h))
  · exact .inl (.inr ⟨o, e _ _ (by simp) h⟩)
  · exact .inr h
theorem Nt.seqT {K : PySem.W.Frag} {H H' : Hp} {a : Addr} {xs : List V} (e : Nt H H') (h : SqT K H a xs) : SqT K H' a xs := by
  rcases h with (h | ⟨o, h⟩) | h
  · exact .inl (.inl (e _ _ (by simp) h))
  · exact .inl (.inr ⟨o, e _ _ (by simp) h⟩)
  · exact .inr h
section
variable {K : PySem.W.Frag} {H H' : Hp}
mutual
theorem dp_nt (e : Nt H H') : ∀ {v : V} {d : PyData}, Dp K H v d → Dp K H' v d
  | _, _, .non => .non
  | _, _, .bl b => .bl b
  | _, _, .int i => .int i
  | _, _, .str z => .str z
  | _, _, .lst h a => .lst (e.seq h) (dpAll_nt e a)
  | _, _, .tup h a => .tup (e.seqT h) (dpAll_nt e a)
theorem dpAll_nt (e : Nt H H') : ∀ {vs : List V} {ds : List PyData}, DpAll K H vs ds → DpAll K H' vs ds
  | _, _, .nil => .nil
  | _, _, .cons h t => .cons (dp_nt e h) (dpAll_nt e t)
end
theorem dp_list {v : V} {ds : List PyData} (h : Dp K H v (.list ds)) : ∃ a xs, v = .ref a ∧ SqL K H a xs ∧ DpAll K H xs ds := by
  cases h with
  | lst h a => exact ⟨_, _, rfl, h, a⟩
theorem dp_tuple {v : V} {ds : List PyData} (h : Dp K H v (.tuple ds)) : ∃ a xs, v = .ref a ∧ SqT K H a xs ∧ DpAll K H xs ds := by
  cases h with
  | tup h a => exact ⟨_, _, rfl, h, a⟩
theorem dp_str {v : V} {z : Str} (h : Dp K H v (.str z)) : v = .str z := by
  cases h
  rfl
theorem dp_int {v : V} {i : Int} (h : Dp K H v (.int i)) : v = .int i := by
  cases h
  rfl
theorem dp_none {v : V} (h : Dp K H v .none) : v = .non := by
  cases h
  rfl
theorem dpAll_len : ∀ {xs : List V} {ds : List PyData}, DpAll K H xs ds → xs.length = ds.length
  | _, _, .nil => rfl
  | _, _, .cons _ t => congrArg (· + 1) (dpAll_len t)
theorem dpAll_get : ∀ {xs : List V} {ds : List PyData}, DpAll K H xs ds → ∀ {i : Nat} {x : V}, xs[i]? = some x → ∃ d, ds[i]? = some d ∧ Dp K H x d
  | _, _, .nil, _, _, h => by simp at h
  | _, _, .cons a _, 0, _, h => by simp at h; subst h; exact ⟨_, rfl, a⟩
  | _, _, .cons _ t, i + 1, x, h => by
    obtain ⟨d, h1, h2⟩ := dpAll_get t (i := i) (x := x) (by simpa using h)
    exact ⟨d, by simpa using h1, h2⟩
theorem dpAll_at : ∀ {xs : List V} {ds : List PyData}, DpAll K H xs ds → ∀ {i : Nat} {d : PyData}, ds[i]? = some d → ∃ x, xs[i]? = some x ∧ Dp K H x d
  | _, _, .nil, _, _, h => by simp at h
  | _, _, .cons a _, 0, _, h => by simp at h; subst h; exact ⟨_, rfl, a⟩
  | _, _, .cons _ t, i + 1, d, h => by
    obtain ⟨x, h1, h2⟩ := dpAll_at t (i := i) (d := d) (by simpa using h)
    exact ⟨x, by simpa using h1, h2⟩
theorem dpAll_app : ∀ {xs ys : List V} {ds es : List PyData}, DpAll K H xs ds → DpAll K H ys es → DpAll K H (xs ++ ys) (ds ++ es)
  | _, _, _, _, .nil, h => h
  | _, _, _, _, .cons a t, h => .cons a (dpAll_app t h)
theorem dp_two {v : V} {c d : PyData} (h : Dp K H v (.tuple [c, d])) : ∃ a x y, v = .ref a ∧ SqT K H a [x, y] ∧ Dp K H x c ∧ Dp K H y d := by
  obtain ⟨a, xs, rfl, h1, h2⟩ := dp_tuple h
  cases h2 with
  | cons p t =>
    cases t with
    | cons q t =>
      cases t
      exact ⟨a, _, _, rfl, h1, p, q⟩
theorem dp_three {v : V} {c d e : PyData} (h : Dp K H v (.tuple [c, d, e])) : ∃ a x y z, v = .ref a ∧ SqT K H a [x, y, z] ∧ Dp K H x c ∧ Dp K H y d ∧ Dp K H z e := by
  obtain ⟨a, xs, rfl, h1, h2⟩ := dp_tuple h
  cases h2 with
  | cons p t =>
    cases t with
    | cons q t =>
      cases t with
      | cons r t =>
        cases t
        exact ⟨a, _, _, _, rfl, h1, p, q, r⟩
theorem dp_four {v : V} {c d e f : PyData} (h : Dp K H v (.list [c, d, e, f])) : ∃ a x y z u, v = .ref a ∧ SqL K H a [x, y, z, u] ∧ Dp K H x c ∧ Dp K H y d ∧ Dp K H z e ∧ Dp K H u f := by
  obtain ⟨a, xs, rfl, h1, h2⟩ := dp_list h
  cases h2 with
  | cons p t =>
    cases t with
    | cons q t =>
      cases t with
      | cons r t =>
        cases t with
        | cons s t =>
          cases t
          exact ⟨a, _, _, _, _, rfl, h1, p, q, r, s⟩
end
/-! ### names that are good, worlds of lines -/
def NameOk (z : Str) : Prop := 1 ≤ z.length ∧ z.length ≤ 6 ∧ z.cps.toList.all lc = true
theorem NameOk.good {z : Str} (h : NameOk z) : Good z := fun c hc => by
  have := List.all_eq_true.mp h.2.2 c hc
  unfold lc at this
  simp at this
  omega
theorem NameOk.nm {z : Str} (h : NameOk z) : nm (.str z) = true := by
  obtain ⟨h1, h2, h3⟩ := h
  simp [My.nm, h1, h2, h3]
theorem NameOk.th {z : Str} {H : Hp} (h : NameOk z) : Th H (.str z) := .str z (by have := h.2.1; omega) h.good
structure Wd where
  ps : List (Str × Int)
  st : List (Str × Int)
  lo : List (Int × Int × Int)
  sp : Str
def longsOk (top : Int) : Int → List (Int × Int × Int) → Prop
  | _, [] => True
  | low, (f, l, h) :: r => low ≤ f ∧ f + 2 ≤ l ∧ l ≤ top ∧ 0 ≤ h ∧ h ≤ 1 ∧ longsOk top l r
structure Wd.Ok (w : Wd) : Prop where
  p2 : 2 ≤ w.ps.length
  p6 : w.ps.length ≤ 6
  nm : ∀ p ∈ w.ps, NameOk p.1 ∧ 1 ≤ p.2 ∧ p.2 ≤ 3
  nd : (w.ps.map (·.1)).Nodup
  sl : w.st.length + 1 = w.ps.length
  st : ∀ p ∈ w.st, (p.1 = "staff" ∨ p.1 = "ticket") ∧ 0 ≤ p.2 ∧ p.2 ≤ 1
  ll : w.lo.length ≤ 2
  lo : longsOk (w.ps.length - 1 : Nat) 0 w.lo
  sn : NameOk w.sp
  s0 : w.sp ∉ w.ps.map (·.1)
def dP (p : Str × Int) : PyData := .tuple [.str p.1, .int p.2]
def dL (p : Int × Int × Int) : PyData := .tuple [.int p.1, .int p.2.1, .int p.2.2]
def Wd.data (w : Wd) : PyData := .list [.list (w.ps.map dP), .list (w.st.map dP), .list (w.lo.map dL), .str w.sp]
end My

set_option maxRecDepth 100000
set_option maxHeartbeats 4000000
namespace K8
open PySem PySem.Spec PyProof.Rows L2 GxR Gd TL My
/-- a list or a tuple -/
def SqX (K : PySem.W.Frag) (H : Hp) (a : Addr) (xs : List V) : Prop := SqL K H a xs ∨ SqT K H a xs
theorem same_nt {H H' : Hp} (e : Same H H') : Nt H H' := fun c o _ h => e c o h
theorem same_alloc {H : Hp} {p : Addr} {o : HO} (n : H p = none) : Same H (upd H p o) := fun c u h => by rw [upd_ne (ne_of_none h n)]; exact h
theorem same_kt {Pt : Addr} {H H' : Hp} (t : TabG H Pt) (e : Same H H') : KT Pt H H' := by
  obtain ⟨ps, h1, h2⟩ := t
  exact ⟨fun c o _ h => e c o h, ps, e _ _ h1, h2⟩
theorem SqX.nt {K : PySem.W.Frag} {H H' : Hp} {a : Addr} {xs : List V} (e : Nt H H') (h : SqX K H a xs) : SqX K H' a xs := h.elim (fun q => .inl (e.seq q)) fun q => .inr (e.seqT q)
theorem ty_seqL {K : PySem.W.Frag} {H : Hp} {a : Addr} {xs : List V} (h : SqL K H a xs) : TyX K H (.ref a) (.type "list") := by
  rcases h with (h | ⟨o, h⟩) | ⟨o, its, n, h1, h2, _⟩
  · exact .base (.lst h)
  · exact .base (.frz h)
  · exact .kList h1 h2
theorem ty_seqT {K : PySem.W.Frag} {H : Hp} {a : Addr} {xs : List V} (h : SqT K H a xs) : TyX K H (.ref a) (.type "tuple") := by
  rcases h with (h | ⟨o, h⟩) | ⟨o, its, n, h1, h2, _⟩
  · exact .base (.tup h)
  · exact .fTuple h
  · exact .kTuple h1 h2
section
variable {P : Program} {w : World} {K : PySem.W.Frag} {mg : Str → Option Value} {base : Heap}
abbrev s_is_list : Stmt := top 15
theorem sc_is_list : FnScope ["thing", "low", "high"] ["thing", "low", "high"] (defScope s_is_list) := ⟨rfl, rfl, rfl, by decide +kernel, rfl, by decide +kernel, by decide +kernel⟩
def spIsList (K : PySem.W.Frag) : Sp := fun vs H Q _ => ∃ (a : Addr) (lo hi : Int) (xs : List V), vs = [.ref a, .int lo, .int hi] ∧ SqX K H a xs ∧ ∀ H', Same H H' → Q (.bl (decide (lo ≤ (xs.length : Int)) && decide ((xs.length : Int) ≤ hi))) H'
theorem ok_is_list {f : Addr} {fd : FuncData} (F : Fun K "is_list" "is_list" s_is_list f fd) (T : Txt mg) : FnOk P w K mg base CX0 1 f fd ["thing", "low", "high"] (spIsList K) := by
  refine F.ok sc_is_list (fun vs H Q E h => ?_) (fun cdv A outer s H vs Q E hr h => ?_)
  · obtain ⟨a, lo, hi, xs, rfl, _⟩ := h
    rfl
  · obtain ⟨a, lo, hi, xs, rfl, hX, k⟩ := h
    refine ⟨_, pss_one (ps_ret (pe_and (pe_callB call_isiT (by rfl) T.isinstance_ (by decide +kernel) (pa_cons (pv 0) (pa_cons (pe_tup (pa_cons (pe_bltn (v := .ty "list") (by rfl) T.list_ (by decide +kernel) rfl) (pa_cons (pe_bltn (v := .ty "tuple") (by rfl) T.tuple_ (by decide +kernel) rfl) pa_nil))) pa_nil))) (pe_one (pe_chain op_le op_le (pv 1) (pe_callB call_len_seq (by rfl) T.len_ PySem.boot_len (pa_cons (pv 0) pa_nil)) (pv 2))))), ?_⟩
    refine ⟨_, rfl, (by show 2 ≤ sizeLine; decide), fun t ht => ?_⟩
    have e := same_alloc (o := .tup [.ty "list", .ty "tuple"]) ht
    have hX' := SqX.nt (same_nt e) hX
    have fin : ∃ c, V.bl true = .bl c ∧ if c = true then tChain (rI0 fun i j => .bl (decide (i ≤ j))) (rI0 fun i j => .bl (decide (i ≤ j))) (tVar 1) (tCB (fun xs H Q => ∃ p ys, xs = [.ref p] ∧ (SqL K H p ys ∨ SqT K H p ys) ∧ Q (.int ys.length) H) (tCons (tVar 0) tNil)) (tVar 2) [some (.ref a), some (.int lo), some (.int hi)] (upd H t (.tup [.ty "list", .ty "tuple"])) Q else Q (.bl false) (upd H t (.tup [.ty "list", .ty "tuple"])) := by
      refine ⟨_, rfl, iteT ?_⟩
      refine ⟨_, rfl, _, rfl, a, xs, rfl, hX', _, _, rfl, rfl, _, rfl, ite2 (fun c => ?_) (fun c => ?_)⟩
      · refine ⟨_, rfl, _, _, rfl, rfl, ?_⟩
        have q := k _ e
        rw [c, Bool.true_and] at q
        exact q
      · have q := k _ e
        rw [show decide (lo ≤ (xs.length : Int)) = false by simpa using c, Bool.false_and] at q
        exact q
    rcases hX' with hL | hT
    · exact ⟨_, t, _, _, [.type "list", .type "tuple"], true, rfl, upd_same, .cons (.ty _) (.cons (.ty _) .nil), ty_seqL hL, (by rfl), fin⟩
    · exact ⟨_, t, _, _, [.type "list", .type "tuple"], true, rfl, upd_same, .cons (.ty _) (.cons (.ty _) .nil), ty_seqT hT, (by rfl), fin⟩
abbrev s_is_tuple : Stmt := top 16
theorem sc_is_tuple : FnScope ["thing", "many"] ["thing", "many"] (defScope s_is_tuple) := ⟨rfl, rfl, rfl, by decide +kernel, rfl, by decide +kernel, by decide +kernel⟩
def spIsTuple (K : PySem.W.Frag) : Sp := fun vs H Q _ => ∃ (a : Addr) (n : Int) (xs : List V), vs = [.ref a, .int n] ∧ SqT K H a xs ∧ Q (.bl (decide ((xs.length : Int) = n))) H
theorem ok_is_tuple {f : Addr} {fd : FuncData} (F : Fun K "is_tuple" "is_tuple" s_is_tuple f fd) (T : Txt mg) : FnOk P w K mg base CX0 1 f fd ["thing", "many"] (spIsTuple K) := by
  refine F.ok sc_is_tuple (fun vs H Q E h => ?_) (fun cdv A outer s H vs Q E hr h => ?_)
  · obtain ⟨a, n, xs, rfl, _⟩ := h
    rfl
  · obtain ⟨a, n, xs, rfl, hT, k⟩ := h
    refine ⟨_, pss_one (ps_ret (pe_and (pe_callB call_isi (by rfl) T.isinstance_ (by decide +kernel) (pa_cons (pv 0) (pa_cons (pe_bltn (v := .ty "tuple") (by rfl) T.tuple_ (by decide +kernel) rfl) pa_nil))) (pe_one (pe_cmpR op_eq (pe_callB call_len_seq (by rfl) T.len_ PySem.boot_len (pa_cons (pv 0) pa_nil)) (pv 1) (nomark _))))), ?_⟩
    refine ⟨_, rfl, _, _, _, _, true, rfl, .ty "tuple", ty_seqT hT, (by rfl), _, rfl, iteT ?_⟩
    refine ⟨_, rfl, a, xs, rfl, .inr hT, _, rfl, rfl, ?_⟩
    have e : decide (V.int (xs.length : Int) = V.int n) = decide ((xs.length : Int) = n) := by simp
    show Q (.bl (decide (V.int (xs.length : Int) = V.int n))) H
    rw [e]
    exact k
abbrev s_check_place : Stmt := top 21
theorem sc_check_place : FnScope ["place", "ahead", "name", "roads"] ["place", "ahead"] (defScope s_check_place) := ⟨rfl, rfl, rfl, by decide +kernel, rfl, by decide +kernel, by decide +kernel⟩
def spCheckPlace (K : PySem.W.Frag) (Pt : Addr) : Sp := fun vs H Q _ => ∃ (t l : Addr) (z : Str) (r : Int) (as : List Str), vs = [.ref t, .ref l] ∧ SqT K H t [.str z, .int r] ∧ NameOk z ∧ 1 ≤ r ∧ r ≤ 3 ∧ SqL K H l (as.map V.str) ∧ z ∉ as ∧ TabG H Pt ∧ ∀ H', KT Pt H H' → Q .non H'
theorem flat_strs (as : List Str) : (as.map V.str).all flatV = true := by
  induction as with
  | nil => rfl
  | cons a r ih => simpa [flatV] using ih
theorem inV_strs {z : Str} {as : List Str} (h : z ∉ as) : inV (.str z) (as.map V.str) = false := by
  unfold inV
  rw [List.any_map, ← Bool.not_eq_true, List.any_eq_true]
  rintro ⟨y, hy, e⟩
  have e' : (y == z) = true := e
  exact h (eq_of_beq e' ▸ hy)
theorem ok_check_place {f fTu fNa fWh Pt : Addr} {fd fdTu fdNa fdWh : FuncData} (F : Fun K "_check_place" "_check_place" s_check_place f fd) (T : Txt mg)
    (Nis_tuple : Fn K mg "is_tuple" s_is_tuple ["thing", "many"] fTu fdTu) (Gis_tuple : FnOk P w K mg base CX0 1 fTu fdTu ["thing", "many"] (spIsTuple K))
    (Nis_name : Fn K mg "is_name" sName ["thing"] fNa fdNa) (Gis_name : FnOk P w K mg base CX0 2 fNa fdNa ["thing"] (spName Pt))
    (Nis_whole : Fn K mg "is_whole" sWhole ["thing", "low", "high"] fWh fdWh) (Gis_whole : FnOk P w K mg base CX0 1 fWh fdWh ["thing", "low", "high"] spWhole) :
    FnOk P w K mg base CX0 3 f fd ["place", "ahead"] (spCheckPlace K Pt) := by
  refine F.ok sc_check_place (fun vs H Q E h => ?_) (fun cdv A outer s H vs Q E hr h => ?_)
  · obtain ⟨t, l, z, r, as, rfl, _⟩ := h
    rfl
  · obtain ⟨t, l, z, r, as, rfl, hT, hz, r1, r3, hl, hn, tb, k⟩ := h
    refine ⟨_, pss_cons (ps_if (pt_not (pt_val (pe_call Gis_tuple (hr.mono (by decide)) (by rfl) Nis_tuple.g Nis_tuple.kp Nis_tuple.b .nil pass0 (pa_cons (pv 0) (pa_cons pe_int pa_nil))))) (pss_one ps_never) pss_nil)
      (pss_cons (ps_asg (pv 0) (pg_tup (by rfl) (pgs_cons (pg_name (i := 2) sc_check_place.nd rfl (Or.inl rfl)) (pgs_cons (pg_name (i := 3) sc_check_place.nd rfl (Or.inl rfl)) pgs_nil))))
      (pss_cons (ps_if (pt_not (pt_val (pe_call Gis_name (hr.mono (by decide)) (by rfl) Nis_name.g Nis_name.kp Nis_name.b .nil pass0 (pa_cons (pv 2) pa_nil)))) (pss_one ps_never) pss_nil)
      (pss_cons (ps_if (pt_cmpR op_in_seq (pv 2) (pv 1) rfl) (pss_one ps_never) pss_nil)
      (pss_one (ps_if (pt_not (pt_val (pe_call Gis_whole (hr.mono (by decide)) (by rfl) Nis_whole.g Nis_whole.kp Nis_whole.b .nil pass0 (pa_cons (pv 3) (pa_cons pe_int (pa_cons pe_int pa_nil)))))) (pss_one ps_never) pss_nil))))), ?_⟩
    refine ⟨_, rfl, t, 2, _, rfl, hT, _, rfl, iteF ?_⟩
    refine ⟨_, rfl, t, _, rfl, hT, rfl, _, _, rfl, _, _, rfl, rfl, ?_⟩
    refine ⟨_, rfl, .str z, rfl, hz.th, tb, fun H1 k1 => ?_⟩
    rw [hz.nm]
    refine ⟨_, rfl, iteF ?_⟩
    have n1 := KT.nt tb k1
    refine ⟨_, rfl, _, rfl, l, _, rfl, .inl (n1.seq hl), rfl, flat_strs as, ?_⟩
    refine ⟨_, rfl, ?_⟩
    show if inV (.str z) (as.map V.str) = true then _ else _
    rw [inV_strs hn]
    refine iteF ?_
    refine ⟨_, rfl, .int r, 1, 3, rfl, .int r, ?_⟩
    have e : wh 1 3 (.int r) = true := by simp [wh, r1, r3]
    rw [e]
    exact ⟨_, rfl, iteF (k H1 k1)⟩
end
end K8

set_option maxRecDepth 100000
set_option maxHeartbeats 4000000
namespace K8
open PySem PySem.Spec PyProof.Rows L2 GxR Gd TL My
theorem get_map {α β : Type} {f : α → β} {l : List α} {i : Nat} {d : β} (h : (l.map f)[i]? = some d) : ∃ p, l[i]? = some p ∧ d = f p := by
  rw [List.getElem?_map] at h
  cases e : l[i]? with
  | none =>
    rw [e] at h
    cases h
  | some p =>
    rw [e] at h
    exact ⟨p, rfl, (Option.some.inj h).symm⟩
theorem take_at {α : Type} {l : List α} {i : Nat} {x : α} (h : l[i]? = some x) : l.take (i + 1) = l.take i ++ [x] := by
  rw [List.take_add_one, h]
  rfl
theorem fresh_name {ps : List (Str × Int)} (nd : (ps.map (·.1)).Nodup) {i : Nat} {p : Str × Int} (h : ps[i]? = some p) : p.1 ∉ (ps.take i).map (·.1) := by
  have hi := (List.getElem?_eq_some_iff.mp h).1
  intro hm
  obtain ⟨q, hq, e⟩ := List.mem_map.mp hm
  obtain ⟨j, hj, eq⟩ := List.getElem_of_mem hq
  have hj' : j < i := by
    have := hj
    rw [List.length_take] at this
    omega
  rw [List.getElem_take] at eq
  have e1 : (ps.map (·.1))[j]? = some p.1 := by
    rw [List.getElem?_map, List.getElem?_eq_getElem (by omega), eq]
    simp [e]
  have e2 : (ps.map (·.1))[i]? = some p.1 := by
    rw [List.getElem?_map, h]
    rfl
  have nd2 : (ps.map (·.1)).Pairwise (· ≠ ·) := nd
  have hjl : j < (ps.map (·.1)).length := by rw [List.length_map]; omega
  have hil : i < (ps.map (·.1)).length := by rw [List.length_map]; exact hi
  have z := List.pairwise_iff_getElem.mp nd2 j i hjl hil hj'
  rw [List.getElem?_eq_getElem hjl] at e1
  rw [List.getElem?_eq_getElem hil] at e2
  exact z ((Option.some.inj e1).trans (Option.some.inj e2).symm)
theorem KT.put {Pt L : Addr} {H H' : Hp} {o : HO} (k : KT Pt H H') (n : H L = none) (np : L ≠ Pt) : KT Pt H (upd H' L o) := by
  obtain ⟨k1, ps, e, t⟩ := k
  exact ⟨fun c u q h => by rw [upd_ne (ne_of_none h n)]; exact k1 c u q h, ps, by rw [upd_ne np.symm]; exact e, t⟩
theorem longs_get {top : Int} : ∀ {low : Int} {lo : List (Int × Int × Int)}, longsOk top low lo → ∀ {i : Nat} {p : Int × Int × Int}, lo[i]? = some p →
    (((lo.take i).getLast?.map fun q => q.2.1).getD low) ≤ p.1 ∧ p.1 + 2 ≤ p.2.1 ∧ p.2.1 ≤ top ∧ 0 ≤ p.2.2 ∧ p.2.2 ≤ 1
  | _, [], _, _, _, h => by simp at h
  | low, (f, l, h) :: r, hk, 0, p, e => by
    simp at e
    subst e
    obtain ⟨h1, h2, h3, h4, h5, _⟩ := hk
    exact ⟨by simpa using h1, h2, h3, h4, h5⟩
  | low, (f, l, h) :: r, hk, i + 1, p, e => by
    obtain ⟨h1, h2, h3, h4, h5, h6⟩ := hk
    have ih := longs_get h6 (i := i) (p := p) (by simpa using e)
    refine ⟨?_, ih.2⟩
    have e1 : ((f, l, h) :: r).take (i + 1) = (f, l, h) :: r.take i := rfl
    rw [e1, List.getLast?_cons]
    cases q : (r.take i).getLast? with
    | none =>
      have := ih.1
      rw [q] at this
      simpa using this
    | some z =>
      have := ih.1
      rw [q] at this
      simpa using this
section
variable {P : Program} {w : World} {K : PySem.W.Frag} {mg : Str → Option Value} {base : Heap}
abbrev s_check_places : Stmt := top 20
theorem sc_check_places : FnScope ["places", "ahead", "place"] ["places"] (defScope s_check_places) := ⟨rfl, rfl, rfl, by decide +kernel, rfl, by decide +kernel, by decide +kernel⟩
def spCheckPlaces (K : PySem.W.Frag) (Pt : Addr) : Sp := fun vs H Q _ => ∃ (a : Addr) (xs : List V) (ps : List (Str × Int)), vs = [.ref a] ∧ SqX K H a xs ∧ DpAll K H xs (ps.map dP) ∧ 2 ≤ ps.length ∧ ps.length ≤ 6 ∧
  (∀ p ∈ ps, NameOk p.1 ∧ 1 ≤ p.2 ∧ p.2 ≤ 3) ∧ (ps.map (·.1)).Nodup ∧ TabG H Pt ∧ ∀ H', KT Pt H H' → Q .non H'
theorem ok_check_places {f fL fC Pt : Addr} {fd fdL fdC : FuncData} (F : Fun K "_check_places" "_check_places" s_check_places f fd) (T : Txt mg)
    (Nis_list : Fn K mg "is_list" s_is_list ["thing", "low", "high"] fL fdL) (Gis_list : FnOk P w K mg base CX0 1 fL fdL ["thing", "low", "high"] (spIsList K))
    (Ncheck_place : Fn K mg "_check_place" s_check_place ["place", "ahead"] fC fdC) (Gcheck_place : FnOk P w K mg base CX0 3 fC fdC ["place", "ahead"] (spCheckPlace K Pt)) :
    FnOk P w K mg base CX0 4 f fd ["places"] (spCheckPlaces K Pt) := by
  refine F.ok sc_check_places (fun vs H Q E h => ?_) (fun cdv A outer s H vs Q E hr h => ?_)
  · obtain ⟨a, xs, ps, rfl, _⟩ := h
    rfl
  · obtain ⟨a, xs, ps, rfl, hX, hd, p2, p6, ok, nd, tb, k⟩ := h
    rcases id hX with hL | hT
    · skip
      refine ⟨_, pss_cons (ps_if (pt_not (pt_val (pe_call Gis_list (hr.mono (by decide)) (by rfl) Nis_list.g Nis_list.kp Nis_list.b .nil pass0 (pa_cons (pv 0) (pa_cons pe_int (pa_cons pe_int pa_nil)))))) (pss_one ps_never) pss_nil)
      (pss_cons (ps_set (i := 1) sc_check_places.nd rfl (Or.inl rfl) (pe_lst pa_nil))
      (pss_one (ps_for PassesOwn.never rfl (pi_list (pv 0)) (pg_name (i := 2) sc_check_places.nd rfl (Or.inl rfl)) (pss_cons (ps_expr (pe_call Gcheck_place (hr.mono (by decide)) (by rfl) Ncheck_place.g Ncheck_place.kp Ncheck_place.b .nil pass0 (pa_cons (pv 2) (pa_cons (pv 1) pa_nil))))
          (pss_one (ps_expr (pe_bm PySem.F.plainAttrs_list PySem.F.slot_list_append PySem.F.type_list_append mt_append (pv 1) (pa_cons (pe_ix ix_tup (pv 2) pe_int (fun _ _ => rfl)) pa_nil)))))))), ?_⟩
      refine ⟨_, rfl, a, 2, 6, xs, rfl, hX, fun H1 s1 => ?_⟩
      have el : (xs.length : Int) = (ps.length : Int) := by rw [dpAll_len hd, List.length_map]
      rw [el, show decide ((2 : Int) ≤ (ps.length : Int)) = true from decide_eq_true (by omega), show decide ((ps.length : Int) ≤ 6) = true from decide_eq_true (by omega)]
      refine ⟨_, rfl, iteF ?_⟩
      refine ⟨Nat.zero_le _, fun L hL0 => ?_⟩
      have hLn : H L = none := s1.free hL0
      have kA := (same_kt tb s1).trans (KT.alloc (o := .lst []) (same_kt tb s1).tab hL0)
      have HX := Nt.seq (KT.nt tb kA) hL
      refine ⟨_, rfl, a, rfl, ⟨_, HX⟩, for_list (K := K) (a := a) (xs := xs) (fun i σ H' => ∃ v : Option V, σ = [some (.ref a), some (.ref L), v] ∧ H' L = some (.lst (((ps.take i).map (·.1)).map V.str)) ∧ KT Pt H H')
        ⟨_, rfl, upd_same, kA⟩ (fun i σ H' _ ⟨_, _, _, q⟩ => Nt.seq (KT.nt tb q) hL) ?_ ?_⟩
      · rintro i x σ H2 hx ⟨v, rfl, eL, k2⟩
        obtain ⟨d, hd1, hd2⟩ := dpAll_get hd hx
        obtain ⟨p, hp, rfl⟩ := get_map hd1
        obtain ⟨t, x1, x2, rfl, ht, q1, q2⟩ := dp_two hd2
        obtain rfl := dp_str q1
        obtain rfl := dp_int q2
        have ht2 := Nt.seqT (KT.nt tb k2) ht
        have hpm := List.mem_of_getElem? hp
        obtain ⟨m1, m2, m3⟩ := ok p hpm
        refine ⟨_, rfl, _, rfl, t, L, p.1, p.2, (ps.take i).map (·.1), rfl, ht2, m1, m2, m3, SqL.of eL, fresh_name nd hp, k2.tab, fun H3 k3 => ?_⟩
        have eL3 : H3 L = some (.lst (((ps.take i).map (·.1)).map V.str)) := KT.nt k2.tab k3 L _ (by simp) eL
        have ht3 := Nt.seqT (KT.nt tb (k2.trans k3)) ht
        have nLP : L ≠ Pt := ne_tab k3.tab eL3 (by simp)
        have hi := (List.getElem?_eq_some_iff.mp hp).1
        refine ⟨_, rfl, .inl ⟨rfl, _, SqL.of eL3⟩, _, rfl, t, _, 0, .str p.1, rfl, rfl, ht3, rfl, L, _, _, rfl, rfl, eL3, ?_, ?_⟩
        · rw [List.length_map, List.length_map, List.length_take]
          exact small1000 (by omega)
        · refine ⟨_, rfl, ?_, KT.put (k2.trans k3) hLn nLP⟩
          rw [upd_same, take_at hp, List.map_append, List.map_append]
          rfl
      · rintro σ H2 ⟨v, rfl, eL, k2⟩
        exact k H2 k2
    · skip
      refine ⟨_, pss_cons (ps_if (pt_not (pt_val (pe_call Gis_list (hr.mono (by decide)) (by rfl) Nis_list.g Nis_list.kp Nis_list.b .nil pass0 (pa_cons (pv 0) (pa_cons pe_int (pa_cons pe_int pa_nil)))))) (pss_one ps_never) pss_nil)
      (pss_cons (ps_set (i := 1) sc_check_places.nd rfl (Or.inl rfl) (pe_lst pa_nil))
      (pss_one (ps_for PassesOwn.never rfl (pi_tup (pv 0)) (pg_name (i := 2) sc_check_places.nd rfl (Or.inl rfl)) (pss_cons (ps_expr (pe_call Gcheck_place (hr.mono (by decide)) (by rfl) Ncheck_place.g Ncheck_place.kp Ncheck_place.b .nil pass0 (pa_cons (pv 2) (pa_cons (pv 1) pa_nil))))
          (pss_one (ps_expr (pe_bm PySem.F.plainAttrs_list PySem.F.slot_list_append PySem.F.type_list_append mt_append (pv 1) (pa_cons (pe_ix ix_tup (pv 2) pe_int (fun _ _ => rfl)) pa_nil)))))))), ?_⟩
      refine ⟨_, rfl, a, 2, 6, xs, rfl, hX, fun H1 s1 => ?_⟩
      have el : (xs.length : Int) = (ps.length : Int) := by rw [dpAll_len hd, List.length_map]
      rw [el, show decide ((2 : Int) ≤ (ps.length : Int)) = true from decide_eq_true (by omega), show decide ((ps.length : Int) ≤ 6) = true from decide_eq_true (by omega)]
      refine ⟨_, rfl, iteF ?_⟩
      refine ⟨Nat.zero_le _, fun L hL0 => ?_⟩
      have hLn : H L = none := s1.free hL0
      have kA := (same_kt tb s1).trans (KT.alloc (o := .lst []) (same_kt tb s1).tab hL0)
      have HX := Nt.seqT (KT.nt tb kA) hT
      refine ⟨_, rfl, a, rfl, ⟨_, HX⟩, for_tup (K := K) (a := a) (xs := xs) (fun i σ H' => ∃ v : Option V, σ = [some (.ref a), some (.ref L), v] ∧ H' L = some (.lst (((ps.take i).map (·.1)).map V.str)) ∧ KT Pt H H')
        ⟨_, rfl, upd_same, kA⟩ (fun i σ H' _ ⟨_, _, _, q⟩ => Nt.seqT (KT.nt tb q) hT) ?_ ?_⟩
      · rintro i x σ H2 hx ⟨v, rfl, eL, k2⟩
        obtain ⟨d, hd1, hd2⟩ := dpAll_get hd hx
        obtain ⟨p, hp, rfl⟩ := get_map hd1
        obtain ⟨t, x1, x2, rfl, ht, q1, q2⟩ := dp_two hd2
        obtain rfl := dp_str q1
        obtain rfl := dp_int q2
        have ht2 := Nt.seqT (KT.nt tb k2) ht
        have hpm := List.mem_of_getElem? hp
        obtain ⟨m1, m2, m3⟩ := ok p hpm
        refine ⟨_, rfl, _, rfl, t, L, p.1, p.2, (ps.take i).map (·.1), rfl, ht2, m1, m2, m3, SqL.of eL, fresh_name nd hp, k2.tab, fun H3 k3 => ?_⟩
        have eL3 : H3 L = some (.lst (((ps.take i).map (·.1)).map V.str)) := KT.nt k2.tab k3 L _ (by simp) eL
        have ht3 := Nt.seqT (KT.nt tb (k2.trans k3)) ht
        have nLP : L ≠ Pt := ne_tab k3.tab eL3 (by simp)
        have hi := (List.getElem?_eq_some_iff.mp hp).1
        refine ⟨_, rfl, .inl ⟨rfl, _, SqL.of eL3⟩, _, rfl, t, _, 0, .str p.1, rfl, rfl, ht3, rfl, L, _, _, rfl, rfl, eL3, ?_, ?_⟩
        · rw [List.length_map, List.length_map, List.length_take]
          exact small1000 (by omega)
        · refine ⟨_, rfl, ?_, KT.put (k2.trans k3) hLn nLP⟩
          rw [upd_same, take_at hp, List.map_append, List.map_append]
          rfl
      · rintro σ H2 ⟨v, rfl, eL, k2⟩
        exact k H2 k2
abbrev s_is_stretch_lines : Stmt := top 23
theorem sc_is_stretch_lines : FnScope ["thing", "kind", "home"] ["thing"] (defScope s_is_stretch_lines) := ⟨rfl, rfl, rfl, by decide +kernel, rfl, by decide +kernel, by decide +kernel⟩
def spIsStretch (K : PySem.W.Frag) : Sp := fun vs H Q _ => ∃ (t : Addr) (z : Str) (h : Int), vs = [.ref t] ∧ SqT K H t [.str z, .int h] ∧ (z = "staff" ∨ z = "ticket") ∧ 0 ≤ h ∧ h ≤ 1 ∧ ∀ H', Same H H' → Q (.bl true) H'
theorem ok_is_stretch_lines {f fTu fWh : Addr} {fd fdTu fdWh : FuncData} (F : Fun K "_is_stretch" "_is_stretch" s_is_stretch_lines f fd) (T : Txt mg)
    (Nis_tuple : Fn K mg "is_tuple" s_is_tuple ["thing", "many"] fTu fdTu) (Gis_tuple : FnOk P w K mg base CX0 1 fTu fdTu ["thing", "many"] (spIsTuple K))
    (Nis_whole : Fn K mg "is_whole" sWhole ["thing", "low", "high"] fWh fdWh) (Gis_whole : FnOk P w K mg base CX0 1 fWh fdWh ["thing", "low", "high"] spWhole) :
    FnOk P w K mg base CX0 2 f fd ["thing"] (spIsStretch K) := by
  refine F.ok sc_is_stretch_lines (fun vs H Q E h => ?_) (fun cdv A outer s H vs Q E hr h => ?_)
  · obtain ⟨t, z, h, rfl, _⟩ := h
    rfl
  · obtain ⟨t, z, h, rfl, hT, hz, h0, h1, k⟩ := h
    refine ⟨_, pss_cons (ps_if (pt_not (pt_val (pe_call Gis_tuple (hr.mono (by decide)) (by rfl) Nis_tuple.g Nis_tuple.kp Nis_tuple.b .nil pass0 (pa_cons (pv 0) (pa_cons pe_int pa_nil))))) (pss_one (ps_ret pe_bl)) pss_nil)
      (pss_cons (ps_asg (pv 0) (pg_tup (by rfl) (pgs_cons (pg_name (i := 1) sc_is_stretch_lines.nd rfl (Or.inl rfl)) (pgs_cons (pg_name (i := 2) sc_is_stretch_lines.nd rfl (Or.inl rfl)) pgs_nil))))
      (pss_one (ps_ret (pe_and (pe_cmpR op_in_seq (pv 1) (pe_tup (pa_cons pe_str (pa_cons pe_str pa_nil))) rfl) (pe_one (pe_call Gis_whole (hr.mono (by decide)) (by rfl) Nis_whole.g Nis_whole.kp Nis_whole.b .nil pass0 (pa_cons (pv 2) (pa_cons pe_int (pa_cons pe_int pa_nil))))))))), ?_⟩
    refine ⟨_, rfl, t, 2, _, rfl, hT, _, rfl, iteF ?_⟩
    refine ⟨_, rfl, t, _, rfl, hT, rfl, _, _, rfl, _, _, rfl, rfl, ?_⟩
    refine ⟨_, rfl, (by show 2 ≤ sizeLine; decide), fun u hu => ?_⟩
    have e := same_alloc (o := .tup [.str "staff", .str "ticket"]) hu
    refine ⟨u, _, rfl, .inr (SqT.of upd_same), rfl, rfl, _, rfl, ?_⟩
    have ei : inV (.str z) [.str "staff", .str "ticket"] = true := by
      rcases hz with rfl | rfl <;> decide +kernel
    show if inV (.str z) [.str "staff", .str "ticket"] = true then _ else _
    rw [ei]
    refine iteT ?_
    refine ⟨_, rfl, .int h, 0, 1, rfl, .int h, ?_⟩
    have e2 : wh 0 1 (.int h) = true := by simp [wh, h0, h1]
    rw [e2]
    exact k _ e
abbrev s_check_stretches : Stmt := top 22
theorem sc_check_stretches : FnScope ["stretches", "many", "stretch"] ["stretches", "many"] (defScope s_check_stretches) := ⟨rfl, rfl, rfl, by decide +kernel, rfl, by decide +kernel, by decide +kernel⟩
def spCheckStretches (K : PySem.W.Frag) : Sp := fun vs H Q _ => ∃ (a : Addr) (n : Int) (xs : List V) (st : List (Str × Int)), vs = [.ref a, .int n] ∧ SqX K H a xs ∧ DpAll K H xs (st.map dP) ∧ n = st.length ∧
  (∀ p ∈ st, (p.1 = "staff" ∨ p.1 = "ticket") ∧ 0 ≤ p.2 ∧ p.2 ≤ 1) ∧ ∀ H', Same H H' → Q .non H'
theorem ok_check_stretches {f fL fC : Addr} {fd fdL fdC : FuncData} (F : Fun K "_check_stretches" "_check_stretches" s_check_stretches f fd) (T : Txt mg)
    (Nis_list : Fn K mg "is_list" s_is_list ["thing", "low", "high"] fL fdL) (Gis_list : FnOk P w K mg base CX0 1 fL fdL ["thing", "low", "high"] (spIsList K))
    (Nis_stretch_lines : FnA K mg "is_stretch_lines" "_is_stretch" s_is_stretch_lines ["thing"] fC fdC) (Gis_stretch_lines : FnOk P w K mg base CX0 2 fC fdC ["thing"] (spIsStretch K)) :
    FnOk P w K mg base CX0 3 f fd ["stretches", "many"] (spCheckStretches K) := by
  refine F.ok sc_check_stretches (fun vs H Q E h => ?_) (fun cdv A outer s H vs Q E hr h => ?_)
  · obtain ⟨a, n, xs, st, rfl, _⟩ := h
    rfl
  · obtain ⟨a, n, xs, st, rfl, hX, hd, hn, ok, k⟩ := h
    rcases id hX with hL | hT
    · skip
      refine ⟨_, pss_cons (ps_if (pt_not (pt_val (pe_call Gis_list (hr.mono (by decide)) (by rfl) Nis_list.g Nis_list.kp Nis_list.b .nil pass0 (pa_cons (pv 0) (pa_cons (pv 1) (pa_cons (pv 1) pa_nil)))))) (pss_one ps_never) pss_nil)
      (pss_one (ps_for PassesOwn.never rfl (pi_list (pv 0)) (pg_name (i := 2) sc_check_stretches.nd rfl (Or.inl rfl)) (pss_one (ps_if (pt_not (pt_val (pe_call Gis_stretch_lines (hr.mono (by decide)) (by rfl) Nis_stretch_lines.g Nis_stretch_lines.kp Nis_stretch_lines.b .nil pass0 (pa_cons (pv 2) pa_nil)))) (pss_one ps_never) pss_nil)))), ?_⟩
      refine ⟨_, rfl, _, rfl, _, rfl, a, n, n, xs, rfl, hX, fun H1 s1 => ?_⟩
      have el : (xs.length : Int) = n := by rw [dpAll_len hd, List.length_map, hn]
      rw [el, show decide (n ≤ n) = true from decide_eq_true (Int.le_refl n)]
      refine ⟨_, rfl, iteF ?_⟩
      refine ⟨_, rfl, a, rfl, ⟨_, Nt.seq (same_nt s1) hL⟩, for_list (K := K) (a := a) (xs := xs) (fun i σ H' => ∃ v : Option V, σ = [some (.ref a), some (.int n), v] ∧ Same H H')
        ⟨_, rfl, s1⟩ (fun i σ H' _ ⟨_, _, q⟩ => Nt.seq (same_nt q) hL) ?_ ?_⟩
      · rintro i x σ H2 hx ⟨v, rfl, k2⟩
        obtain ⟨d, hd1, hd2⟩ := dpAll_get hd hx
        obtain ⟨p, hp, rfl⟩ := get_map hd1
        obtain ⟨t, x1, x2, rfl, ht, q1, q2⟩ := dp_two hd2
        obtain rfl := dp_str q1
        obtain rfl := dp_int q2
        obtain ⟨m1, m2, m3⟩ := ok p (List.mem_of_getElem? hp)
        exact ⟨_, rfl, t, p.1, p.2, rfl, Nt.seqT (same_nt k2) ht, m1, m2, m3, fun H3 k3 => ⟨_, rfl, iteF ⟨_, rfl, k2.trans k3⟩⟩⟩
      · rintro σ H2 ⟨v, rfl, k2⟩
        exact k H2 k2
    · skip
      refine ⟨_, pss_cons (ps_if (pt_not (pt_val (pe_call Gis_list (hr.mono (by decide)) (by rfl) Nis_list.g Nis_list.kp Nis_list.b .nil pass0 (pa_cons (pv 0) (pa_cons (pv 1) (pa_cons (pv 1) pa_nil)))))) (pss_one ps_never) pss_nil)
      (pss_one (ps_for PassesOwn.never rfl (pi_tup (pv 0)) (pg_name (i := 2) sc_check_stretches.nd rfl (Or.inl rfl)) (pss_one (ps_if (pt_not (pt_val (pe_call Gis_stretch_lines (hr.mono (by decide)) (by rfl) Nis_stretch_lines.g Nis_stretch_lines.kp Nis_stretch_lines.b .nil pass0 (pa_cons (pv 2) pa_nil)))) (pss_one ps_never) pss_nil)))), ?_⟩
      refine ⟨_, rfl, _, rfl, _, rfl, a, n, n, xs, rfl, hX, fun H1 s1 => ?_⟩
      have el : (xs.length : Int) = n := by rw [dpAll_len hd, List.length_map, hn]
      rw [el, show decide (n ≤ n) = true from decide_eq_true (Int.le_refl n)]
      refine ⟨_, rfl, iteF ?_⟩
      refine ⟨_, rfl, a, rfl, ⟨_, Nt.seqT (same_nt s1) hT⟩, for_tup (K := K) (a := a) (xs := xs) (fun i σ H' => ∃ v : Option V, σ = [some (.ref a), some (.int n), v] ∧ Same H H')
        ⟨_, rfl, s1⟩ (fun i σ H' _ ⟨_, _, q⟩ => Nt.seqT (same_nt q) hT) ?_ ?_⟩
      · rintro i x σ H2 hx ⟨v, rfl, k2⟩
        obtain ⟨d, hd1, hd2⟩ := dpAll_get hd hx
        obtain ⟨p, hp, rfl⟩ := get_map hd1
        obtain ⟨t, x1, x2, rfl, ht, q1, q2⟩ := dp_two hd2
        obtain rfl := dp_str q1
        obtain rfl := dp_int q2
        obtain ⟨m1, m2, m3⟩ := ok p (List.mem_of_getElem? hp)
        exact ⟨_, rfl, t, p.1, p.2, rfl, Nt.seqT (same_nt k2) ht, m1, m2, m3, fun H3 k3 => ⟨_, rfl, iteF ⟨_, rfl, k2.trans k3⟩⟩⟩
      · rintro σ H2 ⟨v, rfl, k2⟩
        exact k H2 k2
abbrev s_is_long_lines : Stmt := top 26
theorem sc_is_long_lines : FnScope ["thing", "low", "top", "first", "last", "home"] ["thing", "low", "top"] (defScope s_is_long_lines) := ⟨rfl, rfl, rfl, by decide +kernel, rfl, by decide +kernel, by decide +kernel⟩
def spIsLong (K : PySem.W.Frag) : Sp := fun vs H Q _ => ∃ (t : Addr) (f l h low tp : Int), vs = [.ref t, .int low, .int tp] ∧ SqT K H t [.int f, .int l, .int h] ∧ low ≤ f ∧ f + 2 ≤ l ∧ l ≤ tp ∧ 0 ≤ h ∧ h ≤ 1 ∧ Q (.bl true) H
theorem ok_is_long_lines {f fTu fWh : Addr} {fd fdTu fdWh : FuncData} (F : Fun K "_is_long" "_is_long" s_is_long_lines f fd) (T : Txt mg)
    (Nis_tuple : Fn K mg "is_tuple" s_is_tuple ["thing", "many"] fTu fdTu) (Gis_tuple : FnOk P w K mg base CX0 1 fTu fdTu ["thing", "many"] (spIsTuple K))
    (Nis_whole : Fn K mg "is_whole" sWhole ["thing", "low", "high"] fWh fdWh) (Gis_whole : FnOk P w K mg base CX0 1 fWh fdWh ["thing", "low", "high"] spWhole) :
    FnOk P w K mg base CX0 2 f fd ["thing", "low", "top"] (spIsLong K) := by
  refine F.ok sc_is_long_lines (fun vs H Q E h => ?_) (fun cdv A outer s H vs Q E hr h => ?_)
  · obtain ⟨t, fi, la, h, low, tp, rfl, _⟩ := h
    rfl
  · obtain ⟨t, fi, la, h, low, tp, rfl, hT, a1, a2, a3, a4, a5, k⟩ := h
    refine ⟨_, pss_cons (ps_if (pt_not (pt_val (pe_call Gis_tuple (hr.mono (by decide)) (by rfl) Nis_tuple.g Nis_tuple.kp Nis_tuple.b .nil pass0 (pa_cons (pv 0) (pa_cons pe_int pa_nil))))) (pss_one (ps_ret pe_bl)) pss_nil)
      (pss_cons (ps_asg (pv 0) (pg_tup (by rfl) (pgs_cons (pg_name (i := 3) sc_is_long_lines.nd rfl (Or.inl rfl)) (pgs_cons (pg_name (i := 4) sc_is_long_lines.nd rfl (Or.inl rfl)) (pgs_cons (pg_name (i := 5) sc_is_long_lines.nd rfl (Or.inl rfl)) pgs_nil)))))
      (pss_one (ps_ret (pe_and (pe_call Gis_whole (hr.mono (by decide)) (by rfl) Nis_whole.g Nis_whole.kp Nis_whole.b .nil pass0 (pa_cons (pv 3) (pa_cons (pv 1) (pa_cons (pv 2) pa_nil)))) (pe_and (pe_call Gis_whole (hr.mono (by decide)) (by rfl) Nis_whole.g Nis_whole.kp Nis_whole.b .nil pass0 (pa_cons (pv 4) (pa_cons (pe_op op_add (pv 3) pe_int) (pa_cons (pv 2) pa_nil)))) (pe_one (pe_call Gis_whole (hr.mono (by decide)) (by rfl) Nis_whole.g Nis_whole.kp Nis_whole.b .nil pass0 (pa_cons (pv 5) (pa_cons pe_int (pa_cons pe_int pa_nil)))))))))), ?_⟩
    refine ⟨_, rfl, t, 3, _, rfl, hT, _, rfl, iteF ?_⟩
    refine ⟨_, rfl, t, _, rfl, hT, rfl, _, _, rfl, _, _, rfl, _, _, rfl, rfl, ?_⟩
    refine ⟨_, rfl, _, rfl, _, rfl, .int fi, low, tp, rfl, .int fi, ?_⟩
    rw [show wh low tp (.int fi) = true by simp [wh]; omega]
    refine ⟨_, rfl, iteT ?_⟩
    refine ⟨_, rfl, _, rfl, _, _, rfl, rfl, _, rfl, .int la, fi + 2, tp, rfl, .int la, ?_⟩
    rw [show wh (fi + 2) tp (.int la) = true by simp [wh]; omega]
    refine ⟨_, rfl, iteT ?_⟩
    refine ⟨_, rfl, .int h, 0, 1, rfl, .int h, ?_⟩
    rw [show wh 0 1 (.int h) = true by simp [wh]; omega]
    exact k
abbrev s_check_longs : Stmt := top 25
theorem sc_check_longs : FnScope ["longs", "top", "low", "long"] ["longs", "top"] (defScope s_check_longs) := ⟨rfl, rfl, rfl, by decide +kernel, rfl, by decide +kernel, by decide +kernel⟩
def spCheckLongs (K : PySem.W.Frag) : Sp := fun vs H Q _ => ∃ (a : Addr) (tp : Int) (xs : List V) (lo : List (Int × Int × Int)), vs = [.ref a, .int tp] ∧ SqX K H a xs ∧ DpAll K H xs (lo.map dL) ∧ lo.length ≤ 2 ∧ longsOk tp 0 lo ∧ ∀ H', Same H H' → Q .non H'
def lastOf (lo : List (Int × Int × Int)) (i : Nat) : Int := ((lo.take i).getLast?.map fun q => q.2.1).getD 0
theorem ok_check_longs {f fL fC : Addr} {fd fdL fdC : FuncData} (F : Fun K "_check_longs" "_check_longs" s_check_longs f fd) (T : Txt mg)
    (Nis_list : Fn K mg "is_list" s_is_list ["thing", "low", "high"] fL fdL) (Gis_list : FnOk P w K mg base CX0 1 fL fdL ["thing", "low", "high"] (spIsList K))
    (Nis_long_lines : FnA K mg "is_long_lines" "_is_long" s_is_long_lines ["thing", "low", "top"] fC fdC) (Gis_long_lines : FnOk P w K mg base CX0 2 fC fdC ["thing", "low", "top"] (spIsLong K)) :
    FnOk P w K mg base CX0 3 f fd ["longs", "top"] (spCheckLongs K) := by
  refine F.ok sc_check_longs (fun vs H Q E h => ?_) (fun cdv A outer s H vs Q E hr h => ?_)
  · obtain ⟨a, n, xs, st, rfl, _⟩ := h
    rfl
  · obtain ⟨a, tp, xs, lo, rfl, hX, hd, l2, ok, k⟩ := h
    rcases id hX with hL | hT
    · skip
      refine ⟨_, pss_cons (ps_if (pt_not (pt_val (pe_call Gis_list (hr.mono (by decide)) (by rfl) Nis_list.g Nis_list.kp Nis_list.b .nil pass0 (pa_cons (pv 0) (pa_cons pe_int (pa_cons pe_int pa_nil)))))) (pss_one ps_never) pss_nil)
      (pss_cons (ps_set (i := 2) sc_check_longs.nd rfl (Or.inl rfl) pe_int)
      (pss_one (ps_for PassesOwn.never rfl (pi_list (pv 0)) (pg_name (i := 3) sc_check_longs.nd rfl (Or.inl rfl)) (pss_cons (ps_if (pt_not (pt_val (pe_call Gis_long_lines (hr.mono (by decide)) (by rfl) Nis_long_lines.g Nis_long_lines.kp Nis_long_lines.b .nil pass0 (pa_cons (pv 3) (pa_cons (pv 2) (pa_cons (pv 1) pa_nil)))))) (pss_one ps_never) pss_nil)
          (pss_one (ps_set (i := 2) sc_check_longs.nd rfl (Or.inl rfl) (pe_ix ix_tup (pv 3) pe_int (fun _ _ => rfl)))))))), ?_⟩
      refine ⟨_, rfl, a, 0, 2, xs, rfl, hX, fun H1 s1 => ?_⟩
      have el : (xs.length : Int) = (lo.length : Int) := by rw [dpAll_len hd, List.length_map]
      rw [el, show decide ((0 : Int) ≤ (lo.length : Int)) = true from decide_eq_true (by omega), show decide ((lo.length : Int) ≤ 2) = true from decide_eq_true (by omega)]
      refine ⟨_, rfl, iteF ?_⟩
      refine ⟨_, rfl, a, rfl, ⟨_, Nt.seq (same_nt s1) hL⟩, for_list (K := K) (a := a) (xs := xs) (fun i σ H' => ∃ v : Option V, σ = [some (.ref a), some (.int tp), some (.int (lastOf lo i)), v] ∧ Same H H')
        ⟨_, rfl, s1⟩ (fun i σ H' _ ⟨_, _, q⟩ => Nt.seq (same_nt q) hL) ?_ ?_⟩
      · rintro i x σ H2 hx ⟨v, rfl, k2⟩
        obtain ⟨d, hd1, hd2⟩ := dpAll_get hd hx
        obtain ⟨p, hp, rfl⟩ := get_map hd1
        obtain ⟨t, x1, x2, x3, rfl, ht, q1, q2, q3⟩ := dp_three hd2
        obtain rfl := dp_int q1
        obtain rfl := dp_int q2
        obtain rfl := dp_int q3
        obtain ⟨m1, m2, m3, m4, m5⟩ := longs_get ok hp
        have ht2 := Nt.seqT (same_nt k2) ht
        refine ⟨_, rfl, _, rfl, _, rfl, t, _, _, _, _, _, rfl, ht2, m1, m2, m3, m4, m5, _, rfl, iteF ?_⟩
        refine ⟨_, rfl, t, _, 1, .int p.2.1, rfl, rfl, ht2, rfl, some (.ref t), ?_, k2⟩
        have e : lastOf lo (i + 1) = p.2.1 := by
          unfold lastOf
          rw [take_at hp, List.getLast?_append]
          simp
        rw [e]
        rfl
      · rintro σ H2 ⟨v, rfl, k2⟩
        exact k H2 k2
    · skip
      refine ⟨_, pss_cons (ps_if (pt_not (pt_val (pe_call Gis_list (hr.mono (by decide)) (by rfl) Nis_list.g Nis_list.kp Nis_list.b .nil pass0 (pa_cons (pv 0) (pa_cons pe_int (pa_cons pe_int pa_nil)))))) (pss_one ps_never) pss_nil)
      (pss_cons (ps_set (i := 2) sc_check_longs.nd rfl (Or.inl rfl) pe_int)
      (pss_one (ps_for PassesOwn.never rfl (pi_tup (pv 0)) (pg_name (i := 3) sc_check_longs.nd rfl (Or.inl rfl)) (pss_cons (ps_if (pt_not (pt_val (pe_call Gis_long_lines (hr.mono (by decide)) (by rfl) Nis_long_lines.g Nis_long_lines.kp Nis_long_lines.b .nil pass0 (pa_cons (pv 3) (pa_cons (pv 2) (pa_cons (pv 1) pa_nil)))))) (pss_one ps_never) pss_nil)
          (pss_one (ps_set (i := 2) sc_check_longs.nd rfl (Or.inl rfl) (pe_ix ix_tup (pv 3) pe_int (fun _ _ => rfl)))))))), ?_⟩
      refine ⟨_, rfl, a, 0, 2, xs, rfl, hX, fun H1 s1 => ?_⟩
      have el : (xs.length : Int) = (lo.length : Int) := by rw [dpAll_len hd, List.length_map]
      rw [el, show decide ((0 : Int) ≤ (lo.length : Int)) = true from decide_eq_true (by omega), show decide ((lo.length : Int) ≤ 2) = true from decide_eq_true (by omega)]
      refine ⟨_, rfl, iteF ?_⟩
      refine ⟨_, rfl, a, rfl, ⟨_, Nt.seqT (same_nt s1) hT⟩, for_tup (K := K) (a := a) (xs := xs) (fun i σ H' => ∃ v : Option V, σ = [some (.ref a), some (.int tp), some (.int (lastOf lo i)), v] ∧ Same H H')
        ⟨_, rfl, s1⟩ (fun i σ H' _ ⟨_, _, q⟩ => Nt.seqT (same_nt q) hT) ?_ ?_⟩
      · rintro i x σ H2 hx ⟨v, rfl, k2⟩
        obtain ⟨d, hd1, hd2⟩ := dpAll_get hd hx
        obtain ⟨p, hp, rfl⟩ := get_map hd1
        obtain ⟨t, x1, x2, x3, rfl, ht, q1, q2, q3⟩ := dp_three hd2
        obtain rfl := dp_int q1
        obtain rfl := dp_int q2
        obtain rfl := dp_int q3
        obtain ⟨m1, m2, m3, m4, m5⟩ := longs_get ok hp
        have ht2 := Nt.seqT (same_nt k2) ht
        refine ⟨_, rfl, _, rfl, _, rfl, t, _, _, _, _, _, rfl, ht2, m1, m2, m3, m4, m5, _, rfl, iteF ?_⟩
        refine ⟨_, rfl, t, _, 1, .int p.2.1, rfl, rfl, ht2, rfl, some (.ref t), ?_, k2⟩
        have e : lastOf lo (i + 1) = p.2.1 := by
          unfold lastOf
          rw [take_at hp, List.getLast?_append]
          simp
        rw [e]
        rfl
      · rintro σ H2 ⟨v, rfl, k2⟩
        exact k H2 k2
end
end K8

set_option maxRecDepth 100000
set_option maxHeartbeats 4000000
/-! enumerate(a tuple) -/
namespace My
open PySem PySem.Spec PyProof.Rows L2
open Builtin in
set_option maxHeartbeats 1000000 in
theorem meets_enum_of {v : Value} {o : Obj} {H : Heap → Prop} (B : Begins v o H) :
    Meets (Builtin.«enumerate.__new__» ⟨[.type "enumerate", v], []⟩) (fun _ R s => H s.heap ∧
      R (.ok (.ret (.ref (s.heap.push o).objs.size))) { s with heap := (s.heap.push o).push { cls := .type "enumerate", data := .fields #[.none, .bool false, .ref s.heap.objs.size, rawInt 0, .none, .none] } }) :=
  .of_wp fun prog w A R s hh => by
    obtain ⟨hp, g, d, tk, os⟩ := s
    obtain ⟨hB, hR⟩ := hh
    have hsub := sub_enumerate
    have it1 : ∀ {A' : Around} {E : Value → Shared → Prop} {Q : Value → Shared → Prop}, Q (.ref hp.objs.size) ⟨hp.push o, g, d, tk, os⟩ → wpAny (model prog w) A' (pyIter v) Q E ⟨hp, g, d, tk, os⟩ :=
      fun z => B.iter prog w _ _ ⟨hp, g, d, tk, os⟩ _ hB z
    wp_walk using it1
    refine wpAny_stack_any fun st => wpAny_pure ?_
    split
    · rename_i c _ _ _ _ _
      cases (c == Value.type "enumerate") <;> (wp_walk using it1; exact ⟨_, rfl, hR⟩)
    · wp_walk using it1
      exact ⟨_, rfl, hR⟩
theorem call_enum_tuple {prog : Program} {w : World} {A : Around} {E : Value → Shared → Prop} {s : Shared} {a : Addr} {items : Array Value} {Q : Value → Shared → Prop} (ht : s.heap.IsTuple a items)
    (h : ∀ h', IsEnum h' (s.heap.objs.size + 1) s.heap.objs.size 0 .none → h'.IsTupleIter s.heap.objs.size a 0 → (∀ b o, s.heap.get? b = some o → h'.get? b = some o) →
      Q (.ref (s.heap.objs.size + 1)) { s with heap := h' }) : wpAny (model prog w) A (call (.type "enumerate") [.ref a]) Q E s := by
  refine callType_new F.called_enumerate (by decide) (F.typeCall_enumerate_1 _) (F.newCall_enumerate_1 _) (fun obj => F.args_object_init_2 obj _) F.entry_enumerate_new (meets_enum_of (begins_tuple a items)) ⟨ht, ?_⟩
  have z1 : (s.heap.push { cls := .type "tuple_iterator", data := .fields #[.ref a, .int 0 0] }).objs.size = s.heap.objs.size + 1 := Heap.size_push ..
  have ge := Heap.get?_push_size (s.heap.push { cls := .type "tuple_iterator", data := .fields #[.ref a, .int 0 0] }) (o := { cls := .type "enumerate", data := .fields #[.none, .bool false, .ref s.heap.objs.size, rawInt 0, .none, .none] }) rfl
  rw [z1] at ge
  show _ ∧ _
  rw [z1]
  exact ⟨⟨_, ge, rfl⟩, h _ ge ⟨_, Heap.get?_push_of_some _ (Heap.get?_push_size _ rfl), rfl, rfl⟩ fun b o x => Heap.get?_push_of_some _ (Heap.get?_push_of_some _ x)⟩
/-- the tuple at a, each item in a new pair with its number -/
def IteT (K : PySem.W.Frag) (a : Addr) : It :=
  ⟨fun i H => ∃ (xs : List V) (x : V), SqT K H a xs ∧ xs[i]? = some x,
   fun i H v H' => ∃ T x, v = .ref T ∧ H T = none ∧ H' = upd H T (.tup [.int (i : Nat), x]) ∧ ∀ xs, SqT K H a xs → xs[i]? = some x,
   fun i H => ∃ xs : List V, SqT K H a xs ∧ xs.length ≤ i⟩
theorem turn_enumT {P : Program} {w : World} {K : PySem.W.Frag} {elts : List Expr} {kk : Nat} {tp : Pos} (a e it : Addr) :
    Turn P w K (.Tuple elts kk tp) (IteT K a) [e, it] e (fun i h => (∃ old, IsEnum h e it ((i : Nat) : Int) old) ∧ h.IsTupleIter it a i ∧ e ≠ it) := by
  have two : ∀ {b : Addr}, b ∈ [e, it] → b = e ∨ b = it := fun {b} hb => by simpa using hb
  constructor
  case mem => exact List.mem_cons_self
  case obj =>
    rintro i h ⟨⟨old, he⟩, ⟨o, ho, hc, hd⟩, hne⟩ b hb
    rcases two hb with rfl | rfl
    · exact ⟨_, he, fun v q => nomatch q⟩
    · exact ⟨o, ho, fun v q => by rw [hd] at q; cases q⟩
  case keep =>
    rintro i h h' ⟨⟨old, he⟩, ⟨o, ho, r⟩, hne⟩ k
    exact ⟨⟨old, k e List.mem_cons_self _ he⟩, ⟨o, k it (by simp) _ ho, r⟩, hne⟩
  case self =>
    rintro A i s Q E ⟨⟨_, he⟩, _⟩ hQ
    exact wpAny_pyIter_enum he hQ
  case item =>
    rintro X rfl rfl rfl hc i pins s σ H E I hf ⟨⟨old, he⟩, hit, hne⟩ ⟨xs, x, hq, hx⟩
    obtain ⟨its, rv, p, hz⟩ := I.tuple hq
    have pt : s.heap.IsTuple a its.toArray := let ⟨o, h1, h2, n, h3⟩ := p; ⟨o, h1, h2, n, h3⟩
    obtain ⟨u, hu, ru⟩ := rv.get hx
    have hi : i < its.toArray.size := by
      have := (List.getElem?_eq_some_iff.mp hu).1
      simpa using this
    have ane : a ≠ it := by
      rintro rfl
      obtain ⟨o1, h1, h2, _⟩ := hit
      obtain ⟨o2, h3, h4, _⟩ := pt
      rw [h1] at h3
      cases h3
      rw [h2] at h4
      simp at h4
    have aee : a ≠ e := by
      rintro rfl
      obtain ⟨o2, h3, h4, _⟩ := pt
      have h1 : s.heap.get? a = some _ := he
      rw [h1] at h3
      cases h3
      simp at h4
    have le : e < s.heap.objs.size := Heap.lt_size he
    have li : it < s.heap.objs.size := by
      obtain ⟨_, q, _⟩ := hit
      exact Heap.lt_size q
    have D := Draws.tuple (prog := X.prog) (w := X.w) (A := X.A.in1) (show X.A.in1.handled = none from I.ok.hd hc) it a ane its.toArray
    refine wpAny_pyNext_enum_itemD D he ⟨hit, pt⟩ hi hne (fun z => ?_) fun y h' tk hy ho hst hT hsz hk => ?_
    · rcases List.mem_cons.mp z with z | z
      · exact hne z
      · exact aee (List.mem_singleton.mp z).symm
    · have ey : y = u := by
        have z : its.toArray[i]? = some u := by simpa using hu
        exact Option.some.inj (hy.symm.trans z)
      subst ey
      refine ⟨_, rfl, wpAny_letOwnedTupleGo_enum (s := { s with heap := h', toks := tk + 1 }) ho fun h2 he2 sb => ?_⟩
      have hT2 : h2.get? s.heap.objs.size = some { cls := .type "tuple", data := .seq #[.int i tk, y] } := (sb.2 _ (Nat.ne_of_gt le)).trans hT
      have new : ObjOk X.prog X.w (upd H s.heap.objs.size (.tup [.int (i : Nat), x])) h2 s.heap.objs.size (.tup [.int (i : Nat), x]) :=
        ⟨(by show 2 ≤ sizeLine; decide), [.int i tk, y], .cons ⟨_, rfl⟩ (.cons ru .nil), ⟨_, hT2, rfl, _, rfl⟩⟩
      have I1 := I.turnedNew (t' := tk + 1) (ch := [e, it]) (h' := h2) (fun b o hb q => (sb.2 b (fun z => hb (by simp [z]))).trans (hk b o (fun z => hb (by simp [z])) (fun z => hb (by simp [z])) q)) hf (Nat.le_refl _) new
      refine ⟨.ref s.heap.objs.size, _, I1, rfl, ⟨_, x, rfl, I.hok.fresh (Nat.le_refl _), rfl, fun ys hy => by rw [I.tuple_inj hy hq]; exact hx⟩, ⟨⟨y, ?_⟩, ?_, hne⟩, fun b hb => ?_⟩
      · have e1 : ((i + 1 : Nat) : Int) = (i : Int) + 1 := by omega
        rw [e1]
        exact he2
      · obtain ⟨o, q1, q2⟩ := hst.1
        exact ⟨o, (sb.2 it (Ne.symm hne)).trans q1, q2⟩
      · have lb : b < s.heap.objs.size := by
          rcases two hb with rfl | rfl
          · exact le
          · exact li
        rw [upd_ne (Nat.ne_of_lt lb)]
        exact (hf b hb).1
  case done =>
    rintro X rfl rfl rfl hc i pins s σ H E I hf ⟨⟨old, he⟩, hit, hne⟩ ⟨xs, hq, hx⟩
    obtain ⟨its, rv, p, hz⟩ := I.tuple hq
    have pt : s.heap.IsTuple a its.toArray := let ⟨o, h1, h2, n, h3⟩ := p; ⟨o, h1, h2, n, h3⟩
    have ane : a ≠ it := by
      rintro rfl
      obtain ⟨o1, h1, h2, _⟩ := hit
      obtain ⟨o2, h3, h4, _⟩ := pt
      rw [h1] at h3
      cases h3
      rw [h2] at h4
      simp at h4
    obtain ⟨f0, f1, f2, f3, f4, f5⟩ := hf it (by simp)
    have hl := rv.length
    -- at the end the place is not told by Draws (it stands at any i ≥ the size): the library's end of a tuple's iterator
    have D : Draws X.prog X.w X.A.in1 it [it, a] i (fun _ _ => False) (fun j h => j = i ∧ h.IsTupleIter it a i ∧ h.IsTuple a its.toArray) := by
      constructor
      case live => rintro j h ⟨_, ⟨o, ho, _⟩, _⟩; exact ⟨o, ho⟩
      case frame => rintro j h h' ⟨ej, st1, st2⟩ hk; exact ⟨ej, st1.at fun o e => hk it (by simp) o e, st2.at fun o e => hk a (by simp) o e⟩
      case item => rintro j s Q E hj ⟨ej, _⟩ _; exact absurd hj (by omega)
      case done => rintro s Q E ⟨_, st1, st2⟩ hE; exact wpAny_nextOf_tuple_end (show X.A.in1.handled = none from I.ok.hd hc) st1 st2 (by simp; omega) hE
    exact wpAny_pyNext_enum_endD D he ⟨rfl, hit, pt⟩ fun h' eb => ⟨rfl, I.turned (t' := s.toks) (fun b o hb q => eb b o hb q) f0 f1 f3 f4 f5⟩
def iEnumT (K : PySem.W.Frag) (ta : TA) : TI := fun σ H R => ta σ H fun vs H1 => ∃ a xs, vs = [.ref a] ∧ SqT K H1 a xs ∧ R (IteT K a) H1
theorem pi_enumT {X : Cx} {e : Expr} {ta : TA} {p pos tp : Pos} {elts : List Expr} {kk : Nat} (hg : Gl X "enumerate") (hm : X.mg "enumerate" = none) (ha : PA X [e] ta) (hs : starEach [e] X.env = [(false, eval e X.env)] := by rfl) :
    PI X (.Tuple elts kk tp) (.Call (.Name "enumerate" p) [e] [] pos) (iEnumT X.K ta) := by
  refine ⟨fun pins s σ H R I h => Call_ (ld_blt I hg hm boot_enumerate (PyProof.Rows.callWith_type1 (thn (ha.run pos pins s σ H _ I h) ?_) hs rfl))⟩
  rintro us s1 ⟨vs, H1, I1, r1, a, xs, rfl, hq, q⟩
  cases r1 with
  | cons r rr =>
    cases rr
    cases r
    obtain ⟨its, rv, p, hz⟩ := I1.tuple hq
    have pt : s1.heap.IsTuple a its.toArray := let ⟨o, h1, h2, n, h3⟩ := p; ⟨o, h1, h2, n, h3⟩
    refine call_enum_tuple pt fun h' he hit hk => wpAny_pyIter_enum he ?_
    have I2 : Inv X pins σ H1 { s1 with heap := h' } := I1.kept (t' := s1.toks) hk
    refine ⟨s1.heap.objs.size + 1, [s1.heap.objs.size + 1, s1.heap.objs.size], _, _, H1, rfl, I2, turn_enumT a (s1.heap.objs.size + 1) s1.heap.objs.size, ⟨⟨.none, he⟩, hit, Nat.succ_ne_self _⟩, fun b hb => ?_, q⟩
    have lb : s1.heap.objs.size ≤ b := by
      have e' : b = s1.heap.objs.size + 1 ∨ b = s1.heap.objs.size := by simpa using hb
      rcases e' with z | z
      · rw [z]; exact Nat.le_add_right _ _
      · rw [z]; exact Nat.le_refl _
    exact I1.fpOk lb (I1.hok.fresh lb)
theorem walk_enumT {K : PySem.W.Frag} {a : Addr} {xs : List V} : Walk (IteT K a) xs.length (fun H => SqT K H a xs) (YPair (fun i => some (.int (i : Nat))) (fun i => xs[i]?)) := by
  refine ⟨fun i _ hi q => ⟨xs, xs[i], q, by simp [hi]⟩, fun _ q => ⟨xs, q, Nat.le_refl _⟩, ?_⟩
  rintro i H v H' _ q ⟨T, x, h1, h2, h3, h4⟩
  exact ⟨T, .int (i : Nat), x, h1, h2, h3, rfl, h4 xs q⟩
/-- a dict comprehension over a walk -/
theorem dc_it {J : It} {n : Nat} {G : Hp → Prop} {Y : Nat → Hp → V → Hp → Prop} (w : Walk J n G Y) {g : TG} {tt : TT} {tk tv : TE} {vs : List Nat} {σ : L2.St} {H1 : Hp} {D : Addr} {Qd : Hp → Prop} (Pv : Nat → Hp → Prop) (h0 : Pv 0 (upd H1 D (.dK [])))
    (hG : ∀ i H, i ≤ n → Pv i H → G H)
    (hs : ∀ i x H H', i < n → Pv i H → Y i H x H' → g x (wipe σ vs) H' fun σ2 H2 => wipe σ2 vs = wipe σ vs ∧ tt σ2 H2 fun b H3 =>
      if b = true then tk σ2 H3 fun y H4 => tv σ2 H4 fun z H5 => ∃ kvs k, y = kV k ∧ H5 D = some (.dK kvs) ∧ kvs.length < sizeLine ∧ Pv (i + 1) (upd H5 D (.dK (putK kvs k z))) else Pv (i + 1) H3) (hd : ∀ H, Pv n H → Qd H) :
    ∃ W : Nat → Nat → Hp → Prop, (∃ m, W 0 m (upd H1 D (.dK []))) ∧ ∀ i m H, W i m H →
      (J.stop i H ∧ Qd H) ∨ (J.go i H ∧ ∃ Nx : Hp → Prop, (∀ H', Nx H' → ∃ m', m' < m ∧ W (i + 1) m' H') ∧ ∀ x H', J.yld i H x H' → g x (wipe σ vs) H' fun σ2 H2 => wipe σ2 vs = wipe σ vs ∧ tt σ2 H2 fun b H3 =>
        if b = true then tk σ2 H3 fun y H4 => tv σ2 H4 fun z H5 => ∃ kvs k, y = kV k ∧ H5 D = some (.dK kvs) ∧ kvs.length < sizeLine ∧ Nx (upd H5 D (.dK (putK kvs k z))) else Nx H3) := by
  refine ⟨fun i m H => i + m = n ∧ Pv i H, ⟨n, by simp, h0⟩, ?_⟩
  rintro i m H ⟨ei, p⟩
  have g1 := hG i H (by omega) p
  cases m with
  | zero =>
    have e : i = n := by omega
    subst e
    exact .inl ⟨w.stops H g1, hd H p⟩
  | succ m =>
    refine .inr ⟨w.goes i H (by omega) g1, Pv (i + 1), fun H' q => ⟨m, Nat.lt_succ_self m, by omega, q⟩, fun x H' y => hs i x H H' (by omega) p (w.yields i H x H' (by omega) g1 y)⟩
end My

set_option maxRecDepth 100000
set_option maxHeartbeats 4000000
namespace K8
open PySem PySem.Spec PyProof.Rows L2 GxR Gd TL My
/-! ### a line in the heap -/
def lf (p1 p2 p3 d : Addr) : List (Str × V) := putF "_numbers" (.ref d) (putF "_longs" (.ref p3) (putF "_stretches" (.ref p2) (putF "_places" (.ref p1) [])))
theorem lf_get (p1 p2 p3 d : Addr) (g : Str) : (lf p1 p2 p3 d).lookup g = if g = "_numbers" then some (.ref d) else if g = "_longs" then some (.ref p3) else if g = "_stretches" then some (.ref p2) else if g = "_places" then some (.ref p1) else none := by
  unfold lf
  rw [lookup_putF, lookup_putF, lookup_putF, lookup_putF]
  rfl
def posOf (ps : List (Str × Int)) (z : Str) : Option Nat := ps.findIdx? fun p => decide (p.1 = z)
/-- what stands in the dict of numbers -/
def NumsAt (H : Hp) (d : Addr) (ps : List (Str × Int)) : Prop := ∃ kvs : List (Key × V), H d = some (.dK kvs) ∧ kvs.length ≤ ps.length ∧ ∀ z, valV kvs (Sum.inr z) = (posOf ps z).map fun j => V.int (j : Nat)
structure LineAt (K : PySem.W.Frag) (C : Addr) (w : Wd) (H : Hp) (x : Addr) : Prop where
  ex : ∃ dx p1 p2 p3 d xs1 xs2 xs3, H x = some (.ins C dx (lf p1 p2 p3 d)) ∧ SqT K H p1 xs1 ∧ DpAll K H xs1 (w.ps.map dP) ∧ SqT K H p2 xs2 ∧ DpAll K H xs2 (w.st.map dP) ∧ SqT K H p3 xs3 ∧ DpAll K H xs3 (w.lo.map dL) ∧ NumsAt H d w.ps
theorem NumsAt.nt {H H' : Hp} {d : Addr} {ps : List (Str × Int)} (e : Nt H H') (h : NumsAt H d ps) : NumsAt H' d ps := by
  obtain ⟨kvs, h1, h2⟩ := h
  exact ⟨kvs, e _ _ (by simp) h1, h2⟩
theorem LineAt.nt {K : PySem.W.Frag} {C : Addr} {w : Wd} {H H' : Hp} {x : Addr} (e : Nt H H') (h : LineAt K C w H x) : LineAt K C w H' x := by
  obtain ⟨dx, p1, p2, p3, d, xs1, xs2, xs3, h1, h2, h3, h4, h5, h6, h7, h8⟩ := h
  exact ⟨dx, p1, p2, p3, d, xs1, xs2, xs3, e _ _ (by simp) h1, e.seqT h2, dpAll_nt e h3, e.seqT h4, dpAll_nt e h5, e.seqT h6, dpAll_nt e h7, h8.nt e⟩
structure ClsT (K : PySem.W.Frag) (C : Addr) : Prop where
  cl : Cls K C
  n1 : NoAttr K C "_places"
  n2 : NoAttr K C "_stretches"
  n3 : NoAttr K C "_longs"
  n4 : NoAttr K C "_numbers"
theorem tup_of {K : PySem.W.Frag} {H : Hp} {a : Addr} {xs : List V} {G : VK} (h : SqX K H a xs) (k : ∀ p H', Same H H' → SqT K H' p xs → G (.ref p) H') :
    ∃ p ys, [V.ref a] = [V.ref p] ∧ ((SqL K H p ys ∧ ∀ l, H l = none → G (.ref l) (upd H l (.tup ys))) ∨ (SqT K H p ys ∧ G (.ref p) H)) := by
  rcases h with h | h
  · exact ⟨a, xs, rfl, .inl ⟨h, fun l hl => k l _ (same_alloc hl) (SqT.of upd_same)⟩⟩
  · exact ⟨a, xs, rfl, .inr ⟨h, k a H (Same.refl H) h⟩⟩
/-- lists and tuples stay -/
def Ls (H H' : Hp) : Prop := ∀ c o, (∀ ps, o ≠ .tbl ps) → (∀ C d fs, o ≠ .ins C d fs) → H c = some o → H' c = some o
theorem Ls.trans {H H1 H2 : Hp} (a : Ls H H1) (b : Ls H1 H2) : Ls H H2 := fun c o n m h => b c o n m (a c o n m h)
theorem Ls.seq {K : PySem.W.Frag} {H H' : Hp} {a : Addr} {xs : List V} (e : Ls H H') (h : SqL K H a xs) : SqL K H' a xs := by
  rcases h with (h | ⟨o, h⟩) | h
  · exact .inl (.inl (e _ _ (by simp) (by simp) h))
  · exact .inl (.inr ⟨o, e _ _ (by simp) (by simp) h⟩)
  · exact .inr h
theorem Ls.seqT {K : PySem.W.Frag} {H H' : Hp} {a : Addr} {xs : List V} (e : Ls H H') (h : SqT K H a xs) : SqT K H' a xs := by
  rcases h with (h | ⟨o, h⟩) | h
  · exact .inl (.inl (e _ _ (by simp) (by simp) h))
  · exact .inl (.inr ⟨o, e _ _ (by simp) (by simp) h⟩)
  · exact .inr h
theorem Ls.seqX {K : PySem.W.Frag} {H H' : Hp} {a : Addr} {xs : List V} (e : Ls H H') (h : SqX K H a xs) : SqX K H' a xs := h.elim (fun q => .inl (e.seq q)) fun q => .inr (e.seqT q)
section
variable {K : PySem.W.Frag} {H H' : Hp}
mutual
theorem dp_ls (e : Ls H H') : ∀ {v : V} {d : PyData}, Dp K H v d → Dp K H' v d
  | _, _, .non => .non
  | _, _, .bl b => .bl b
  | _, _, .int i => .int i
  | _, _, .str z => .str z
  | _, _, .lst h a => .lst (e.seq h) (dpAll_ls e a)
  | _, _, .tup h a => .tup (e.seqT h) (dpAll_ls e a)
theorem dpAll_ls (e : Ls H H') : ∀ {vs : List V} {ds : List PyData}, DpAll K H vs ds → DpAll K H' vs ds
  | _, _, .nil => .nil
  | _, _, .cons h t => .cons (dp_ls e h) (dpAll_ls e t)
end
end
/-- all but the new line and the table stays -/
structure KI (x Pt : Addr) (H H' : Hp) : Prop where
  keep : ∀ c o, c ≠ x → c ≠ Pt → H c = some o → H' c = some o
  tab : TabG H' Pt
theorem KI.ls {x Pt C dx : Addr} {fs : List (Str × V)} {H H' : Hp} (hx : H x = some (.ins C dx fs)) (t : TabG H Pt) (k : KI x Pt H H') : Ls H H' := fun c o n m h => by
  refine k.keep c o ?_ (ne_tab t h n) h
  rintro rfl
  rw [hx] at h
  exact m _ _ _ (Option.some.inj h).symm
theorem KI.trans {x Pt : Addr} {H H1 H2 : Hp} (a : KI x Pt H H1) (b : KI x Pt H1 H2) : KI x Pt H H2 := ⟨fun c o n1 n2 h => b.keep c o n1 n2 (a.keep c o n1 n2 h), b.tab⟩
theorem KI.of {x Pt : Addr} {H H' : Hp} (k : KT Pt H H') : KI x Pt H H' := ⟨fun c o _ n h => k.keep c o n h, k.tab⟩
theorem KI.same {x Pt : Addr} {H H' : Hp} (t : TabG H Pt) (s : Same H H') : KI x Pt H H' := KI.of (same_kt t s)
theorem KI.put {x Pt : Addr} {H : Hp} {o : HO} (t : TabG H Pt) (n : x ≠ Pt) : KI x Pt H (upd H x o) := by
  obtain ⟨ps, e, ht⟩ := t
  exact ⟨fun c u nx _ h => by rw [upd_ne nx]; exact h, ps, by rw [upd_ne n.symm]; exact e, ht⟩
theorem posOf_nil (z : Str) : posOf [] z = none := rfl
theorem posOf_snoc (ps : List (Str × Int)) (p : Str × Int) (z : Str) (h : p.1 ∉ ps.map (·.1)) : posOf (ps ++ [p]) z = if p.1 = z then some ps.length else posOf ps z := by
  unfold posOf
  rw [List.findIdx?_append]
  by_cases e : p.1 = z
  · rw [if_pos e]
    have n : ps.findIdx? (fun p => decide (p.1 = z)) = none := by
      rw [List.findIdx?_eq_none_iff]
      intro q hq
      have : q.1 ≠ z := fun eq => h (List.mem_map.mpr ⟨q, hq, eq.trans e.symm⟩)
      simpa using this
    rw [n]
    simp [List.findIdx?_cons, e]
  · rw [if_neg e]
    simp [List.findIdx?_cons, e]
theorem same_ls {H H' : Hp} (e : Same H H') : Ls H H' := fun c o _ _ h => e c o h
theorem KB.seq' {D : Addr} {H H' : Hp} (n : H D = none) (k : KB D H H') : Ls H H' := fun c o _ _ h => k c o (fun e => by rw [e, n] at h; cases h) h
section
variable {P : Program} {w : World} {K : PySem.W.Frag} {mg : Str → Option Value} {base : Heap}
abbrev s_init : Stmt := inClass (top 28) 0
theorem sc_init : FnScope ["self", "places", "stretches", "longs", "top", "rows", "number", "name", "_"] ["self", "places", "stretches", "longs"] (defScope s_init) := ⟨rfl, rfl, rfl, by decide +kernel, rfl, by decide +kernel, by decide +kernel⟩
/-- a def that may have defaults -/
structure FunV (K : PySem.W.Frag) (x qual : Str) (st : Stmt) (f : Addr) (fd : FuncData) : Prop where
  ex : ∃ (oc : Value) (od : Option Addr) (dV kV doc pm : Value) (an : Option Addr) (cdv ct : Value) (osl : Array (Option Value)),
    fd = PySem.W.fnOf x qual (defArgs st) (defBody st) (defScope st) dV kV doc pm an cdv ct ∧ K.lookup f = some ⟨oc, od, .func fd, osl⟩ ∧ PySem.W.codeIn K cdv qual = true
theorem FunV.ok {x qual : Str} {st : Stmt} {f : Addr} {fd : FuncData} {N ps : List Str} {k : Nat} {sp : Sp} (F : FunV K x qual st f fd) (S : FnScope N ps (defScope st)) (len : ∀ vs H Q E, sp vs H Q E → vs.length = ps.length)
    (hbody : ∀ (cdv : Value) (A : Around) (outer : List Env) (s : Shared) (H : Hp) (vs : List V) (Q : VK) (E : XK), Room k (A.deeper (envOfC qual (defScope st) s.heap.objs.size f cdv)) → sp vs H Q E →
      ∃ t, PSs (cxOf CX0 P w K mg base N qual (defScope st) f cdv A outer s H E).nox (defBody st) t ∧ t { nx := fun _ H' => Q .non H', rt := Q } (start N vs) H) : FnOk P w K mg base CX0 (k + 1) f fd ps sp := by
  obtain ⟨oc, od, dV, kV, doc, pm, an, cdv, ct, osl, rfl, lk, hcd⟩ := F.ex
  refine fn_of lk hcd S len fun A outer s H vs Q E hr hsp => ?_
  obtain ⟨t, h, q⟩ := hbody cdv A outer s H vs Q E hr hsp
  exact ⟨t, h.nox, q⟩
/-- what is handed in where longs stand -/
def LongsIn (K : PySem.W.Frag) (H : Hp) (v : V) (lo : List (Int × Int × Int)) : Prop := (v = .non ∧ lo = []) ∨ ∃ a xs, v = .ref a ∧ SqX K H a xs ∧ DpAll K H xs (lo.map dL)
/-- the line's own dict is new -/
def NewD (H H' : Hp) (x : Addr) : Prop := ∀ C dx fs d, H' x = some (.ins C dx fs) → fs.lookup (Str.ofString "_numbers") = some (V.ref d) → H d = none
theorem KI.none {x Pt D : Addr} {H H' : Hp} (k : KI x Pt H H') (hx : H' x ≠ none) (h : H' D = none) : H D = none := by
  cases e : H D with
  | none => rfl
  | some o =>
    have h1 : D ≠ x := fun q => hx (q ▸ h)
    have h2 : D ≠ Pt := fun q => by
      obtain ⟨ps, z, _⟩ := k.tab
      rw [← q, h] at z
      cases z
    have := k.keep D o h1 h2 e
    rw [h] at this
    cases this
theorem newD {x Pt C dx p1 p2 p3 D : Addr} {H HA H' : Hp} {o : HO} (k : KI x Pt H HA) (hx : HA x = some o) (h : HA D = none) : NewD H (upd H' x (.ins C dx (lf p1 p2 p3 D))) x := by
  intro C' dx' fs d e l
  rw [upd_same] at e
  injection Option.some.inj e with e1 e2 e3
  subst e3
  rw [lf_get, if_pos rfl] at l
  obtain rfl := V.ref.inj (Option.some.inj l)
  exact k.none (by rw [hx]; simp) h
def spInit (K : PySem.W.Frag) (C Pt : Addr) : Sp := fun vs H Q _ => ∃ (x dx a1 a2 : Addr) (v3 : V) (xs1 xs2 : List V) (wd : Wd), vs = [.ref x, .ref a1, .ref a2, v3] ∧ H x = some (.ins C dx []) ∧
  SqX K H a1 xs1 ∧ DpAll K H xs1 (wd.ps.map dP) ∧ SqX K H a2 xs2 ∧ DpAll K H xs2 (wd.st.map dP) ∧ LongsIn K H v3 wd.lo ∧ wd.Ok ∧ TabG H Pt ∧
  ∀ H', KI x Pt H H' → LineAt K C wd H' x → NewD H H' x → Q .non H'
theorem rows_read {σ : L2.St} {H : Hp} {v : V} {lo : List (Int × Int × Int)} {G : VK} (hv : σ[3]? = some (some v)) (hL : LongsIn K H v lo)
    (k : ∀ a xs H', Same H H' → SqX K H' a xs → DpAll K H' xs (lo.map dL) → G (.ref a) H') :
    tIf (tTest (tOp (fun x y H Q => y = V.non ∧ Q (V.bl (decide (x = V.non))) H) (tVar 3) (tC V.non))) (tTup tNil) (tVar 3) σ H G := by
  refine ⟨v, hv, rfl, _, rfl, ?_⟩
  rcases hL with ⟨rfl, rfl⟩ | ⟨a, xs, rfl, h1, h2⟩
  · refine iteT ⟨Nat.zero_le _, fun p hp => ?_⟩
    exact k p [] _ (same_alloc hp) (.inr (SqT.of upd_same)) .nil
  · have e : decide (V.ref a = V.non) = false := decide_eq_false (by simp)
    rw [e]
    exact iteF ⟨_, hv, k a xs H (Same.refl H) h1 h2⟩
theorem tup_read {σ : L2.St} {H : Hp} {i : Nat} {a : Addr} {xs : List V} {G : VK} (hv : σ[i]? = some (some (.ref a))) (h : SqX K H a xs) (k : ∀ p H', Same H H' → SqT K H' p xs → G (.ref p) H') :
    tCB (fun xs H Q => ∃ p ys, xs = [V.ref p] ∧ ((SqL K H p ys ∧ ∀ l, H l = none → Q (.ref l) (upd H l (.tup ys))) ∨ (SqT K H p ys ∧ Q (.ref p) H))) (tCons (tVar i) tNil) σ H G := by
  refine ⟨_, hv, a, xs, rfl, ?_⟩
  rcases h with h | h
  · exact .inl ⟨h, fun l hl => k l _ (same_alloc hl) (SqT.of upd_same)⟩
  · exact .inr ⟨h, k a H (Same.refl H) h⟩
theorem fld_read {D : Ends} {σ : L2.St} {H : Hp} {i : Nat} {a x C dx : Addr} {xs : List V} {f : Str} {fs : List (Str × V)} (h0 : σ[0]? = some (some (.ref x))) (hv : σ[i]? = some (some (.ref a))) (hx : H x = some (.ins C dx fs)) (c : Cls K C) (n : NoAttr K C f) (l : fs.length < 1000)
    (h : SqX K H a xs) (k : ∀ p H', Same H H' → SqT K H' p xs → D.nx σ (upd H' x (.ins C dx (putF f (.ref p) fs)))) :
    sFld K (tVar 0) (tCB (fun xs H Q => ∃ p ys, xs = [V.ref p] ∧ ((SqL K H p ys ∧ ∀ l, H l = none → Q (.ref l) (upd H l (.tup ys))) ∨ (SqT K H p ys ∧ Q (.ref p) H))) (tCons (tVar i) tNil)) f D σ H :=
  tup_read hv h fun p H' s hp => ⟨_, h0, x, C, dx, fs, rfl, s _ _ hx, c, n, l, k p H' s hp⟩
theorem LongsIn.ls {H H' : Hp} {v : V} {lo : List (Int × Int × Int)} (e : Ls H H') (h : LongsIn K H v lo) : LongsIn K H' v lo := by
  rcases h with ⟨rfl, rfl⟩ | ⟨a, xs, rfl, h1, h2⟩
  · exact .inl ⟨rfl, rfl⟩
  · exact .inr ⟨a, xs, rfl, e.seqX h1, dpAll_ls e h2⟩
theorem ok_init {f fP fS fL C Pt : Addr} {fd fdP fdS fdL : FuncData} (F : FunV K "__init__" "Line.__init__" s_init f fd) (T : Txt mg) (TC : ClsT K C)
    (Ncheck_places : Fn K mg "_check_places" s_check_places ["places"] fP fdP) (Gcheck_places : FnOk P w K mg base CX0 4 fP fdP ["places"] (spCheckPlaces K Pt))
    (Ncheck_stretches : Fn K mg "_check_stretches" s_check_stretches ["stretches", "many"] fS fdS) (Gcheck_stretches : FnOk P w K mg base CX0 3 fS fdS ["stretches", "many"] (spCheckStretches K))
    (Ncheck_longs : Fn K mg "_check_longs" s_check_longs ["longs", "top"] fL fdL) (Gcheck_longs : FnOk P w K mg base CX0 3 fL fdL ["longs", "top"] (spCheckLongs K)) :
    FnOk P w K mg base CX0 5 f fd ["self", "places", "stretches", "longs"] (spInit K C Pt) := by
  refine F.ok sc_init (fun vs H Q E h => ?_) (fun cdv A outer s H vs Q E hr h => ?_)
  · obtain ⟨x, dx, a1, a2, v3, xs1, xs2, wd, rfl, _⟩ := h
    rfl
  · obtain ⟨x, dx, a1, a2, v3, xs1, xs2, wd, rfl, hx, hX1, hd1, hX2, hd2, hX3, ok, tb, k⟩ := h
    have nxP : x ≠ Pt := ne_tab tb hx (by simp)
    have ok' := ok
    have l1 : xs1.length = wd.ps.length := by rw [dpAll_len hd1, List.length_map]
    rcases id hX1 with hL | hT
    · skip
      refine ⟨_, pss_cons (ps_expr (pe_call Gcheck_places (hr.mono (by decide)) (by rfl) Ncheck_places.g Ncheck_places.kp Ncheck_places.b .nil pass0 (pa_cons (pv 1) pa_nil)))
      (pss_cons (ps_set (i := 4) sc_init.nd rfl (Or.inl rfl) (pe_op op_sub (pe_callB call_len_seq (by rfl) T.len_ PySem.boot_len (pa_cons (pv 1) pa_nil)) pe_int))
      (pss_cons (ps_expr (pe_call Gcheck_stretches (hr.mono (by decide)) (by rfl) Ncheck_stretches.g Ncheck_stretches.kp Ncheck_stretches.b .nil pass0 (pa_cons (pv 2) (pa_cons (pv 4) pa_nil))))
      (pss_cons (ps_set (i := 5) sc_init.nd rfl (Or.inl rfl) (pe_ifExp (pt_cmpR op_isN (pv 3) pe_non (nomark _)) (pe_tup pa_nil) (pv 3)))
      (pss_cons (ps_expr (pe_call Gcheck_longs (hr.mono (by decide)) (by rfl) Ncheck_longs.g Ncheck_longs.kp Ncheck_longs.b .nil pass0 (pa_cons (pv 5) (pa_cons (pv 4) pa_nil))))
      (pss_cons (ps_fld (pv 0) (pe_callTy call_tuple_of (by rfl) T.tuple_ (by decide +kernel) (pa_cons (pv 1) pa_nil)) rfl)
      (pss_cons (ps_fld (pv 0) (pe_callTy call_tuple_of (by rfl) T.tuple_ (by decide +kernel) (pa_cons (pv 2) pa_nil)) rfl)
      (pss_cons (ps_fld (pv 0) (pe_callTy call_tuple_of (by rfl) T.tuple_ (by decide +kernel) (pa_cons (pv 5) pa_nil)) rfl)
      (pss_one (ps_fld (pv 0) (pe_dc (own := [("number", 6), ("name", 7), ("_", 8)]) (g := gTup K 2 (gCons (gName 6) (gCons (gTup K 2 (gCons (gName 7) (gCons (gName 8) gNil))) gNil))) (tt := tYes) rfl sc_init.nd (pi_enum (by rfl) T.enumerate_ (pa_cons (pv 1) pa_nil)) (blkOk_by (own := [("number", 6), ("name", 7), ("_", 8)]) (N := ["self", "places", "stretches", "longs", "top", "rows", "number", "name", "_"]) (sc := defScope s_init) (by decide +kernel)) (fun _ _ _ _ _ => (pg_tup (by rfl) (pgs_cons (pg_name (i := 6) sc_init.nd rfl (Or.inl rfl)) (pgs_cons (pg_tup (by rfl) (pgs_cons (pg_name (i := 7) sc_init.nd rfl (Or.inl rfl)) (pgs_cons (pg_name (i := 8) sc_init.nd rfl (Or.inl rfl)) pgs_nil))) pgs_nil)))) (fun _ _ _ _ _ => pts_nil) (fun _ _ _ _ _ => pv 7) (fun _ _ _ _ _ => pv 6)) rfl))))))))), ?_⟩
      refine ⟨_, rfl, a1, xs1, wd.ps, rfl, hX1, hd1, ok.p2, ok.p6, ok.nm, ok.nd, tb, fun H1 k1 => ?_⟩
      have i1 : KI x Pt H H1 := KI.of k1
      have e1 := i1.ls hx tb
      have hx1 := KT.nt tb k1 x _ (by simp) hx
      refine ⟨_, rfl, a1, xs1, rfl, e1.seqX hX1, _, _, rfl, rfl, ?_⟩
      refine ⟨_, rfl, _, rfl, a2, _, xs2, wd.st, rfl, e1.seqX hX2, dpAll_ls e1 hd2, (by have := ok.sl; omega), ok.st, fun H2 s2 => ?_⟩
      have i2 := i1.trans (KI.same (x := x) i1.tab s2)
      have e2 := i2.ls hx tb
      refine rows_read (σ := _) rfl (hX3.ls e2) (fun a3 xs3 H3 s3 hX3' hd3' => ?_)
      have i3 := i2.trans (KI.same (x := x) i2.tab s3)
      refine ⟨_, rfl, _, rfl, a3, _, xs3, wd.lo, rfl, hX3', hd3', ok.ll, (by have q := ok.lo; rw [show ((xs1.length : Int) - 1) = ((wd.ps.length - 1 : Nat) : Int) by have := ok.p2; omega]; exact q), fun H4 s4 => ?_⟩
      have i4 := i3.trans (KI.same (x := x) i3.tab s4)
      have e4 := i4.ls hx tb
      have hx4 := s4 _ _ (s3 _ _ (s2 _ _ hx1))
      refine fld_read (i := 1) rfl rfl hx4 TC.cl TC.n1 (by decide) (e4.seqX hX1) (fun p1 H5 s5 hp1 => ?_)
      have j5 := i4.trans (KI.same (x := x) i4.tab s5)
      have i6 := j5.trans (KI.put (o := .ins C dx (putF "_places" (.ref p1) [])) j5.tab nxP)
      have hx6 : (upd H5 x (.ins C dx (putF "_places" (.ref p1) []))) x = some (.ins C dx (putF "_places" (.ref p1) [])) := upd_same
      have u6 : Ls H5 (upd H5 x (.ins C dx (putF "_places" (.ref p1) []))) := (KI.put j5.tab nxP).ls (s5 _ _ hx4) j5.tab
      generalize upd H5 x (.ins C dx (putF "_places" (.ref p1) [])) = H6 at i6 hx6 u6 ⊢
      have e6 := i6.ls hx tb
      refine fld_read (i := 2) rfl rfl hx6 TC.cl TC.n2 (Nat.lt_of_le_of_lt (length_putF _ _ _) (by decide)) (e6.seqX hX2) (fun p2 H7 s7 hp2 => ?_)
      have j7 := i6.trans (KI.same (x := x) i6.tab s7)
      have i8 := j7.trans (KI.put (o := .ins C dx (putF "_stretches" (.ref p2) (putF "_places" (.ref p1) []))) j7.tab nxP)
      have hx8 : (upd H7 x (.ins C dx (putF "_stretches" (.ref p2) (putF "_places" (.ref p1) [])))) x = some (.ins C dx (putF "_stretches" (.ref p2) (putF "_places" (.ref p1) []))) := upd_same
      have u8 : Ls H7 (upd H7 x (.ins C dx (putF "_stretches" (.ref p2) (putF "_places" (.ref p1) [])))) := (KI.put j7.tab nxP).ls (s7 _ _ hx6) j7.tab
      generalize upd H7 x (.ins C dx (putF "_stretches" (.ref p2) (putF "_places" (.ref p1) []))) = H8 at i8 hx8 u8 ⊢
      have e8 := i8.ls hx tb
      have lf8 : (putF "_stretches" (.ref p2) (putF "_places" (.ref p1) [])).length ≤ 2 := Nat.le_trans (length_putF _ _ _) (Nat.succ_le_succ (length_putF _ _ _))
      have e34 : Ls H3 H8 := (((((same_ls s4).trans (same_ls s5)).trans u6).trans (same_ls s7)).trans u8)
      refine fld_read (i := 5) rfl rfl hx8 TC.cl TC.n3 (Nat.lt_of_le_of_lt lf8 (by decide)) (e34.seqX hX3') (fun p3 H9 s9 hp3 => ?_)
      have j9 := i8.trans (KI.same (x := x) i8.tab s9)
      have iA := j9.trans (KI.put (o := .ins C dx (putF "_longs" (.ref p3) (putF "_stretches" (.ref p2) (putF "_places" (.ref p1) [])))) j9.tab nxP)
      have hxA : (upd H9 x (.ins C dx (putF "_longs" (.ref p3) (putF "_stretches" (.ref p2) (putF "_places" (.ref p1) []))))) x = some (.ins C dx (putF "_longs" (.ref p3) (putF "_stretches" (.ref p2) (putF "_places" (.ref p1) [])))) := upd_same
      have uA : Ls H9 (upd H9 x (.ins C dx (putF "_longs" (.ref p3) (putF "_stretches" (.ref p2) (putF "_places" (.ref p1) []))))) := (KI.put j9.tab nxP).ls (s9 _ _ hx8) j9.tab
      generalize upd H9 x (.ins C dx (putF "_longs" (.ref p3) (putF "_stretches" (.ref p2) (putF "_places" (.ref p1) [])))) = HA at iA hxA uA ⊢
      have eA := iA.ls hx tb
      have hp1A : SqT K HA p1 xs1 := uA.seqT ((same_ls s9).seqT (u8.seqT ((same_ls s7).seqT (u6.seqT hp1))))
      have hp2A : SqT K HA p2 xs2 := uA.seqT ((same_ls s9).seqT (u8.seqT hp2))
      have hp3A : SqT K HA p3 xs3 := uA.seqT hp3
      have hd3A := dpAll_ls (e34.trans ((same_ls s9).trans uA)) hd3'
      have hd1A := dpAll_ls eA hd1
      have hd2A := dpAll_ls eA hd2
      refine ⟨_, rfl, a1, xs1, rfl, eA.seq hL, fun D hD => dc_it (walk_enum (K := K) (xs := xs1)) (fun i H' => KB D HA H' ∧ ∃ kvs : List (Key × V), H' D = some (.dK kvs) ∧ kvs.length ≤ i ∧ ∀ z, valV kvs (Sum.inr z) = (posOf (wd.ps.take i) z).map fun j => V.int (j : Nat)) ?_ ?_ ?_ ?_⟩
      · exact ⟨KB.alloc hD, [], upd_same, Nat.zero_le _, fun z => rfl⟩
      · rintro i H' hi ⟨kb, _⟩
        exact (KB.seq' hD kb).seq (eA.seq hL)
      · rintro i v H' H'' hi ⟨kb, kvs, hk1, hk2, hk3⟩ ⟨T1, X, Y, rfl, hT1, rfl, q1, q2⟩
        obtain rfl := Option.some.inj q1
        obtain ⟨d, hg1, hg2⟩ := dpAll_get hd1A q2
        obtain ⟨p, hp, rfl⟩ := get_map hg1
        obtain ⟨t, x1, x2, rfl, ht, r1, r2⟩ := dp_two hg2
        obtain rfl := dp_str r1
        obtain rfl := dp_int r2
        have nD : D ≠ T1 := fun e => by rw [← e, hk1] at hT1; cases hT1
        have ht1 : SqT K (upd H' T1 (.tup [.int (i : Nat), .ref t])) t [.str p.1, .int p.2] := (same_ls (same_alloc hT1)).seqT ((KB.seq' hD kb).seqT ht)
        refine ⟨T1, _, rfl, SqT.of upd_same, rfl, _, _, rfl, _, _, rfl, t, _, rfl, ht1, rfl, _, _, rfl, _, _, rfl, rfl, rfl, rfl, ?_⟩
        refine lcY ⟨_, rfl, _, rfl, kvs, Sum.inr p.1, rfl, by rw [upd_ne nD]; exact hk1, (by show kvs.length < sizeLine; have := ok.p6; exact Nat.lt_of_le_of_lt hk2 (Nat.lt_trans (Nat.lt_of_lt_of_le hi (by omega : xs1.length ≤ 6)) (by decide))), ?_⟩
        refine ⟨fun c o n h => by rw [upd_ne n]; exact (same_alloc hT1) _ _ (kb c o n h), _, upd_same, Nat.le_trans (length_putK _ _ _) (Nat.succ_le_succ hk2), fun z => ?_⟩
        rw [valV_put, take_at hp, posOf_snoc _ _ _ (fresh_name ok.nd hp)]
        have li : (wd.ps.take i).length = i := by rw [List.length_take]; have := (List.getElem?_eq_some_iff.mp hp).1; omega
        by_cases ez : p.1 = z
        · rw [if_pos ez, if_pos (by rw [ez]), li]
          rfl
        · rw [if_neg ez, if_neg (fun e => ez (Sum.inr.inj e).symm)]
          exact hk3 z
      · rintro H' ⟨kb, kvs, hk1, hk2, hk3⟩
        have nxD : x ≠ D := fun e => by rw [← e, hxA] at hD; cases hD
        have sB : Same HA H' := fun c o h => kb c o (fun e => by rw [e, hD] at h; cases h) h
        have jB := iA.trans (KI.same (x := x) iA.tab sB)
        have iB := jB.trans (KI.put (o := .ins C dx (lf p1 p2 p3 D)) jB.tab nxP)
        have uB : Ls H' (upd H' x (.ins C dx (lf p1 p2 p3 D))) := (KI.put jB.tab nxP).ls (sB _ _ hxA) jB.tab
        have eB := (same_ls sB).trans uB
        refine ⟨_, rfl, x, C, dx, _, rfl, sB _ _ hxA, TC.cl, TC.n4, (Nat.lt_of_le_of_lt (Nat.le_trans (length_putF _ _ _) (Nat.succ_le_succ lf8)) (by decide)), k _ iB ⟨dx, p1, p2, p3, D, xs1, xs2, xs3, upd_same, eB.seqT hp1A, dpAll_ls eB hd1A, eB.seqT hp2A, dpAll_ls eB hd2A, eB.seqT hp3A, dpAll_ls eB hd3A, kvs, ?_, ?_, fun z => ?_⟩ (newD iA hxA hD)⟩
        · rw [upd_ne nxD.symm]
          exact hk1
        · omega
        · rw [hk3 z, List.take_of_length_le (by omega)]
    · skip
      refine ⟨_, pss_cons (ps_expr (pe_call Gcheck_places (hr.mono (by decide)) (by rfl) Ncheck_places.g Ncheck_places.kp Ncheck_places.b .nil pass0 (pa_cons (pv 1) pa_nil)))
      (pss_cons (ps_set (i := 4) sc_init.nd rfl (Or.inl rfl) (pe_op op_sub (pe_callB call_len_seq (by rfl) T.len_ PySem.boot_len (pa_cons (pv 1) pa_nil)) pe_int))
      (pss_cons (ps_expr (pe_call Gcheck_stretches (hr.mono (by decide)) (by rfl) Ncheck_stretches.g Ncheck_stretches.kp Ncheck_stretches.b .nil pass0 (pa_cons (pv 2) (pa_cons (pv 4) pa_nil))))
      (pss_cons (ps_set (i := 5) sc_init.nd rfl (Or.inl rfl) (pe_ifExp (pt_cmpR op_isN (pv 3) pe_non (nomark _)) (pe_tup pa_nil) (pv 3)))
      (pss_cons (ps_expr (pe_call Gcheck_longs (hr.mono (by decide)) (by rfl) Ncheck_longs.g Ncheck_longs.kp Ncheck_longs.b .nil pass0 (pa_cons (pv 5) (pa_cons (pv 4) pa_nil))))
      (pss_cons (ps_fld (pv 0) (pe_callTy call_tuple_of (by rfl) T.tuple_ (by decide +kernel) (pa_cons (pv 1) pa_nil)) rfl)
      (pss_cons (ps_fld (pv 0) (pe_callTy call_tuple_of (by rfl) T.tuple_ (by decide +kernel) (pa_cons (pv 2) pa_nil)) rfl)
      (pss_cons (ps_fld (pv 0) (pe_callTy call_tuple_of (by rfl) T.tuple_ (by decide +kernel) (pa_cons (pv 5) pa_nil)) rfl)
      (pss_one (ps_fld (pv 0) (pe_dc (own := [("number", 6), ("name", 7), ("_", 8)]) (g := gTup K 2 (gCons (gName 6) (gCons (gTup K 2 (gCons (gName 7) (gCons (gName 8) gNil))) gNil))) (tt := tYes) rfl sc_init.nd (pi_enumT (by rfl) T.enumerate_ (pa_cons (pv 1) pa_nil)) (blkOk_by (own := [("number", 6), ("name", 7), ("_", 8)]) (N := ["self", "places", "stretches", "longs", "top", "rows", "number", "name", "_"]) (sc := defScope s_init) (by decide +kernel)) (fun _ _ _ _ _ => (pg_tup (by rfl) (pgs_cons (pg_name (i := 6) sc_init.nd rfl (Or.inl rfl)) (pgs_cons (pg_tup (by rfl) (pgs_cons (pg_name (i := 7) sc_init.nd rfl (Or.inl rfl)) (pgs_cons (pg_name (i := 8) sc_init.nd rfl (Or.inl rfl)) pgs_nil))) pgs_nil)))) (fun _ _ _ _ _ => pts_nil) (fun _ _ _ _ _ => pv 7) (fun _ _ _ _ _ => pv 6)) rfl))))))))), ?_⟩
      refine ⟨_, rfl, a1, xs1, wd.ps, rfl, hX1, hd1, ok.p2, ok.p6, ok.nm, ok.nd, tb, fun H1 k1 => ?_⟩
      have i1 : KI x Pt H H1 := KI.of k1
      have e1 := i1.ls hx tb
      have hx1 := KT.nt tb k1 x _ (by simp) hx
      refine ⟨_, rfl, a1, xs1, rfl, e1.seqX hX1, _, _, rfl, rfl, ?_⟩
      refine ⟨_, rfl, _, rfl, a2, _, xs2, wd.st, rfl, e1.seqX hX2, dpAll_ls e1 hd2, (by have := ok.sl; omega), ok.st, fun H2 s2 => ?_⟩
      have i2 := i1.trans (KI.same (x := x) i1.tab s2)
      have e2 := i2.ls hx tb
      refine rows_read (σ := _) rfl (hX3.ls e2) (fun a3 xs3 H3 s3 hX3' hd3' => ?_)
      have i3 := i2.trans (KI.same (x := x) i2.tab s3)
      refine ⟨_, rfl, _, rfl, a3, _, xs3, wd.lo, rfl, hX3', hd3', ok.ll, (by have q := ok.lo; rw [show ((xs1.length : Int) - 1) = ((wd.ps.length - 1 : Nat) : Int) by have := ok.p2; omega]; exact q), fun H4 s4 => ?_⟩
      have i4 := i3.trans (KI.same (x := x) i3.tab s4)
      have e4 := i4.ls hx tb
      have hx4 := s4 _ _ (s3 _ _ (s2 _ _ hx1))
      refine fld_read (i := 1) rfl rfl hx4 TC.cl TC.n1 (by decide) (e4.seqX hX1) (fun p1 H5 s5 hp1 => ?_)
      have j5 := i4.trans (KI.same (x := x) i4.tab s5)
      have i6 := j5.trans (KI.put (o := .ins C dx (putF "_places" (.ref p1) [])) j5.tab nxP)
      have hx6 : (upd H5 x (.ins C dx (putF "_places" (.ref p1) []))) x = some (.ins C dx (putF "_places" (.ref p1) [])) := upd_same
      have u6 : Ls H5 (upd H5 x (.ins C dx (putF "_places" (.ref p1) []))) := (KI.put j5.tab nxP).ls (s5 _ _ hx4) j5.tab
      generalize upd H5 x (.ins C dx (putF "_places" (.ref p1) [])) = H6 at i6 hx6 u6 ⊢
      have e6 := i6.ls hx tb
      refine fld_read (i := 2) rfl rfl hx6 TC.cl TC.n2 (Nat.lt_of_le_of_lt (length_putF _ _ _) (by decide)) (e6.seqX hX2) (fun p2 H7 s7 hp2 => ?_)
      have j7 := i6.trans (KI.same (x := x) i6.tab s7)
      have i8 := j7.trans (KI.put (o := .ins C dx (putF "_stretches" (.ref p2) (putF "_places" (.ref p1) []))) j7.tab nxP)
      have hx8 : (upd H7 x (.ins C dx (putF "_stretches" (.ref p2) (putF "_places" (.ref p1) [])))) x = some (.ins C dx (putF "_stretches" (.ref p2) (putF "_places" (.ref p1) []))) := upd_same
      have u8 : Ls H7 (upd H7 x (.ins C dx (putF "_stretches" (.ref p2) (putF "_places" (.ref p1) [])))) := (KI.put j7.tab nxP).ls (s7 _ _ hx6) j7.tab
      generalize upd H7 x (.ins C dx (putF "_stretches" (.ref p2) (putF "_places" (.ref p1) []))) = H8 at i8 hx8 u8 ⊢
      have e8 := i8.ls hx tb
      have lf8 : (putF "_stretches" (.ref p2) (putF "_places" (.ref p1) [])).length ≤ 2 := Nat.le_trans (length_putF _ _ _) (Nat.succ_le_succ (length_putF _ _ _))
      have e34 : Ls H3 H8 := (((((same_ls s4).trans (same_ls s5)).trans u6).trans (same_ls s7)).trans u8)
      refine fld_read (i := 5) rfl rfl hx8 TC.cl TC.n3 (Nat.lt_of_le_of_lt lf8 (by decide)) (e34.seqX hX3') (fun p3 H9 s9 hp3 => ?_)
      have j9 := i8.trans (KI.same (x := x) i8.tab s9)
      have iA := j9.trans (KI.put (o := .ins C dx (putF "_longs" (.ref p3) (putF "_stretches" (.ref p2) (putF "_places" (.ref p1) [])))) j9.tab nxP)
      have hxA : (upd H9 x (.ins C dx (putF "_longs" (.ref p3) (putF "_stretches" (.ref p2) (putF "_places" (.ref p1) []))))) x = some (.ins C dx (putF "_longs" (.ref p3) (putF "_stretches" (.ref p2) (putF "_places" (.ref p1) [])))) := upd_same
      have uA : Ls H9 (upd H9 x (.ins C dx (putF "_longs" (.ref p3) (putF "_stretches" (.ref p2) (putF "_places" (.ref p1) []))))) := (KI.put j9.tab nxP).ls (s9 _ _ hx8) j9.tab
      generalize upd H9 x (.ins C dx (putF "_longs" (.ref p3) (putF "_stretches" (.ref p2) (putF "_places" (.ref p1) [])))) = HA at iA hxA uA ⊢
      have eA := iA.ls hx tb
      have hp1A : SqT K HA p1 xs1 := uA.seqT ((same_ls s9).seqT (u8.seqT ((same_ls s7).seqT (u6.seqT hp1))))
      have hp2A : SqT K HA p2 xs2 := uA.seqT ((same_ls s9).seqT (u8.seqT hp2))
      have hp3A : SqT K HA p3 xs3 := uA.seqT hp3
      have hd3A := dpAll_ls (e34.trans ((same_ls s9).trans uA)) hd3'
      have hd1A := dpAll_ls eA hd1
      have hd2A := dpAll_ls eA hd2
      refine ⟨_, rfl, a1, xs1, rfl, eA.seqT hT, fun D hD => dc_it (walk_enumT (K := K) (xs := xs1)) (fun i H' => KB D HA H' ∧ ∃ kvs : List (Key × V), H' D = some (.dK kvs) ∧ kvs.length ≤ i ∧ ∀ z, valV kvs (Sum.inr z) = (posOf (wd.ps.take i) z).map fun j => V.int (j : Nat)) ?_ ?_ ?_ ?_⟩
      · exact ⟨KB.alloc hD, [], upd_same, Nat.zero_le _, fun z => rfl⟩
      · rintro i H' hi ⟨kb, _⟩
        exact (KB.seq' hD kb).seqT (eA.seqT hT)
      · rintro i v H' H'' hi ⟨kb, kvs, hk1, hk2, hk3⟩ ⟨T1, X, Y, rfl, hT1, rfl, q1, q2⟩
        obtain rfl := Option.some.inj q1
        obtain ⟨d, hg1, hg2⟩ := dpAll_get hd1A q2
        obtain ⟨p, hp, rfl⟩ := get_map hg1
        obtain ⟨t, x1, x2, rfl, ht, r1, r2⟩ := dp_two hg2
        obtain rfl := dp_str r1
        obtain rfl := dp_int r2
        have nD : D ≠ T1 := fun e => by rw [← e, hk1] at hT1; cases hT1
        have ht1 : SqT K (upd H' T1 (.tup [.int (i : Nat), .ref t])) t [.str p.1, .int p.2] := (same_ls (same_alloc hT1)).seqT ((KB.seq' hD kb).seqT ht)
        refine ⟨T1, _, rfl, SqT.of upd_same, rfl, _, _, rfl, _, _, rfl, t, _, rfl, ht1, rfl, _, _, rfl, _, _, rfl, rfl, rfl, rfl, ?_⟩
        refine lcY ⟨_, rfl, _, rfl, kvs, Sum.inr p.1, rfl, by rw [upd_ne nD]; exact hk1, (by show kvs.length < sizeLine; have := ok.p6; exact Nat.lt_of_le_of_lt hk2 (Nat.lt_trans (Nat.lt_of_lt_of_le hi (by omega : xs1.length ≤ 6)) (by decide))), ?_⟩
        refine ⟨fun c o n h => by rw [upd_ne n]; exact (same_alloc hT1) _ _ (kb c o n h), _, upd_same, Nat.le_trans (length_putK _ _ _) (Nat.succ_le_succ hk2), fun z => ?_⟩
        rw [valV_put, take_at hp, posOf_snoc _ _ _ (fresh_name ok.nd hp)]
        have li : (wd.ps.take i).length = i := by rw [List.length_take]; have := (List.getElem?_eq_some_iff.mp hp).1; omega
        by_cases ez : p.1 = z
        · rw [if_pos ez, if_pos (by rw [ez]), li]
          rfl
        · rw [if_neg ez, if_neg (fun e => ez (Sum.inr.inj e).symm)]
          exact hk3 z
      · rintro H' ⟨kb, kvs, hk1, hk2, hk3⟩
        have nxD : x ≠ D := fun e => by rw [← e, hxA] at hD; cases hD
        have sB : Same HA H' := fun c o h => kb c o (fun e => by rw [e, hD] at h; cases h) h
        have jB := iA.trans (KI.same (x := x) iA.tab sB)
        have iB := jB.trans (KI.put (o := .ins C dx (lf p1 p2 p3 D)) jB.tab nxP)
        have uB : Ls H' (upd H' x (.ins C dx (lf p1 p2 p3 D))) := (KI.put jB.tab nxP).ls (sB _ _ hxA) jB.tab
        have eB := (same_ls sB).trans uB
        refine ⟨_, rfl, x, C, dx, _, rfl, sB _ _ hxA, TC.cl, TC.n4, (Nat.lt_of_le_of_lt (Nat.le_trans (length_putF _ _ _) (Nat.succ_le_succ lf8)) (by decide)), k _ iB ⟨dx, p1, p2, p3, D, xs1, xs2, xs3, upd_same, eB.seqT hp1A, dpAll_ls eB hd1A, eB.seqT hp2A, dpAll_ls eB hd2A, eB.seqT hp3A, dpAll_ls eB hd3A, kvs, ?_, ?_, fun z => ?_⟩ (newD iA hxA hD)⟩
        · rw [upd_ne nxD.symm]
          exact hk1
        · omega
        · rw [hk3 z, List.take_of_length_le (by omega)]
end
end K8

set_option maxRecDepth 100000
set_option maxHeartbeats 4000000
namespace K8
open PySem PySem.Spec PyProof.Rows L2 GxR Gd TL My
structure Mt (K : PySem.W.Frag) (C : Addr) (m q : Str) (st : Stmt) (ps : List Str) (f : Addr) (fd : FuncData) : Prop where
  fn : Fun K m q st f fd
  m : Meth K C m f
  b : Binds K fd ps []
def betw (i j : Nat) : V := if j = i + 1 then .int (i : Nat) else if i = j + 1 then .int (j : Nat) else .non
def lbt (lo : List (Int × Int × Int)) (a b : Int) : V := match lo.findIdx? fun p => decide (p.1 = a) && decide (p.2.1 = b) with
  | some j => .int (j : Nat)
  | none => .non
theorem lf_numbers (p1 p2 p3 d : Addr) : (lf p1 p2 p3 d).lookup (Str.ofString "_numbers") = some (V.ref d) := by rw [lf_get, if_pos rfl]
theorem lf_longs (p1 p2 p3 d : Addr) : (lf p1 p2 p3 d).lookup (Str.ofString "_longs") = some (V.ref p3) := by rw [lf_get, if_neg (by decide +kernel), if_pos rfl]
theorem lf_no (p1 p2 p3 d : Addr) {m : Str} (h : (decide (m = "_numbers") || decide (m = "_longs") || decide (m = "_stretches") || decide (m = "_places")) = false) : (lf p1 p2 p3 d).lookup m = none := by
  rw [lf_get]
  rw [Bool.or_eq_false_iff, Bool.or_eq_false_iff, Bool.or_eq_false_iff, decide_eq_false_iff_not, decide_eq_false_iff_not, decide_eq_false_iff_not, decide_eq_false_iff_not] at h
  obtain ⟨⟨⟨h1, h2⟩, h3⟩, h4⟩ := h
  rw [if_neg h1, if_neg h2, if_neg h3, if_neg h4]
section
variable {P : Program} {w : World} {K : PySem.W.Frag} {mg : Str → Option Value} {base : Heap}
abbrev s_number_of : Stmt := inClass (top 28) 3
theorem sc_number_of : FnScope ["self", "name"] ["self", "name"] (defScope s_number_of) := ⟨rfl, rfl, rfl, by decide +kernel, rfl, by decide +kernel, by decide +kernel⟩
def spNum (K : PySem.W.Frag) (C : Addr) : Sp := fun vs H Q _ => ∃ (x : Addr) (z : Str) (wd : Wd) (j : Nat), vs = [.ref x, .str z] ∧ LineAt K C wd H x ∧ posOf wd.ps z = some j ∧ Q (.int j) H
theorem ok_num {f C : Addr} {fd : FuncData} (F : Fun K "number_of" "Line.number_of" s_number_of f fd) (T : Txt mg) (TC : ClsT K C) : FnOk P w K mg base CX0 1 f fd ["self", "name"] (spNum K C) := by
  refine F.ok sc_number_of (fun vs H Q E h => ?_) (fun cdv A outer s H vs Q E hr h => ?_)
  · obtain ⟨x, z, wd, j, rfl, _⟩ := h
    rfl
  · obtain ⟨x, z, wd, j, rfl, ⟨dx, p1, p2, p3, d, xs1, xs2, xs3, hx, _, _, _, _, _, _, kvs, hk, hl, hv⟩, hj, k⟩ := h
    have hu := hr.units
    have hu1 := Nat.lt_of_le_of_lt (Nat.add_le_add_left (by decide : 1 ≤ 64) _) hu
    refine ⟨_, pss_cons (ps_if (PW.pt (pw_or (pt_not (pt_val (pe_callB call_isi (by rfl) T.isinstance_ (by decide +kernel) (pa_cons (pv 1) (pa_cons (pe_bltn (v := .ty "str") (by rfl) T.str_ (by decide +kernel) rfl) pa_nil))))) (pw_or1 (pt_cmp (pc_dnotin (hu_of hr) (pv 1) (pe_fld (pv 0) rfl)))))) (pss_one ps_never) pss_nil)
      (pss_one (ps_ret (pe_dget (hu_of hr) (pe_fld (pv 0) rfl) (pv 1) (fun _ _ => rfl)))), ?_⟩
    have e := hv z
    rw [hj] at e
    refine ⟨_, rfl, _, _, _, _, true, rfl, .ty "str", .base (.str z), (by rfl), _, rfl, iteF ?_⟩
    refine ⟨_, rfl, _, rfl, x, C, dx, _, _, rfl, hx, TC.cl, TC.n4, lf_numbers _ _ _ _, d, some (.int j), rfl, .inl ⟨kvs, Sum.inr z, Rd.of hk, rfl, e.symm⟩, _, rfl, iteF ?_⟩
    exact ⟨_, rfl, x, C, dx, _, _, rfl, hx, TC.cl, TC.n4, lf_numbers _ _ _ _, _, rfl, d, .int j, rfl, .inl ⟨kvs, Sum.inr z, Rd.of hk, rfl, e.symm⟩, k⟩
end
end K8

set_option maxRecDepth 100000
set_option maxHeartbeats 4000000
/-! the names that a law draws: three ways, all good, all apart -/
namespace My
open PySem PySem.Spec PyProof.Rows L2 GxR Gd TL
theorem tl_inj {a b : Str} (h : tl a = tl b) : a = b := by
  obtain ⟨⟨x⟩⟩ := a
  obtain ⟨⟨y⟩⟩ := b
  have e : x = y := h
  rw [e]
theorem name_of {z : Str} (h1 : 1 ≤ (tl z).length) (h2 : (tl z).length ≤ 6) (h3 : ∀ c ∈ tl z, lc c = true) : NameOk z := by
  rw [tl_len] at h1 h2
  exact ⟨h1, h2, List.all_eq_true.mpr h3⟩
theorem tl_to {z : Str} {j : Nat} (h : j ≤ (tl z).length) : tl (cutS z none (some (j : Int))) = (tl z).take j := by
  show (((tl z).drop (HT.sIx z.length 0 none)).take (HT.sIx z.length z.length (some (j : Int)) - HT.sIx z.length 0 none)) = _
  rw [HT.sIx_none, HT.sIx_nat, ← tl_len, Nat.min_eq_left h]
  simp
theorem tl_cut {z : Str} {a b : Nat} (h : b ≤ (tl z).length) (ha : a ≤ b) : tl (cutS z (some (a : Int)) (some (b : Int))) = ((tl z).drop a).take (b - a) := by
  show (((tl z).drop (HT.sIx z.length 0 (some (a : Int)))).take (HT.sIx z.length z.length (some (b : Int)) - HT.sIx z.length 0 (some (a : Int)))) = _
  rw [HT.sIx_nat, HT.sIx_nat, ← tl_len, Nat.min_eq_left h, Nat.min_eq_left (Nat.le_trans ha h)]
theorem joinL_ones : ∀ cs : List Nat, joinL [] (cs.map fun c => [c]) = cs
  | [] => rfl
  | [c] => rfl
  | c :: d :: r => by
    have ih := joinL_ones (d :: r)
    show [c] ++ ([] ++ joinL [] ((d :: r).map fun c => [c])) = _
    rw [ih]
    rfl
theorem tl_ones (cs : List Nat) : tl (Txt.join (Str.ofString "") (cs.map fun c => ⟨#[c]⟩)) = cs := by
  rw [join_eq, tl_join, List.map_map]
  have e : tl (Str.ofString "") = [] := by decide +kernel
  rw [e]
  exact joinL_ones cs
/-- all good, all apart -/
structure Nms (ns : List Str) : Prop where
  ok : ∀ z ∈ ns, NameOk z
  nd : ns.Nodup
theorem nms_of {f : Nat → Str} {n : Nat} (ok : ∀ k, k < n → NameOk (f k)) (ap : ∀ j k, j < k → k < n → f j ≠ f k) : Nms ((List.range n).map f) := by
  refine ⟨fun z hz => ?_, ?_⟩
  · obtain ⟨k, hk, rfl⟩ := List.mem_map.mp hz
    exact ok k (List.mem_range.mp hk)
  · show ((List.range n).map f).Pairwise (· ≠ ·)
    rw [List.pairwise_map]
    have p : (List.range n).Pairwise (fun a b => a < b) := List.pairwise_lt_range
    refine List.Pairwise.imp_of_mem ?_ p
    intro a b ha hb hab
    exact ap a b hab (List.mem_range.mp hb)
/-! the first way -/
def wds : List Str := ["place", "staff", "ticket", "low", "high", "long", "pilot", "train", "at", "to", "in", "get", "a"]
theorem wds_ok : ∀ z ∈ wds, NameOk z := by
  intro z hz
  have h : (wds.all fun z => decide (1 ≤ (tl z).length) && decide ((tl z).length ≤ 6) && (tl z).all lc) = true := by decide +kernel
  have q := List.all_eq_true.mp h z hz
  rw [Bool.and_eq_true, Bool.and_eq_true, decide_eq_true_eq, decide_eq_true_eq] at q
  exact name_of q.1.1 q.1.2 (List.all_eq_true.mp q.2)
theorem wds_nd : wds.Nodup := by decide +kernel
def nm0 (a : Int) (k : Nat) : Str := (wds[((a + 5 * (k : Int)) % 13).toNat]?).getD ⟨#[]⟩
theorem nm0_at (a : Int) (k : Nat) : atI wds ((a + 5 * (k : Int)) % 13) = some (nm0 a k) := by
  have h0 := Int.emod_nonneg (a + 5 * (k : Int)) (by decide : (13 : Int) ≠ 0)
  have h1 := Int.emod_lt_of_pos (a + 5 * (k : Int)) (by decide : (0 : Int) < 13)
  have hl : wds.length = 13 := by decide +kernel
  generalize e : (a + 5 * (k : Int)) % 13 = m at h0 h1
  obtain ⟨j, rfl⟩ := Int.eq_ofNat_of_zero_le h0
  have hj : j < wds.length := by omega
  unfold nm0
  rw [e, Int.toNat_natCast, List.getElem?_eq_getElem hj]
  exact atI_nat (List.getElem?_eq_getElem hj)
theorem nm0_ok (a : Int) (n : Nat) (hn : n ≤ 7) : Nms ((List.range n).map (nm0 a)) := by
  have hl : wds.length = 13 := by decide +kernel
  have key : ∀ k : Nat, ∃ j : Nat, ((j : Nat) : Int) = (a + 5 * (k : Int)) % 13 ∧ ∃ h : j < wds.length, nm0 a k = wds[j] := fun k => by
    have h0 := Int.emod_nonneg (a + 5 * (k : Int)) (by decide : (13 : Int) ≠ 0)
    have h1 := Int.emod_lt_of_pos (a + 5 * (k : Int)) (by decide : (0 : Int) < 13)
    unfold nm0
    generalize (a + 5 * (k : Int)) % 13 = m at h0 h1
    obtain ⟨j, rfl⟩ := Int.eq_ofNat_of_zero_le h0
    have hj : j < wds.length := by omega
    exact ⟨j, rfl, hj, by rw [Int.toNat_natCast, List.getElem?_eq_getElem hj]; rfl⟩
  refine nms_of (fun k hk => ?_) (fun j k hjk hk e => ?_)
  · obtain ⟨j, _, hj, e⟩ := key k
    rw [e]
    exact wds_ok _ (List.getElem_mem hj)
  · obtain ⟨j1, a1, b1, c1⟩ := key j
    obtain ⟨j2, a2, b2, c2⟩ := key k
    rw [c1, c2] at e
    have nd : wds.Pairwise (· ≠ ·) := wds_nd
    rcases Nat.lt_trichotomy j1 j2 with h | h | h
    · exact List.pairwise_iff_getElem.mp nd j1 j2 b1 b2 h e
    · omega
    · exact List.pairwise_iff_getElem.mp nd j2 j1 b2 b1 h e.symm
/-! the second way -/
structure Stem (z : Str) : Prop where
  len : (tl z).length = 6
  ok : ∀ c ∈ tl z, lc c = true
def nm1 (z : Str) (a : Int) (k : Nat) : Str := cutS z none (some (1 + (a + 5 * (k : Int)) % 6))
theorem nm1_ok {z : Str} (h : Stem z) (a : Int) (n : Nat) (hn : n < 7) : Nms ((List.range n).map (nm1 z a)) := by
  have key : ∀ k : Nat, ∃ j : Nat, ((j : Nat) : Int) = 1 + (a + 5 * (k : Int)) % 6 ∧ 1 ≤ j ∧ j ≤ 6 ∧ tl (nm1 z a k) = (tl z).take j := fun k => by
    have h0 := Int.emod_nonneg (a + 5 * (k : Int)) (by decide : (6 : Int) ≠ 0)
    have h1 := Int.emod_lt_of_pos (a + 5 * (k : Int)) (by decide : (0 : Int) < 6)
    unfold nm1
    generalize (a + 5 * (k : Int)) % 6 = m at h0 h1
    obtain ⟨j, rfl⟩ := Int.eq_ofNat_of_zero_le h0
    refine ⟨1 + j, by omega, by omega, by omega, ?_⟩
    have e : (1 + (j : Int)) = ((1 + j : Nat) : Int) := by omega
    rw [e]
    exact tl_to (by rw [h.len]; omega)
  refine nms_of (fun k hk => ?_) (fun j k hjk hk e => ?_)
  · obtain ⟨j, _, j1, j6, e⟩ := key k
    have hl := h.len
    refine name_of ?_ ?_ (fun c hc => h.ok c (by rw [e] at hc; exact List.mem_of_mem_take hc)) <;> rw [e, List.length_take] <;> omega
  · obtain ⟨j1, a1, _, b1, c1⟩ := key j
    obtain ⟨j2, a2, _, b2, c2⟩ := key k
    have l := congrArg (fun z => (tl z).length) e
    have hl := h.len
    simp only [c1, c2, List.length_take] at l
    omega
/-! the third way -/
def abc : Str := "abcdefghijklmnopqrstuvwxyz"
def lt1 (a : Int) (k : Nat) : Nat := 97 + ((a + 7 * (k : Int)) % 26).toNat
theorem abc_at {i : Int} (h0 : 0 ≤ i) (h1 : i < 26) : atI abc.cps.toList i = some (97 + i.toNat) := by
  obtain ⟨j, rfl⟩ := Int.eq_ofNat_of_zero_le h0
  have h : ∀ j : Fin 26, abc.cps.toList[j.1]? = some (97 + j.1) := by decide +kernel
  rw [Int.toNat_natCast]
  exact atI_nat (h ⟨j, by omega⟩)
theorem lt1_at (a : Int) (k : Nat) : atI abc.cps.toList ((a + 7 * (k : Int)) % 26) = some (lt1 a k) := abc_at (Int.emod_nonneg _ (by decide)) (Int.emod_lt_of_pos _ (by decide))
theorem lt1_lc (a : Int) (k : Nat) : lc (lt1 a k) = true := by
  have h0 := Int.emod_nonneg (a + 7 * (k : Int)) (by decide : (26 : Int) ≠ 0)
  have h1 := Int.emod_lt_of_pos (a + 7 * (k : Int)) (by decide : (0 : Int) < 26)
  unfold lt1 lc
  rw [Bool.and_eq_true, decide_eq_true_eq, decide_eq_true_eq]
  omega
def nm2 (z : Str) (a t : Int) (k : Nat) : Str := cutS z none (some t) ++ ⟨#[lt1 a k]⟩ ++ cutS z (some t) (some (t + (a + (k : Int)) % (6 - t)))
theorem nm2_ok {z : Str} (h : Stem z) (a t : Int) (t0 : 0 ≤ t) (t6 : t < 6) (n : Nat) (hn : n ≤ 7) : Nms ((List.range n).map (nm2 z a t)) := by
  obtain ⟨t, rfl⟩ := Int.eq_ofNat_of_zero_le t0
  have hl := h.len
  have key : ∀ k : Nat, ∃ m : Nat, t + m < 6 ∧ tl (nm2 z a t k) = (tl z).take t ++ ([lt1 a k] ++ ((tl z).drop t).take m) := fun k => by
    have h0 := Int.emod_nonneg (a + (k : Int)) (show (6 - (t : Int)) ≠ 0 by omega)
    have h1 := Int.emod_lt_of_pos (a + (k : Int)) (show (0 : Int) < 6 - (t : Int) by omega)
    unfold nm2
    generalize (a + (k : Int)) % (6 - (t : Int)) = m at h0 h1
    obtain ⟨m, rfl⟩ := Int.eq_ofNat_of_zero_le h0
    refine ⟨m, by omega, ?_⟩
    rw [tl_append, tl_append, tl_to (by omega), show ((t : Int) + (m : Int)) = ((t + m : Nat) : Int) by omega, tl_cut (by omega) (by omega), show t + m - t = m by omega, List.append_assoc]
  refine nms_of (fun k hk => ?_) (fun j k hjk hk e => ?_)
  · obtain ⟨m, hm, e⟩ := key k
    refine name_of ?_ ?_ (fun c hc => ?_)
    · rw [e, List.length_append, List.length_append]
      simp
      omega
    · rw [e, List.length_append, List.length_append, List.length_take, List.length_take, List.length_drop]
      simp
      omega
    · rw [e] at hc
      rcases List.mem_append.mp hc with q | q
      · exact h.ok c (List.mem_of_mem_take q)
      · rcases List.mem_append.mp q with q | q
        · rw [List.mem_singleton.mp q]
          exact lt1_lc a k
        · exact h.ok c (List.mem_of_mem_drop (List.mem_of_mem_take q))
  · obtain ⟨m1, hm1, c1⟩ := key j
    obtain ⟨m2, hm2, c2⟩ := key k
    have l := congrArg (fun z => (tl z)[t]?) e
    simp only [c1, c2] at l
    have lt : ((tl z).take t).length = t := by rw [List.length_take]; omega
    have g : ∀ (c : Nat) (r : List Nat), ((tl z).take t ++ ([c] ++ r))[t]? = some c := fun c r => by
      rw [List.getElem?_append_right (by omega), lt, Nat.sub_self]
      rfl
    rw [g, g] at l
    have l := Option.some.inj l
    unfold lt1 at l
    have h0 := Int.emod_nonneg (a + 7 * (j : Int)) (by decide : (26 : Int) ≠ 0)
    have h1 := Int.emod_nonneg (a + 7 * (k : Int)) (by decide : (26 : Int) ≠ 0)
    omega
end My

set_option maxRecDepth 100000
set_option maxHeartbeats 4000000
namespace K8
open PySem PySem.Spec PyProof.Rows L2 GxR Gd TL My
theorem range_snoc (f : Nat → Str) (i : Nat) : ((List.range (i + 1)).map f).map V.str = ((List.range i).map f).map V.str ++ [V.str (f i)] := by
  rw [List.range_succ, List.map_append, List.map_append]
  rfl
theorem ixL {X : Cx} {K : PySem.W.Frag} (h : X.K = K) : IxR X (rIxL K) := h ▸ ix_list
theorem cmul {m : Nat} (i : Nat) (h : i < m) (hm : m ≤ 7) : CMul 5 (0 + (i : Int)) := .inl ⟨by decide, by decide⟩
theorem cmul7 (i : Nat) : CMul 7 (0 + (i : Int)) := .inl ⟨by decide, by decide⟩
theorem atI_map {α β : Type} {f : α → β} {xs : List α} {i : Int} {v : α} (h : atI xs i = some v) : atI (xs.map f) i = some (f v) := by
  unfold atI at h ⊢
  rw [List.length_map]
  cases e : ixN xs.length i with
  | none => rw [e] at h; cases h
  | some j =>
    rw [e] at h
    show (xs.map f)[j]? = _
    rw [List.getElem?_map, show xs[j]? = some v from h]
    rfl
theorem lt_line (i : Nat) (h : i ≤ 100) : i < sizeLine := Nat.lt_of_le_of_lt h (by decide)
section
variable {P : Program} {w : World} {K : PySem.W.Frag} {mg : Str → Option Value} {base : Heap}
abbrev s_law_names : Stmt := top 45
theorem sc_law_names : FnScope ["_law_box_here", "_law_many", "_law_letters", "_law_words", "_law_way", "_law_first", "_law_stem", "_law_at", "_law_k"] ["_law_box_here", "_law_many"] (defScope s_law_names) := ⟨rfl, rfl, rfl, by decide +kernel, rfl, by decide +kernel, by decide +kernel⟩
def spNames : Sp := fun vs H Q _ => ∃ (b : Addr) (m : Nat) (n : Int), vs = [.ref b, .int (m : Nat)] ∧ Bx b n H ∧ n ≤ 90000 ∧ m ≤ 7 ∧
  ∀ (ns : List Str) (a : Addr) (H' : Hp), KB b H H' → Bx b (n + 20) H' → H' a = some (.lst (ns.map V.str)) → ns.length = m → Nms ns → Q (.ref a) H'
theorem ok_names {f fT : Addr} {fd fdT : FuncData} (F : Fun K "_law_names" "_law_names" s_law_names f fd) (T : Txt mg)
    (Nlaw_take : Fn K mg "_law_take" sTake ["_law_box_here", "_law_many"] fT fdT) (Glaw_take : FnOk P w K mg base CX0 1 fT fdT ["_law_box_here", "_law_many"] spTake) :
    FnOk P w K mg base CX0 2 f fd ["_law_box_here", "_law_many"] spNames := by
  refine F.ok sc_law_names (fun vs H Q E h => ?_) (fun cdv A outer s H vs Q E hr h => ?_)
  · obtain ⟨b, m, n, rfl, _⟩ := h
    rfl
  · obtain ⟨b, m, n, rfl, hB, hn, hm, k⟩ := h
    refine ⟨_, pss_cons (ps_set (i := 2) sc_law_names.nd rfl (Or.inr rfl) pe_str)
      (pss_cons (ps_set (i := 3) sc_law_names.nd rfl (Or.inr rfl) (pe_lst (pa_cons pe_str (pa_cons pe_str (pa_cons pe_str (pa_cons pe_str (pa_cons pe_str (pa_cons pe_str (pa_cons pe_str (pa_cons pe_str (pa_cons pe_str (pa_cons pe_str (pa_cons pe_str (pa_cons pe_str (pa_cons pe_str pa_nil)))))))))))))))
      (pss_cons (ps_set (i := 4) sc_law_names.nd rfl (Or.inl rfl) (pe_call Glaw_take (hr.mono (by decide)) (by rfl) Nlaw_take.g Nlaw_take.kp Nlaw_take.b .nil pass0 (pa_cons (pv 0) (pa_cons pe_int pa_nil))))
      (pss_cons (ps_set (i := 5) sc_law_names.nd rfl (Or.inr rfl) (pe_call Glaw_take (hr.mono (by decide)) (by rfl) Nlaw_take.g Nlaw_take.kp Nlaw_take.b .nil pass0 (pa_cons (pv 0) (pa_cons pe_int pa_nil))))
      (pss_cons (ps_if (pt_cmpR op_eq (pv 4) pe_int (nomark _)) (pss_one (ps_ret (pe_lc (own := [("_law_k", 8)]) (g := gName 8) (tt := tYes) rfl sc_law_names.nd (pi_range1 (by rfl) T.range_ (pa_cons (pv 1) pa_nil)) (blkOk_by (own := [("_law_k", 8)]) (N := ["_law_box_here", "_law_many", "_law_letters", "_law_words", "_law_way", "_law_first", "_law_stem", "_law_at", "_law_k"]) (sc := defScope s_law_names) (by decide +kernel)) (fun _ _ _ _ _ => (pg_name (i := 8) sc_law_names.nd rfl (Or.inl rfl))) (fun _ _ _ _ _ => pts_nil) (fun _ _ _ _ _ => (pe_ix (ixL (K := K) rfl) (pv 3) (pe_op op_mod (pe_op op_add (pv 5) (pe_op op_mul pe_int (pv 8))) pe_int) (fun _ _ => rfl)))))) pss_nil)
      (pss_cons (ps_set (i := 6) sc_law_names.nd rfl (Or.inr rfl) (pe_join pe_str (pe_lc (own := [("_law_k", 8)]) (g := gName 8) (tt := tYes) rfl sc_law_names.nd (pi_range1 (by rfl) T.range_ (pa_cons pe_int pa_nil)) (blkOk_by (own := [("_law_k", 8)]) (N := ["_law_box_here", "_law_many", "_law_letters", "_law_words", "_law_way", "_law_first", "_law_stem", "_law_at", "_law_k"]) (sc := defScope s_law_names) (by decide +kernel)) (fun _ _ _ _ _ => (pg_name (i := 8) sc_law_names.nd rfl (Or.inl rfl))) (fun _ _ _ _ _ => pts_nil) (fun _ _ _ _ _ => (pe_ix ix_str (pv 2) (pe_call Glaw_take (hr.mono (by decide)) (by rfl) Nlaw_take.g Nlaw_take.kp Nlaw_take.b .nil pass0 (pa_cons (pv 0) (pa_cons pe_int pa_nil))) (fun _ _ => rfl))))))
      (pss_cons (ps_if (PW.pt (pw_and (pt_cmpR op_eq (pv 4) pe_int (nomark _)) (pw_and1 (pt_cmpR op_lt (pv 1) pe_int (nomark _))))) (pss_one (ps_ret (pe_lc (own := [("_law_k", 8)]) (g := gName 8) (tt := tYes) rfl sc_law_names.nd (pi_range1 (by rfl) T.range_ (pa_cons (pv 1) pa_nil)) (blkOk_by (own := [("_law_k", 8)]) (N := ["_law_box_here", "_law_many", "_law_letters", "_law_words", "_law_way", "_law_first", "_law_stem", "_law_at", "_law_k"]) (sc := defScope s_law_names) (by decide +kernel)) (fun _ _ _ _ _ => (pg_name (i := 8) sc_law_names.nd rfl (Or.inl rfl))) (fun _ _ _ _ _ => pts_nil) (fun _ _ _ _ _ => (pe_slice sl_str (pv 6) po_none (po_some (pe_op op_add pe_int (pe_op op_mod (pe_op op_add (pv 5) (pe_op op_mul pe_int (pv 8))) pe_int)))))))) pss_nil)
      (pss_cons (ps_set (i := 7) sc_law_names.nd rfl (Or.inr rfl) (pe_call Glaw_take (hr.mono (by decide)) (by rfl) Nlaw_take.g Nlaw_take.kp Nlaw_take.b .nil pass0 (pa_cons (pv 0) (pa_cons pe_int pa_nil))))
      (pss_one (ps_ret (pe_lc (own := [("_law_k", 8)]) (g := gName 8) (tt := tYes) rfl sc_law_names.nd (pi_range1 (by rfl) T.range_ (pa_cons (pv 1) pa_nil)) (blkOk_by (own := [("_law_k", 8)]) (N := ["_law_box_here", "_law_many", "_law_letters", "_law_words", "_law_way", "_law_first", "_law_stem", "_law_at", "_law_k"]) (sc := defScope s_law_names) (by decide +kernel)) (fun _ _ _ _ _ => (pg_name (i := 8) sc_law_names.nd rfl (Or.inl rfl))) (fun _ _ _ _ _ => pts_nil) (fun _ _ _ _ _ => (pe_op op_add_str (pe_op op_add_str (pe_slice sl_str (pv 6) po_none (po_some (pv 7))) (pe_ix ix_str (pv 2) (pe_op op_mod (pe_op op_add (pv 5) (pe_op op_mul pe_int (pv 8))) pe_int) (fun _ _ => rfl))) (pe_slice sl_str (pv 6) (po_some (pv 7)) (po_some (pe_op op_add (pv 7) (pe_op op_mod (pe_op op_add (pv 5) (pv 8)) (pe_op op_sub pe_int (pv 7)))))))))))))))))), ?_⟩
    refine ⟨(by show 13 ≤ sizeLine; decide), fun L hL => ?_⟩
    have k0 : KB b H _ := KB.alloc (o := .lst [.str "place", .str "staff", .str "ticket", .str "low", .str "high", .str "long", .str "pilot", .str "train", .str "at", .str "to", .str "in", .str "get", .str "a"]) hL
    have B0 := hB.alloc (o := .lst [.str "place", .str "staff", .str "ticket", .str "low", .str "high", .str "long", .str "pilot", .str "train", .str "at", .str "to", .str "in", .str "get", .str "a"]) hL
    have nLb : L ≠ b := hB.fresh hL
    have hW : (upd H L (.lst [.str "place", .str "staff", .str "ticket", .str "low", .str "high", .str "long", .str "pilot", .str "train", .str "at", .str "to", .str "in", .str "get", .str "a"])) L = some (.lst (wds.map V.str)) := upd_same
    generalize upd H L (.lst [.str "place", .str "staff", .str "ticket", .str "low", .str "high", .str "long", .str "pilot", .str "train", .str "at", .str "to", .str "in", .str "get", .str "a"]) = H0 at k0 B0 hW ⊢
    refine ⟨_, rfl, b, 4, n, rfl, B0, by omega, by decide, by decide, fun way H1 w0 w1 off1 B1 => ?_⟩
    refine ⟨_, rfl, b, 26, n + 1, rfl, B1, by omega, by decide, by decide, fun a H2 a0 a1 off2 B2 => ?_⟩
    have k2 : KB b H H2 := (k0.trans (KB.off off1)).trans (KB.off off2)
    have hW2 : H2 L = some (.lst (wds.map V.str)) := by rw [off2 L nLb, off1 L nLb]; exact hW
    clear hW k0 B0 B1 off1 off2
    refine ⟨_, rfl, rfl, _, rfl, ite2 (fun c => ?_) (fun c => ?_)⟩
    · refine ⟨_, rfl, m, rfl, by omega, by omega, fun D hD => ?_⟩
      have nD : L ≠ D := ne_of_none hW2 hD
      refine lc_range (lo := 0) (n := m) (fun i H' => H' = upd H2 D (.lst (((List.range i).map (nm0 a)).map V.str))) rfl ?_ ?_
      · rintro i H' hi rfl
        refine ⟨rfl, lcY ?_⟩
        refine ⟨_, rfl, _, rfl, _, rfl, _, _, rfl, rfl, cmul i hi hm, _, _, rfl, rfl, _, _, rfl, rfl, (by show (0 : Int) < 13; decide), L, wds.map V.str, _, .str (nm0 a i), rfl, rfl, SqL.of (by rw [upd_ne nD]; exact hW2), ?_, _, upd_same, ?_, ?_⟩
        · rw [Int.zero_add]
          exact atI_map (nm0_at a i)
        · rw [List.length_map, List.length_map, List.length_range]
          exact lt_line i (by omega)
        · rw [upd_upd, range_snoc]
      · rintro H' rfl
        exact k _ D _ (k2.trans (KB.alloc hD)) ((B2.alloc hD).mono (by omega)) upd_same (by simp) (nm0_ok a m hm)
    · clear c
      refine ⟨⟨_, rfl⟩, 6, rfl, by decide, by decide, fun D hD => ?_⟩
      have nDb : D ≠ b := B2.fresh hD
      refine lc_range (lo := 0) (n := 6) (fun i H' => ∃ cs : List Nat, H' D = some (.lst ((cs.map fun c => (⟨#[c]⟩ : Str)).map V.str)) ∧ cs.length = i ∧ (∀ c ∈ cs, lc c = true) ∧ KB b H2 H' ∧ Bx b (n + 2 + i) H')
        ⟨[], upd_same, rfl, by simp, KB.alloc hD, (B2.alloc hD).mono (by simp; omega)⟩ ?_ ?_
      · rintro i H3 hi ⟨cs, hz, hl, h1, k3, B3⟩
        refine ⟨rfl, lcY ?_⟩
        refine ⟨_, rfl, _, rfl, b, 26, n + 2 + i, rfl, B3, by omega, by decide, by decide, fun d' H4 e0 e1 off4 B4 => ?_⟩
        have hz4 : H4 D = some (.lst ((cs.map fun c => (⟨#[c]⟩ : Str)).map V.str)) := by rw [off4 D nDb]; exact hz
        refine ⟨_, d', 97 + d'.toNat, rfl, rfl, by decide +kernel, abc_at e0 e1, _, hz4, ?_, cs ++ [97 + d'.toNat], ?_, ?_, ?_, ?_, ?_⟩
        · rw [List.length_map, List.length_map, hl]
          exact lt_line i (by omega)
        · rw [upd_same, List.map_append, List.map_append]
          rfl
        · rw [List.length_append, hl]
          rfl
        · intro z hz
          rcases List.mem_append.mp hz with q | q
          · exact h1 z q
          · rw [List.mem_singleton.mp q]
            unfold lc
            rw [Bool.and_eq_true, decide_eq_true_eq, decide_eq_true_eq]
            omega
        · intro c o nc e
          rw [upd_ne (ne_of_none e hD)]
          exact (k3.trans (KB.off off4)) c o nc e
        · exact (B4.put nDb).mono (by push_cast; omega)
      · rintro H3 ⟨cs, hz, hl, h1, k3, B3⟩
        have et := tl_ones cs
        have jl : (Txt.join (Str.ofString "") (cs.map fun c => (⟨#[c]⟩ : Str))).length = 6 := by rw [← tl_len, et, hl]
        have hS : Stem (Txt.join (Str.ofString "") (cs.map fun c => (⟨#[c]⟩ : Str))) := ⟨by rw [et, hl], by rw [et]; exact h1⟩
        refine ⟨_, D, _, rfl, rfl, .inl (SqL.of hz), ?_, ?_⟩
        · have e0 : (Str.ofString "").length = 0 := by decide +kernel
          have hs := sum_ones (cs.map fun c => (⟨#[c]⟩ : Str)) (fun z hz => by obtain ⟨c, _, rfl⟩ := List.mem_map.mp hz; exact Nat.le_refl 1)
          rw [List.length_map] at hs
          rw [e0]
          omega
        generalize Txt.join (Str.ofString "") (cs.map fun c => (⟨#[c]⟩ : Str)) = st at hS jl ⊢
        have hW3 : H3 L = some (.lst (wds.map V.str)) := k3 L _ nLb hW2
        have kH := k2.trans k3
        clear hz et h1 k3
        have w2 : ∀ t : Int, 0 ≤ t → t < 6 → ∀ H4, (∀ a, a ≠ b → H4 a = H3 a) → Bx b (n + 2 + 6 + 1) H4 → tRet (tLc (iRng1 (tCons (tVar 1) tNil)) (gName 8) tYes
            (tOp (fun x y H Q => ∃ i j, x = V.str i ∧ y = V.str j ∧ i.length + j.length ≤ sizeLine ∧ Q (V.str (i ++ j)) H)
              (tOp (fun x y H Q => ∃ i j, x = V.str i ∧ y = V.str j ∧ i.length + j.length ≤ sizeLine ∧ Q (V.str (i ++ j)) H) (tSl rSlS (tVar 6) tNoPart (tPart (tVar 7)))
                (tOp rIxS (tVar 2) (tOp (rI (fun x j => 0 < j) fun i j => V.int (i % j)) (tOp (rI0 fun i j => V.int (i + j)) (tVar 5) (tOp (rI CMul fun i j => V.int (i * j)) (tC (V.int 7)) (tVar 8))) (tC (V.int 26)))))
              (tSl rSlS (tVar 6) (tPart (tVar 7)) (tPart (tOp (rI0 fun i j => V.int (i + j)) (tVar 7) (tOp (rI (fun x j => 0 < j) fun i j => V.int (i % j)) (tOp (rI0 fun i j => V.int (i + j)) (tVar 5) (tVar 8)) (tOp (rI0 fun i j => V.int (i - j)) (tC (V.int 6)) (tVar 7)))))))
            [8]) { nx := fun x H' => Q V.non H', rt := Q } [some (.ref b), some (.int (m : Nat)), some (.str abc), some (.ref L), some (.int way), some (.int a), some (.str st), some (.int t), none] H4 := by
          intro t t0 t6 H4 off4 B4
          refine ⟨_, rfl, m, rfl, by omega, by omega, fun D2 hD2 => ?_⟩
          refine lc_range (lo := 0) (n := m) (fun i H' => H' = upd H4 D2 (.lst (((List.range i).map (nm2 st a t)).map V.str))) rfl ?_ ?_
          · rintro i H' hi rfl
            refine ⟨rfl, lcY ?_⟩
            refine ⟨_, rfl, _, rfl, _, rfl, st, rfl, (by rw [jl]; decide), _, rfl, _, rfl, _, rfl, _, _, rfl, rfl, cmul7 i, _, _, rfl, rfl, _, _, rfl, rfl, (by show (0 : Int) < 26; decide), abc, _, lt1 a i, rfl, rfl, by decide +kernel, ?_, _, _, rfl, rfl, ?_,
              _, rfl, _, rfl, _, rfl, _, rfl, _, rfl, _, rfl, _, _, rfl, rfl, _, rfl, _, _, rfl, rfl, _, _, rfl, rfl, (by show (0 : Int) < 6 - t; omega), _, _, rfl, rfl, _, rfl, st, rfl, (by rw [jl]; decide), _, _, rfl, rfl, ?_, _, upd_same, ?_, ?_⟩
            · rw [Int.zero_add]
              exact lt1_at a i
            · have := cutS_length st none (some t)
              rw [jl] at this
              exact Nat.le_trans (Nat.add_le_add this (Nat.le_refl 1)) (by decide)
            · have q1 := cutS_length st none (some t)
              have q2 := cutS_length st (some t) (some (t + (a + (0 + (i : Int))) % (6 - t)))
              rw [jl] at q1 q2
              rw [← tl_len, tl_append, List.length_append, tl_len]
              exact Nat.le_trans (Nat.add_le_add (Nat.add_le_add q1 (Nat.le_refl 1)) q2) (by decide)
            · rw [List.length_map, List.length_map, List.length_range]
              exact lt_line i (by omega)
            · rw [upd_upd, range_snoc]
              unfold nm2
              rw [Int.zero_add]
          · rintro H' rfl
            exact k _ D2 _ ((kH.trans (KB.off off4)).trans (KB.alloc hD2)) ((B4.alloc hD2).mono (by omega)) upd_same (by simp) (nm2_ok hS a t t0 t6 m hm)
        refine ⟨_, rfl, rfl, _, rfl, ite2 (fun c1 => ⟨_, rfl, _, _, rfl, rfl, _, rfl, ite2 (fun c2 => ?_) (fun c2 => ?_)⟩) (fun c1 => iteF ?_)⟩
        · have c2' : (m : Int) < 7 := of_decide_eq_true c2
          refine ⟨_, rfl, m, rfl, by omega, by omega, fun D2 hD2 => ?_⟩
          refine lc_range (lo := 0) (n := m) (fun i H' => H' = upd H3 D2 (.lst (((List.range i).map (nm1 st a)).map V.str))) rfl ?_ ?_
          · rintro i H' hi rfl
            refine ⟨rfl, lcY ?_⟩
            refine ⟨_, rfl, _, rfl, _, rfl, _, _, rfl, rfl, cmul i hi hm, _, _, rfl, rfl, _, _, rfl, rfl, (by show (0 : Int) < 6; decide), _, _, rfl, rfl, _, rfl, st, rfl, (by rw [jl]; decide), _, upd_same, ?_, ?_⟩
            · rw [List.length_map, List.length_map, List.length_range]
              exact lt_line i (by omega)
            · rw [upd_upd, range_snoc]
              unfold nm1
              rw [Int.zero_add]
          · rintro H' rfl
            exact k _ D2 _ (kH.trans (KB.alloc hD2)) ((B3.alloc hD2).mono (by omega)) upd_same (by simp) (nm1_ok hS a m (by omega))
        · exact ⟨_, rfl, b, 6, n + 2 + 6, rfl, B3, by omega, by decide, by decide, fun t H4 t0 t6 off4 B4 => w2 t t0 t6 H4 off4 B4⟩
        · exact ⟨_, rfl, b, 6, n + 2 + 6, rfl, B3, by omega, by decide, by decide, fun t H4 t0 t6 off4 B4 => w2 t t0 t6 H4 off4 B4⟩
end
end K8

set_option maxRecDepth 100000
set_option maxHeartbeats 400000
/-! Data that stand in the heap themselves: nothing of it is a constant of the program. -/
namespace My
open PySem PySem.Spec PyProof.Rows L2 GxR Gd TL
mutual
inductive Dr (H : Hp) : V → PyData → Prop
  | non : Dr H .non .none
  | bl (b : Bool) : Dr H (.bl b) (.bool b)
  | int (i : Int) : Dr H (.int i) (.int i)
  | str (z : Str) : Dr H (.str z) (.str z)
  | lst {a : Addr} {xs : List V} {ds : List PyData} (e : H a = some (.lst xs)) (h : DrAll H xs ds) : Dr H (.ref a) (.list ds)
  | tup {a : Addr} {xs : List V} {ds : List PyData} (e : H a = some (.tup xs)) (h : DrAll H xs ds) : Dr H (.ref a) (.tuple ds)
inductive DrAll (H : Hp) : List V → List PyData → Prop
  | nil : DrAll H [] []
  | cons {v : V} {vs : List V} {d : PyData} {ds : List PyData} (h : Dr H v d) (t : DrAll H vs ds) : DrAll H (v :: vs) (d :: ds)
end
section
variable {K : PySem.W.Frag} {H H' : Hp}
mutual
theorem Dr.dp : ∀ {v : V} {d : PyData}, Dr H v d → Dp K H v d
  | _, _, .non => .non
  | _, _, .bl b => .bl b
  | _, _, .int i => .int i
  | _, _, .str z => .str z
  | _, _, .lst e h => .lst (SqL.of e) (DrAll.dp h)
  | _, _, .tup e h => .tup (SqT.of e) (DrAll.dp h)
theorem DrAll.dp : ∀ {vs : List V} {ds : List PyData}, DrAll H vs ds → DpAll K H vs ds
  | _, _, .nil => .nil
  | _, _, .cons h t => .cons (Dr.dp h) (DrAll.dp t)
end
mutual
theorem dr_nt (e : Nt H H') : ∀ {v : V} {d : PyData}, Dr H v d → Dr H' v d
  | _, _, .non => .non
  | _, _, .bl b => .bl b
  | _, _, .int i => .int i
  | _, _, .str z => .str z
  | _, _, .lst h a => .lst (e _ _ (by simp) h) (drAll_nt e a)
  | _, _, .tup h a => .tup (e _ _ (by simp) h) (drAll_nt e a)
theorem drAll_nt (e : Nt H H') : ∀ {vs : List V} {ds : List PyData}, DrAll H vs ds → DrAll H' vs ds
  | _, _, .nil => .nil
  | _, _, .cons h t => .cons (dr_nt e h) (drAll_nt e t)
end
theorem drAll_len : ∀ {xs : List V} {ds : List PyData}, DrAll H xs ds → xs.length = ds.length
  | _, _, .nil => rfl
  | _, _, .cons _ t => congrArg Nat.succ (drAll_len t)
theorem drAll_app : ∀ {xs ys : List V} {ds es : List PyData}, DrAll H xs ds → DrAll H ys es → DrAll H (xs ++ ys) (ds ++ es)
  | _, _, _, _, .nil, k => k
  | _, _, _, _, .cons a t, k => .cons a (drAll_app t k)
theorem drAll_mem : ∀ {xs : List V} {ds : List PyData}, DrAll H xs ds → ∀ x ∈ xs, ∃ d ∈ ds, Dr H x d
  | _, _, .nil, x, h => by cases h
  | _, _, .cons a t, x, h => by
    rcases List.mem_cons.mp h with rfl | h
    · exact ⟨_, List.mem_cons_self, a⟩
    · obtain ⟨d, h1, h2⟩ := drAll_mem t x h
      exact ⟨d, List.mem_cons_of_mem _ h1, h2⟩
end
end My

set_option maxRecDepth 100000
set_option maxHeartbeats 4000000
namespace K8
open PySem PySem.Spec PyProof.Rows L2 GxR Gd TL My
theorem hide_mono {D : Addr} {A B : Hp} (e : Nt A B) : Nt (hide D A) (hide D B) := fun c o n h => by
  obtain ⟨q, h⟩ := hide_some h
  rw [hide_ne q]
  exact e c o n h
/-- what is new in H since H0 -/
def nw (H0 H : Hp) : Hp := fun c => match H0 c with
  | none => H c
  | some _ => none
theorem nw_none {H0 H : Hp} {c : Addr} (h : H0 c = none) : nw H0 H c = H c := by unfold nw; rw [h]
theorem nw_some {H0 H : Hp} {c : Addr} {o : HO} (h : nw H0 H c = some o) : H0 c = none ∧ H c = some o := by
  unfold nw at h
  cases e : H0 c with
  | none => rw [e] at h; exact ⟨rfl, h⟩
  | some _ => rw [e] at h; cases h
theorem nw_mono {H0 A B : Hp} {b : Addr} (hb : H0 b ≠ none) (k : KB b A B) : Nt (nw H0 A) (nw H0 B) := fun c o _ h => by
  obtain ⟨h1, h2⟩ := nw_some h
  rw [nw_none h1]
  exact k c o (fun e => hb (e ▸ h1)) h2
theorem nw_put {D : Addr} {H0 H : Hp} {o : HO} : Nt (hide D (nw H0 H)) (hide D (nw H0 (upd H D o))) := fun c u n h => by
  obtain ⟨q, h⟩ := hide_some h
  obtain ⟨h1, h2⟩ := nw_some h
  rw [hide_ne q, nw_none h1, upd_ne q]
  exact h2
theorem nw_new {K : PySem.W.Frag} {p D : Addr} {H0 H : Hp} {xs : List V} (h1 : p ≠ D) (h2 : H0 p = none) : SqT K (hide D (nw H0 (upd H p (.tup xs)))) p xs := SqT.of (by rw [hide_ne h1, nw_none h2]; exact upd_same)
theorem nw_newR {p D : Addr} {H0 H : Hp} {xs : List V} (h1 : p ≠ D) (h2 : H0 p = none) : hide D (nw H0 (upd H p (.tup xs))) p = some (.tup xs) := by rw [hide_ne h1, nw_none h2]; exact upd_same
theorem fresh0 {H A : Hp} {b p : Addr} (k : KB b H A) (n : p ≠ b) (h : A p = none) : H p = none := by
  cases e : H p with
  | none => rfl
  | some o => rw [k p o n e] at h; cases h
theorem hide_put {D b : Addr} {H : Hp} {o : HO} : Nt (hide D (hide b H)) (hide D (hide b (upd H D o))) := fun c u n h => by
  obtain ⟨q, h⟩ := hide_some h
  obtain ⟨q2, h⟩ := hide_some h
  rw [hide_ne q, hide_ne q2, upd_ne q]
  exact h
theorem dp_new {K : PySem.W.Frag} {p D b : Addr} {H : Hp} {xs : List V} (h1 : p ≠ D) (h2 : p ≠ b) : SqT K (hide D (hide b (upd H p (.tup xs)))) p xs := SqT.of (by rw [hide_ne h1, hide_ne h2]; exact upd_same)
theorem cut_last {xs : List V} : cutV xs none (some (-1)) = xs.dropLast := by
  unfold cutV
  rw [List.dropLast_eq_take, HT.sIx_none, List.drop_zero]
  have e : HT.sIx xs.length xs.length (some (-1)) = ((-1 : Int) + (xs.length : Int)).toNat := rfl
  rw [e]
  congr 1
  omega
def lastL (l0 : Int) (lo : List (Int × Int × Int)) : Int := (lo.getLast?.map fun q => q.2.1).getD l0
theorem longsOk_snoc {top : Int} : ∀ {l0 : Int} {lo : List (Int × Int × Int)} {f l h : Int}, longsOk top l0 lo → lastL l0 lo ≤ f → f + 2 ≤ l → l ≤ top → 0 ≤ h → h ≤ 1 → longsOk top l0 (lo ++ [(f, l, h)])
  | l0, [], f, l, h, _, a, b, c, d, e => ⟨a, b, c, d, e, True.intro⟩
  | l0, (f0, x, h0) :: r, f, l, h, q, a, b, c, d, e => by
    obtain ⟨q1, q2, q3, q4, q5, q6⟩ := q
    refine ⟨q1, q2, q3, q4, q5, longsOk_snoc q6 ?_ b c d e⟩
    unfold lastL at a ⊢
    rw [List.getLast?_cons] at a
    cases z : r.getLast? with
    | none => rw [z] at a; simpa using a
    | some y => rw [z] at a; simpa using a
theorem lastL_snoc (l0 : Int) (lo : List (Int × Int × Int)) (p : Int × Int × Int) : lastL l0 (lo ++ [p]) = p.2.1 := by
  unfold lastL
  rw [List.getLast?_append]
  simp
theorem last_at {xs : List V} {v : V} (h : xs.getLast? = some v) : atI xs (-1) = some v := by
  unfold atI
  have hp : 0 < xs.length := by
    cases xs with
    | nil => simp at h
    | cons a r => simp
  have e : ixN xs.length (-1) = some (xs.length - 1) := by
    unfold ixN
    rw [if_neg (by decide)]
    split
    · congr 1
      omega
    · omega
  rw [e]
  rw [List.getLast?_eq_getElem?] at h
  exact h
section
variable {P : Program} {w : World} {K : PySem.W.Frag} {mg : Str → Option Value} {base : Heap}
abbrev s_law_world : Stmt := top 46
theorem sc_law_world : FnScope ["_law_box_here", "_law_many", "_law_names_here", "_law_places", "_law_stretches", "_law_longs", "_law_low", "_law_turn", "_law_first", "_law_last", "_law_name", "_law_k"] ["_law_box_here"] (defScope s_law_world) := ⟨rfl, rfl, rfl, by decide +kernel, rfl, by decide +kernel, by decide +kernel⟩
def spWorld (K : PySem.W.Frag) : Sp := fun vs H Q _ => ∃ (b : Addr) (n : Int), vs = [.ref b] ∧ Bx b n H ∧ n ≤ 1000 ∧
  ∀ (wd : Wd) (v : V) (H' : Hp), wd.Ok → KB b H H' → Dr (nw H H') v wd.data → Bx b (n + 100) H' → Q v H'
theorem ok_world {f fT fN : Addr} {fd fdT fdN : FuncData} (F : Fun K "_law_world" "_law_world" s_law_world f fd) (T : Txt mg)
    (Nlaw_take : Fn K mg "_law_take" sTake ["_law_box_here", "_law_many"] fT fdT) (Glaw_take : FnOk P w K mg base CX0 1 fT fdT ["_law_box_here", "_law_many"] spTake)
    (Nlaw_names : Fn K mg "_law_names" s_law_names ["_law_box_here", "_law_many"] fN fdN) (Glaw_names : FnOk P w K mg base CX0 2 fN fdN ["_law_box_here", "_law_many"] spNames) :
    FnOk P w K mg base CX0 3 f fd ["_law_box_here"] (spWorld K) := by
  refine F.ok sc_law_world (fun vs H Q E h => ?_) (fun cdv A outer s H vs Q E hr h => ?_)
  · obtain ⟨b, n, rfl, _⟩ := h
    rfl
  · obtain ⟨b, n, rfl, hB, hn, k⟩ := h
    have hbn : H b ≠ none := by
      obtain ⟨_, _, _, h, _⟩ := hB
      rw [h]
      simp
    refine ⟨_, pss_cons (ps_set (i := 1) sc_law_world.nd rfl (Or.inl rfl) (pe_op op_add pe_int (pe_call Glaw_take (hr.mono (by decide)) (by rfl) Nlaw_take.g Nlaw_take.kp Nlaw_take.b .nil pass0 (pa_cons (pv 0) (pa_cons pe_int pa_nil)))))
      (pss_cons (ps_set (i := 2) sc_law_world.nd rfl (Or.inl rfl) (pe_call Glaw_names (hr.mono (by decide)) (by rfl) Nlaw_names.g Nlaw_names.kp Nlaw_names.b .nil pass0 (pa_cons (pv 0) (pa_cons (pe_op op_add (pv 1) pe_int) pa_nil))))
      (pss_cons (ps_setLc (i := 3) (own := [("_law_name", 10)]) (g := gName 10) (tt := tYes) rfl sc_law_world.nd rfl rfl (sw_true rfl rfl rfl (by decide +kernel)) (pi_list (pe_slice sl_list (pv 2) po_none (po_some (pe_un un_neg pe_int)))) (blkOk_by (own := [("_law_name", 10)]) (N := ["_law_box_here", "_law_many", "_law_names_here", "_law_places", "_law_stretches", "_law_longs", "_law_low", "_law_turn", "_law_first", "_law_last", "_law_name", "_law_k"]) (sc := defScope s_law_world) (by decide +kernel)) (fun _ _ _ _ _ => (pg_name (i := 10) sc_law_world.nd rfl (Or.inl rfl))) (fun _ _ _ _ _ => pts_nil) (fun _ _ _ _ _ => (pe_tup (pa_cons (pv 10) (pa_cons (pe_op op_add pe_int (pe_call Glaw_take (hr.mono (by decide)) (by rfl) Nlaw_take.g Nlaw_take.kp Nlaw_take.b .nil pass0 (pa_cons (pv 0) (pa_cons pe_int pa_nil)))) pa_nil)))))
      (pss_cons (ps_setLc (i := 4) (own := [("_law_k", 11)]) (g := gName 11) (tt := tYes) rfl sc_law_world.nd rfl rfl (sw_true rfl rfl rfl (by decide +kernel)) (pi_range1 (by rfl) T.range_ (pa_cons (pe_op op_sub (pv 1) pe_int) pa_nil)) (blkOk_by (own := [("_law_k", 11)]) (N := ["_law_box_here", "_law_many", "_law_names_here", "_law_places", "_law_stretches", "_law_longs", "_law_low", "_law_turn", "_law_first", "_law_last", "_law_name", "_law_k"]) (sc := defScope s_law_world) (by decide +kernel)) (fun _ _ _ _ _ => (pg_name (i := 11) sc_law_world.nd rfl (Or.inl rfl))) (fun _ _ _ _ _ => pts_nil) (fun _ _ _ _ _ => (pe_tup (pa_cons (pe_ix (ixL (K := K) rfl) (pe_lst (pa_cons pe_str (pa_cons pe_str pa_nil))) (pe_call Glaw_take (hr.mono (by decide)) (by rfl) Nlaw_take.g Nlaw_take.kp Nlaw_take.b .nil pass0 (pa_cons (pv 0) (pa_cons pe_int pa_nil))) (fun _ _ => rfl)) (pa_cons (pe_call Glaw_take (hr.mono (by decide)) (by rfl) Nlaw_take.g Nlaw_take.kp Nlaw_take.b .nil pass0 (pa_cons (pv 0) (pa_cons pe_int pa_nil))) pa_nil)))))
      (pss_cons (ps_set (i := 5) sc_law_world.nd rfl (Or.inl rfl) (pe_lst pa_nil))
      (pss_cons (ps_set (i := 6) sc_law_world.nd rfl (Or.inl rfl) pe_int)
      (pss_cons (ps_for PassesOwn.never rfl (pi_range1 (by rfl) T.range_ (pa_cons (pe_call Glaw_take (hr.mono (by decide)) (by rfl) Nlaw_take.g Nlaw_take.kp Nlaw_take.b .nil pass0 (pa_cons (pv 0) (pa_cons pe_int pa_nil))) pa_nil)) (pg_name (i := 7) sc_law_world.nd rfl (Or.inl rfl)) (pss_one (ps_if (pt_cmpR op_lt (pe_op op_add (pv 6) pe_int) (pv 1) (nomark _)) (pss_cons (ps_set (i := 8) sc_law_world.nd rfl (Or.inl rfl) (pe_op op_add (pv 6) (pe_call Glaw_take (hr.mono (by decide)) (by rfl) Nlaw_take.g Nlaw_take.kp Nlaw_take.b .nil pass0 (pa_cons (pv 0) (pa_cons (pe_op op_sub (pe_op op_sub (pv 1) pe_int) (pv 6)) pa_nil)))))
              (pss_cons (ps_set (i := 9) sc_law_world.nd rfl (Or.inl rfl) (pe_op op_add (pe_op op_add (pv 8) pe_int) (pe_call Glaw_take (hr.mono (by decide)) (by rfl) Nlaw_take.g Nlaw_take.kp Nlaw_take.b .nil pass0 (pa_cons (pv 0) (pa_cons (pe_op op_sub (pe_op op_sub (pv 1) pe_int) (pv 8)) pa_nil)))))
              (pss_cons (ps_expr (pe_bm PySem.F.plainAttrs_list PySem.F.slot_list_append PySem.F.type_list_append mt_append (pv 5) (pa_cons (pe_tup (pa_cons (pv 8) (pa_cons (pv 9) (pa_cons (pe_call Glaw_take (hr.mono (by decide)) (by rfl) Nlaw_take.g Nlaw_take.kp Nlaw_take.b .nil pass0 (pa_cons (pv 0) (pa_cons pe_int pa_nil))) pa_nil)))) pa_nil)))
              (pss_one (ps_set (i := 6) sc_law_world.nd rfl (Or.inl rfl) (pv 9)))))) pss_nil)))
      (pss_one (ps_ret (pe_lst (pa_cons (pv 3) (pa_cons (pv 4) (pa_cons (pv 5) (pa_cons (pe_ix ix_list (pv 2) (pe_un un_neg pe_int) (fun _ _ => rfl)) pa_nil))))))))))))), ?_⟩
    refine ⟨_, rfl, b, 5, n, rfl, hB, by omega, by decide, by decide, fun d H1 d0 d1 off1 B1 => ?_⟩
    obtain ⟨d, rfl⟩ := Int.eq_ofNat_of_zero_le d0
    refine ⟨_, _, rfl, rfl, ?_⟩
    have em : (2 + (d : Int)) = ((2 + d : Nat) : Int) := by omega
    have hm7 : 2 + d + 1 ≤ 7 := by omega
    have hm2 : 2 ≤ 2 + d := by omega
    show tSeq _ _ _ (List.set _ 1 (some (.int (2 + (d : Int))))) H1
    rw [em]
    generalize 2 + d = m at hm7 hm2
    refine ⟨_, rfl, _, rfl, _, _, rfl, rfl, b, m + 1, n + 1, rfl, B1, by omega, hm7, fun ns La H2 k2 B2 hLa hl hns => ?_⟩
    obtain ⟨nm, sp, rfl⟩ : ∃ nm sp, ns = nm ++ [sp] := by
      rcases List.eq_nil_or_concat ns with e | ⟨nm, sp, e⟩
      · rw [e] at hl
        cases hl
      · exact ⟨nm, sp, by rw [e, List.concat_eq_append]⟩
    have hlm : nm.length = m := by rw [List.length_append] at hl; exact Nat.succ.inj hl
    have hnd := List.nodup_append.mp hns.nd
    have hsp : sp ∉ nm := fun h => hnd.2.2 sp h sp (List.mem_singleton.mpr rfl) rfl
    have ecut : cutV ((nm ++ [sp]).map V.str) none (some (-1)) = nm.map V.str := by
      rw [cut_last, List.map_append]
      exact List.dropLast_concat
    have nLb : La ≠ b := fun e => by
      obtain ⟨_, _, _, h, _⟩ := B1
      obtain ⟨_, _, _, h2, _⟩ := B2
      rw [e, h2] at hLa
      cases nm with
      | nil => simp at hLa
      | cons a r => simp at hLa
    have k02 : KB b H H2 := (KB.off off1).trans k2
    refine ⟨_, rfl, _, rfl, _, rfl, La, _, rfl, SqL.of hLa, fun p1 hp1 => ⟨p1, rfl, ⟨_, SqL.of upd_same⟩, fun D hD => ?_⟩⟩
    have n1b : p1 ≠ b := B2.fresh hp1
    have hp1' : (upd H2 p1 (.lst (cutV ((nm ++ [sp]).map V.str) none (some (-1))))) p1 = some (.lst (nm.map V.str)) := by rw [upd_same, ecut]
    have k03 : KB b H2 (upd H2 p1 (.lst (cutV ((nm ++ [sp]).map V.str) none (some (-1))))) := KB.alloc hp1
    have B3 := B2.alloc (o := .lst (cutV ((nm ++ [sp]).map V.str) none (some (-1)))) hp1
    generalize upd H2 p1 (.lst (cutV ((nm ++ [sp]).map V.str) none (some (-1)))) = H3 at hp1' k03 B3 hD ⊢
    have nDb : D ≠ b := B3.fresh hD
    have nD0 : H D = none := fresh0 (k02.trans k03) nDb hD
    refine lc_it (walk_list (K := K) (xs := nm.map V.str)) (fun i H' => ∃ (ps : List (Str × Int)) (xs : List V), ps.map (·.1) = nm.take i ∧ (∀ p ∈ ps, 1 ≤ p.2 ∧ p.2 ≤ 3) ∧ H' D = some (.lst xs) ∧ DrAll (hide D (nw H H')) xs (ps.map dP) ∧ KB b H3 H' ∧ Bx b (n + 21 + i) H')
      ⟨[], [], by simp, by simp, upd_same, .nil, KB.alloc hD, (B3.alloc hD).mono (by simp; omega)⟩ ?_ ?_ ?_
    · rintro i H' hi ⟨ps, xs, _, _, _, _, kb, _⟩
      exact SqL.of (kb _ _ n1b hp1')
    · rintro i x H' H'' hi ⟨ps, xs, e1, e2, e3, e4, kb, B'⟩ ⟨rfl, hx⟩
      obtain ⟨z, hz, rfl⟩ := get_map hx
      rw [List.length_map] at hi
      have lx : xs.length = i := by
        rw [drAll_len e4, List.length_map, ← List.length_map (f := (·.1)), e1, List.length_take]
        omega
      refine ⟨rfl, lcY ?_⟩
      refine ⟨_, rfl, _, rfl, b, 3, _, rfl, B', by omega, by decide, by decide, fun r H4 r0 r1 off4 B4 => ⟨_, _, rfl, rfl, (by show 2 ≤ sizeLine; decide), fun p hp => ?_⟩⟩
      have e34 : H4 D = some (.lst xs) := by rw [off4 D nDb]; exact e3
      have npD : D ≠ p := ne_of_none e34 hp
      have npb : p ≠ b := B4.fresh hp
      have np0 : H p = none := fresh0 (((k02.trans k03).trans kb).trans (KB.off off4)) npb hp
      have eN := (hide_mono (D := D) (nw_mono hbn ((KB.off off4).trans (KB.alloc (o := .tup [.str z, .int (1 + r)]) hp)))).trans (nw_put (o := .lst (xs ++ [.ref p])))
      refine ⟨xs, by rw [upd_ne npD]; exact e34, by rw [lx]; exact lt_line i (by omega), ps ++ [(z, 1 + r)], xs ++ [.ref p], ?_, ?_, upd_same, ?_, ?_, ?_⟩
      · rw [List.map_append, e1, take_at hz]
        rfl
      · intro q hq
        rcases List.mem_append.mp hq with h | h
        · exact e2 q h
        · rw [List.mem_singleton.mp h]
          exact ⟨by show 1 ≤ 1 + r; omega, by show 1 + r ≤ 3; omega⟩
      · rw [List.map_append]
        exact drAll_app (drAll_nt eN e4) (.cons (.tup (nw_put _ _ (by simp) (nw_newR npD.symm np0)) (.cons (.str _) (.cons (.int _) .nil))) .nil)
      · intro c o nc e
        rw [upd_ne (ne_of_none e hD)]
        exact ((kb.trans (KB.off off4)).trans (KB.alloc hp)) c o nc e
      · exact ((B4.alloc hp).put nDb).mono (by push_cast; omega)
    · rintro H4 ⟨ps, xsP, e1, e2, e3, e4, kb4, B4⟩
      rw [List.length_map, List.take_of_length_le (Nat.le_refl _)] at e1
      rw [List.length_map, hlm] at B4
      have dpP := drAll_nt (hide_nt D _) e4
      have lps : ps.length = m := by rw [← List.length_map (f := (·.1)), e1, hlm]
      have k04 := (k02.trans k03).trans kb4
      have hLa4 := (k03.trans kb4) _ _ nLb hLa
      clear e4 k02 k03 kb4 hp1' hD hLa k2 B3 B2 B1 hB
      have em1 : ((m : Int) - 1) = ((m - 1 : Nat) : Int) := by omega
      refine ⟨_, rfl, _, _, rfl, rfl, ((m - 1 : Nat) : Int), (by show [V.int ((m : Int) - 1)] = _; rw [em1]), by omega, by omega, fun D2 hD2 => ?_⟩
      have nD2b : D2 ≠ b := B4.fresh hD2
      have nD20 : H D2 = none := fresh0 k04 nD2b hD2
      refine lc_range (lo := 0) (n := m - 1) (fun i H' => ∃ (st : List (Str × Int)) (xs : List V), st.length = i ∧ (∀ p ∈ st, (p.1 = "staff" ∨ p.1 = "ticket") ∧ 0 ≤ p.2 ∧ p.2 ≤ 1) ∧ H' D2 = some (.lst xs) ∧ DrAll (hide D2 (nw H H')) xs (st.map dP) ∧ KB b H4 H' ∧ Bx b (n + 40 + 2 * i) H')
        ⟨[], [], rfl, by simp, upd_same, .nil, KB.alloc hD2, (B4.alloc hD2).mono (by omega)⟩ ?_ ?_
      · rintro i H' hi ⟨st, xs, e1, e2, e3, e4, kb, B'⟩
        have lx : xs.length = i := by rw [drAll_len e4, List.length_map, e1]
        refine ⟨rfl, lcY ?_⟩
        refine ⟨(by show 2 ≤ sizeLine; decide), fun L hL => ⟨_, rfl, b, 2, _, rfl, B'.alloc hL, by omega, by decide, by decide, fun i1 H5 i0 i2 off5 B5 => ?_⟩⟩
        have hL5 : H5 L = some (.lst [.str "staff", .str "ticket"]) := by rw [off5 L (B'.fresh hL)]; exact upd_same
        have hz : ∃ z : Str, atI [V.str "staff", V.str "ticket"] i1 = some (.str z) ∧ (z = "staff" ∨ z = "ticket") := by
          rcases (by omega : i1 = 0 ∨ i1 = 1) with rfl | rfl
          · exact ⟨_, rfl, .inl rfl⟩
          · exact ⟨_, rfl, .inr rfl⟩
        obtain ⟨z, hz1, hz2⟩ := hz
        refine ⟨L, _, i1, .str z, rfl, rfl, SqL.of hL5, hz1, _, rfl, b, 2, _, rfl, B5, by omega, by decide, by decide, fun h6 H6 h0 h1 off6 B6 => ⟨(by show 2 ≤ sizeLine; decide), fun p hp => ?_⟩⟩
        have k5 : KB b H' H6 := ((KB.alloc (o := .lst [.str "staff", .str "ticket"]) hL).trans (KB.off off5)).trans (KB.off off6)
        have e36 : H6 D2 = some (.lst xs) := k5 _ _ nD2b e3
        have npD : D2 ≠ p := ne_of_none e36 hp
        have npb : p ≠ b := B6.fresh hp
        have np0 : H p = none := fresh0 ((k04.trans kb).trans k5) npb hp
        have eN := (hide_mono (D := D2) (nw_mono hbn (k5.trans (KB.alloc (o := .tup [.str z, .int h6]) hp)))).trans (nw_put (o := .lst (xs ++ [.ref p])))
        refine ⟨xs, by rw [upd_ne npD]; exact e36, by rw [lx]; exact lt_line i (by omega), st ++ [(z, h6)], xs ++ [.ref p], ?_, ?_, upd_same, ?_, ?_, ?_⟩
        · rw [List.length_append, e1]
          rfl
        · intro q hq
          rcases List.mem_append.mp hq with h | h
          · exact e2 q h
          · rw [List.mem_singleton.mp h]
            exact ⟨hz2, h0, by show h6 ≤ 1; omega⟩
        · rw [List.map_append]
          exact drAll_app (drAll_nt eN e4) (.cons (.tup (nw_put _ _ (by simp) (nw_newR npD.symm np0)) (.cons (.str _) (.cons (.int _) .nil))) .nil)
        · intro c o nc e
          rw [upd_ne (ne_of_none e hD2)]
          exact ((kb.trans k5).trans (KB.alloc hp)) c o nc e
        · exact ((B6.alloc hp).put nD2b).mono (by push_cast; omega)
      · rintro H5 ⟨st, xsS, f1, f2, f3, f4, kb5, B5⟩
        have dpS := drAll_nt (hide_nt D2 _) f4
        have dpP5 := drAll_nt (nw_mono hbn kb5) dpP
        have e35 := kb5 _ _ nDb e3
        have hLa5 := kb5 _ _ nLb hLa4
        have k05 := k04.trans kb5
        clear f4 dpP e3 hLa4 k04 kb5 B4 hD2
        refine ⟨Nat.zero_le _, fun L5 h5 => ?_⟩
        have nL5b : L5 ≠ b := B5.fresh h5
        have nL50 : H L5 = none := fresh0 k05 nL5b h5
        have kA : KB b H5 (upd H5 L5 (.lst [])) := KB.alloc h5
        have hL5' : (upd H5 L5 (.lst [])) L5 = some (.lst []) := upd_same
        have BA := B5.alloc (o := .lst []) h5
        have nhL5 : ∀ c o, H5 c = some o → c ≠ L5 := fun c o h => ne_of_none h h5
        generalize upd H5 L5 (.lst []) = HA at kA hL5' BA ⊢
        refine ⟨_, rfl, b, 3, _, rfl, BA, by omega, by decide, by decide, fun tn H6 t0 t3 off6 B6 => ?_⟩
        have kA6 := kA.trans (KB.off off6)
        have hL56 : H6 L5 = some (.lst []) := by rw [off6 L5 nL5b]; exact hL5'
        refine ⟨tn, rfl, by omega, by omega, for_it (walk_range (lo := 0) (n := tn.toNat)) (fun i σ H' => ∃ (v7 v8 v9 v10 v11 : Option V) (lo : List (Int × Int × Int)) (xs : List V), σ = [some (.ref b), some (.int (m : Nat)), some (.ref La), some (.ref D), some (.ref D2), some (.ref L5), some (.int (lastL 0 lo)), v7, v8, v9, v10, v11] ∧
          H' L5 = some (.lst xs) ∧ DrAll (hide L5 (nw H H')) xs (lo.map dL) ∧ lo.length ≤ i ∧ longsOk ((m - 1 : Nat) : Int) 0 lo ∧ 0 ≤ lastL 0 lo ∧ lastL 0 lo ≤ ((m - 1 : Nat) : Int) ∧ (∀ c o, c ≠ L5 → c ≠ b → H6 c = some o → H' c = some o) ∧ Bx b (n + 60 + 3 * i) H') ?_ ?_ ?_ ?_⟩
        · refine ⟨_, _, _, _, _, [], [], rfl, hL56, .nil, Nat.zero_le _, True.intro, Int.le_refl 0, ?_, fun c o _ _ h => h, B6.mono (by omega)⟩
          show (0 : Int) ≤ _
          omega
        · intros; trivial
        · rintro i x σ H' H'' hi ⟨v7, v8, v9, v10, v11, lo, xs, rfl, e1, e2, e3, e4, e5, e6, e7, B'⟩ ⟨rfl, rfl⟩
          have lx : xs.length = lo.length := by rw [drAll_len e2, List.length_map]
          refine ⟨_, rfl, _, _, rfl, rfl, _, rfl, _, _, rfl, rfl, _, rfl, ite2 (fun c => ?_) (fun c => ?_)⟩
          · have c' : lastL 0 lo + 2 < (m : Int) := of_decide_eq_true c
            generalize hlow : lastL 0 lo = low at e5 e6 c' ⊢
            refine ⟨_, rfl, _, rfl, _, rfl, _, _, rfl, rfl, _, rfl, _, _, rfl, rfl, b, (m : Int) - 2 - low, _, rfl, B', by omega, by omega, dec9000 (by omega) (by omega), fun r1 H7 r10 r11 off7 B7 => ⟨_, _, rfl, rfl, ?_⟩⟩
            refine ⟨_, rfl, _, _, rfl, rfl, _, rfl, _, rfl, _, _, rfl, rfl, _, rfl, _, _, rfl, rfl, b, (m : Int) - 2 - (low + r1), _, rfl, B7, by omega, by omega, dec9000 (by omega) (by omega), fun r2 H8 r20 r21 off8 B8 => ⟨_, _, rfl, rfl, ?_⟩⟩
            have e18 : H8 L5 = some (.lst xs) := by rw [off8 L5 nL5b, off7 L5 nL5b]; exact e1
            refine ⟨_, rfl, .inl ⟨rfl, _, SqL.of e18⟩, _, rfl, _, rfl, _, rfl, b, 2, _, rfl, B8, by omega, by decide, by decide, fun h H9 h0 h1 off9 B9 => ⟨(by show 3 ≤ sizeLine; decide), fun p hp => ?_⟩⟩
            have e19 : H9 L5 = some (.lst xs) := by rw [off9 L5 nL5b]; exact e18
            have npL : L5 ≠ p := ne_of_none e19 hp
            have npb : p ≠ b := B9.fresh hp
            have k9 : KB b _ H9 := ((KB.off off7).trans (KB.off off8)).trans (KB.off off9)
            have np0 : H p = none := by
              cases e : H p with
              | none => rfl
              | some o =>
                have z5 := k05 _ _ npb e
                have z9 := k9 _ _ npb (e7 _ _ (nhL5 _ _ z5) npb (kA6 _ _ npb z5))
                rw [z9] at hp
                cases hp
            have eN := (hide_mono (D := L5) (nw_mono hbn (k9.trans (KB.alloc (o := .tup [.int (low + r1), .int (low + r1 + 2 + r2), .int h]) hp)))).trans (nw_put (o := .lst (xs ++ [.ref p])))
            refine ⟨L5, xs, .ref p, rfl, rfl, by rw [upd_ne npL]; exact e19, by rw [lx]; exact lt_line _ (by omega), ?_⟩
            refine ⟨_, rfl, some (.int (0 + (i : Nat))), some (.int (low + r1)), some (.int (low + r1 + 2 + r2)), v10, v11, lo ++ [(low + r1, low + r1 + 2 + r2, h)], xs ++ [.ref p], ?_, upd_same, ?_, ?_, ?_, ?_, ?_, ?_, ?_⟩
            · rw [lastL_snoc]
              rfl
            · rw [List.map_append]
              exact drAll_app (drAll_nt eN e2) (.cons (.tup (nw_put _ _ (by simp) (nw_newR npL.symm np0)) (.cons (.int _) (.cons (.int _) (.cons (.int _) .nil)))) .nil)
            · rw [List.length_append]
              exact Nat.succ_le_succ e3
            · refine longsOk_snoc e4 (by rw [hlow]; omega) (by omega) (by omega) h0 (by omega)
            · rw [lastL_snoc]
              show 0 ≤ low + r1 + 2 + r2
              omega
            · rw [lastL_snoc]
              show low + r1 + 2 + r2 ≤ _
              omega
            · intro c o nc nb e
              rw [upd_ne nc]
              have z := k9 _ _ nb (e7 c o nc nb e)
              rw [upd_ne (ne_of_none z hp)]
              exact z
            · exact ((B9.alloc hp).put nL5b).mono (by push_cast; omega)
          · exact ⟨_, _, _, _, _, lo, xs, rfl, e1, e2, Nat.le_succ_of_le e3, e4, e5, e6, e7, B'.mono (by push_cast; omega)⟩
        · rintro σ H7 ⟨v7, v8, v9, v10, v11, lo, xsL, rfl, g1, g2, g3, g4, g5, g6, g7, B7⟩
          have k57 : KB b H5 H7 := fun c o nc h => g7 c o (nhL5 c o h) nc (kA6 c o nc h)
          have dpL := drAll_nt (hide_nt L5 _) g2
          have dpP7 := drAll_nt (nw_mono hbn k57) dpP5
          have dpS7 := drAll_nt (nw_mono hbn k57) dpS
          have e37 := k57 _ _ nDb e35
          have f37 := k57 _ _ nD2b f3
          have hLa7 := k57 _ _ nLb hLa5
          refine ⟨_, rfl, _, rfl, _, rfl, _, rfl, _, rfl, La, _, _, .str sp, rfl, rfl, SqL.of hLa7, last_at (by rw [List.map_append]; simp), (by show 4 ≤ sizeLine; decide), fun R hR => ?_⟩
          have eR := nw_mono hbn (KB.alloc (b := b) (o := .lst [.ref D, .ref D2, .ref L5, .str sp]) hR)
          have nR0 : H R = none := fresh0 (k05.trans k57) (B7.fresh hR) hR
          refine k ⟨ps, st, lo, sp⟩ _ _ ?_ ((k05.trans k57).trans (KB.alloc hR)) (.lst (by rw [nw_none nR0]; exact upd_same) (.cons (.lst (eR _ _ (by simp) (by rw [nw_none nD0]; exact e37)) (drAll_nt eR dpP7)) (.cons (.lst (eR _ _ (by simp) (by rw [nw_none nD20]; exact f37)) (drAll_nt eR dpS7)) (.cons (.lst (eR _ _ (by simp) (by rw [nw_none nL50]; exact g1)) (drAll_nt eR dpL)) (.cons (.str _) .nil))))) ((B7.alloc hR).mono (by omega))
          refine ⟨?_, ?_, ?_, ?_, ?_, f2, ?_, ?_, hns.ok sp (by simp), ?_⟩
          · show 2 ≤ ps.length
            omega
          · show ps.length ≤ 6
            omega
          · intro p hp
            refine ⟨hns.ok p.1 (List.mem_append_left _ ?_), e2 p hp⟩
            rw [← e1]
            exact List.mem_map.mpr ⟨p, hp, rfl⟩
          · show (ps.map (·.1)).Nodup
            rw [e1]
            exact hnd.1
          · show st.length + 1 = ps.length
            omega
          · show lo.length ≤ 2
            omega
          · show longsOk ((ps.length - 1 : Nat) : Int) 0 lo
            rw [lps]
            exact g4
          · show sp ∉ ps.map (·.1)
            rw [e1]
            exact hsp
end
end K8

set_option maxRecDepth 100000
set_option maxHeartbeats 1000000
/-! Refusals: a try with clauses, named or not, in any order; a class's def called by the class; isinstance of what was caught. -/
namespace My
open PySem PySem.Spec PyProof.Rows L2 GxR
/-! ### a try with clauses, named or not -/
abbrev Cl := Value × Option Nat × (Addr → Value → Option Addr → TS)
/-- what follows is the same by two ways: I holds there -/
theorem cutR {A : Prop} {G : Hp → Prop} (I : Hp → Prop) (main : (∀ H, I H → G H) → A) (last : ∀ H, I H → G H) : A := main last
def endsOff (i : Nat) (D : Ends) : Ends :=
  { nx := fun τ G => D.nx (τ.set i none) G, rt := D.rt, bk := fun τ G => D.bk (τ.set i none) G, ct := fun τ G => D.ct (τ.set i none) G }
def suiteOf (i : Option Nat) (t : TS) (a : Addr) (D : Ends) (σ : L2.St) (H : Hp) : Prop :=
  match i with
  | none => t D σ H
  | some i => t (endsOff i D) (σ.set i (some (.ref a))) H
/-- what the clauses wish, one behind the other -/
def wCl (K : PySem.W.Frag) (Wout : WX) (D : Ends) : List Cl → WX
  | [] => Wout
  | p :: l => fun cls d σ H => ∃ b, PySem.W.exmOne K cls p.1 = some b ∧
      (b = true → ∀ a, H a = none → suiteOf p.2.1 (p.2.2 a cls d) a D σ H) ∧ (b = false → wCl K Wout D l cls d σ H)
def SuiteOk (X : Cx) (ss : List Stmt) (ts : Addr → Value → Option Addr → TS) : Prop :=
  ∀ (a : Addr) (oe : Obj) (cls : Value) (d : Option Addr) (pn : List (Addr × Obj)), Zc cls d oe → (∃ fv, oe.data = .fields fv) → PSs (X.suite a ((a, oe) :: pn)) ss (ts a cls d)
inductive Clauses (X : Cx) : List ExceptHandler → List Cl → Prop
  | nil : Clauses X [] []
  | plain {x : Str} {c : Value} {ts : Addr → Value → Option Addr → TS} {st : Stmt} {ss : List Stmt} {p q : Pos} {hds : List ExceptHandler} {l : List Cl}
      (hc : Names X x c) (hsu : SuiteOk X (st :: ss) ts) (r : Clauses X hds l) : Clauses X (.ExceptHandler (some (.Name x p)) none (st :: ss) q :: hds) ((c, none, ts) :: l)
  | named {x n : Str} {i : Nat} {c : Value} {ts : Addr → Value → Option Addr → TS} {st : Stmt} {ss : List Stmt} {p q : Pos} {hds : List ExceptHandler} {l : List Cl}
      (hc : Names X x c) (hi : X.N[i]? = some n) (hn : X.env.kindOf n = some .local) (hsu : SuiteOk X (st :: ss) ts) (r : Clauses X hds l) :
      Clauses X (.ExceptHandler (some (.Name x p)) (some n) (st :: ss) q :: hds) ((c, some i, ts) :: l)
/-- an exception in hand -/
structure InHand (X : Cx) (pins : List (Addr × Obj)) (σ : L2.St) (H : Hp) (cls : Value) (d : Option Addr) (a : Addr) (B : Heap) (sI s : Shared) : Prop where
  inv : Inv X pins σ H sI
  grd : ∀ b o, sI.heap.get? b = some o → b ∉ frs X.stack → B.get? b = some o
  up : sI.heap.UpToSlots s.heap
  fly : HandSPX.FlyingZ B (X.env :: X.outer) a (Zc cls d) s.heap
  new : H a = none
  os : s.os = sI.os
  ag : AllBare s.gens
section
variable {X : Cx} {pins : List (Addr × Obj)} {σ : L2.St} {H : Hp} {cls : Value} {d : Option Addr} {a : Addr} {B : Heap} {sI s : Shared}
theorem InHand.now (h : InHand X pins σ H cls d a B sI s) : Inv X pins σ H s := h.inv.landed h.grd h.fly.1 h.up h.os h.ag
theorem InHand.move (h : InHand X pins σ H cls d a B sI s) {g : Heap} (f : HandSPX.FlyingZ B (X.env :: X.outer) a (Zc cls d) g) (u : s.heap.UpToSlots g) :
    InHand X pins σ H cls d a B sI { s with heap := g } := ⟨h.inv, h.grd, h.up.trans u, f, h.new, h.os, h.ag⟩
theorem InHand.seen (h : InHand X pins σ H cls d a B sI s) (hf : X.env.frame = some X.env.locals) :
    ∃ oe fv, s.heap.get? a = some oe ∧ Zc cls d oe ∧ oe.data = .fields fv ∧ a ≠ X.env.locals ∧ a ∉ X.fs := by
  obtain ⟨oe, fv, e1, e2, e3⟩ := h.fly.there
  have off : a ∉ frs (X.env :: X.outer) := by
    intro m
    obtain ⟨_, o2, e4, no⟩ := h.fly.2.2.1.mem m
    rw [e1] at e4
    obtain rfl := Option.some.inj e4
    exact no _ e3
  refine ⟨oe, fv, e1, e2, e3, fun z => off ?_, fun z => off ?_⟩
  · rw [z]
    exact List.mem_filterMap.mpr ⟨X.env, by simp, hf⟩
  · obtain ⟨v, hv, q⟩ := List.mem_filterMap.mp z
    exact List.mem_filterMap.mpr ⟨v, by simp [hv], q⟩
/-- the suite of a clause behind the try's own end -/
theorem InHand.leave (ok : X.Ok) {oe : Obj} {D : Ends} {f : Flow} {s2 : Shared} (h : SP (X.suite a ((a, oe) :: (X.pn ++ pins))) [] D f s2) : SP X pins D f s2 := by
  cases f with
  | ret u => obtain ⟨v, τ, G, J, r, q⟩ := h; exact ⟨v, τ, G, J.unsuite ok, r, q⟩
  | next => obtain ⟨τ, G, J, q⟩ := h; exact ⟨τ, G, J.unsuite ok, q⟩
  | brk => obtain ⟨τ, G, J, q⟩ := h; exact ⟨τ, G, J.unsuite ok, q⟩
  | cont => obtain ⟨τ, G, J, q⟩ := h; exact ⟨τ, G, J.unsuite ok, q⟩
/-- no clause took it -/
theorem InHand.out (hs : X.stack = X.env :: X.outer) (hf : X.env.frame = some X.env.locals) {Wout : WX} (tk : Takes X Wout) (h : InHand X pins σ H cls d a B sI s) (w : Wout cls d σ H) {Q : Flow → Shared → Prop} :
    wpAny (model X.prog X.w) X.A (handleBy (.ref a) X.env []) Q X.xe s := by
  have fly := h.fly
  refine wpAny_handleBy_nil ?_
  obtain ⟨_, _, _, oe, fv, T, _, _, e1, _, e2, e3, _⟩ := id h.fly
  unfold PySem.passOn
  refine wpAny_bind (wpAny_field e1 e2 e3 ?_)
  rw [if_neg (by simp)]
  have last : wpAny (model X.prog X.w) X.A (setFlight (.ref a) X.env.frame) (fun _ z => wpAny (model X.prog X.w) X.A (throw (.ref a) : Sem Flow) Q X.xe z) X.xe s := by
    rw [hf]
    refine HandSPX.setFlight_upZ fly fun g held up => wpAny_throw (tk _ _ ⟨a, B, sI, pins, σ, H, cls, d, rfl, h.inv, h.grd, h.up.trans up, .inr (.inr ?_), h.new, h.os, h.ag, w⟩)
    rw [hs]
    exact held
  first
    | exact wpAny_bind last
    | exact wpAny_bind (wpAny_pure (wpAny_bind last))
/-- the class that a clause names, told -/
theorem InHand.named (h : InHand X pins σ H cls d a B sI s) (hf : X.env.frame = some X.env.locals) {x : Str} {c : Value} {p : Pos} (hc : Names X x c) {Q : Value → Shared → Prop} {E : Value → Shared → Prop} (q : Q c s) :
    wpAny (model X.prog X.w) (X.A.mark (some (.ref a))) (eval (.Name x p) X.env) Q E s := by
  obtain ⟨oe, fv, e1, _, e3, n1, n2⟩ := h.seen hf
  have S := h.now.suite e1 e3 h.new n1 n2
  obtain ⟨hg, hd, hm | ⟨hm, hv, hn⟩⟩ := hc
  · exact ld_glob (X := X.suite a ((a, oe) :: (X.pn ++ pins))) S hg hm q hd
  · exact ld_blt (X := X.suite a ((a, oe) :: (X.pn ++ pins))) S hg hm hv q hn hd
theorem InHand.through (hs : X.stack = X.env :: X.outer) (hf : X.env.frame = some X.env.locals) (hN : X.N.Nodup) {Wout : WX} (tk : Takes X Wout) {D : Ends} {hds : List ExceptHandler} {l : List Cl}
    (ck : Clauses X hds l) : ∀ {s : Shared}, InHand X pins σ H cls d a B sI s → wCl X.K Wout D l cls d σ H → wpAny (model X.prog X.w) X.A (handleBy (.ref a) X.env hds) (SP X pins D) X.xe s := by
  induction ck with
  | nil => exact fun h w => h.out hs hf tk w
  | @plain x c ts st ss p q hds l hc hsu r ih =>
    rintro s h ⟨b, hb, yes, no⟩
    have fly := h.fly
    obtain ⟨oe, fv, e1, e2, _⟩ := h.seen hf
    have own : PySem.W.Looks (model X.prog X.w) s.heap (typeOf (.ref a)) cls := fun _ _ _ z k q => wpAny_typeOf_ref (k _ _ e1) (by rw [e2.1]; exact q)
    refine wpAny_handleBy_cons (codeAny_handlers_test (h.named hf hc ((PySem.W.exm_one h.now.kIn own hb).here ?_))) (fun z => by cases z)
    cases b with
    | false => exact ih h (no rfl)
    | true =>
      refine codeAny_handlers_suite (HandSPX.lands_againZ fly fun g f2 u2 => ?_)
      have h2 := h.move f2 u2
      obtain ⟨oe2, fv2, i1, i2, i3, i4, i5⟩ := h2.seen hf
      exact wpAny_mono ((hsu a oe2 cls d (X.pn ++ pins) i2 ⟨_, i3⟩).run [] _ _ _ _ (h2.now.suite i1 i3 h.new i4 i5) (yes rfl a h.new)) (fun f z y => InHand.leave h.inv.ok y) fun _ _ z => z.elim
  | @named x n i c ts st ss p q hds l hc hi hn hsu r ih =>
    rintro s h ⟨b, hb, yes, no⟩
    have fly := h.fly
    obtain ⟨oe, fv, e1, e2, _⟩ := h.seen hf
    have own : PySem.W.Looks (model X.prog X.w) s.heap (typeOf (.ref a)) cls := fun _ _ _ z k q => wpAny_typeOf_ref (k _ _ e1) (by rw [e2.1]; exact q)
    refine wpAny_handleBy_cons (codeAny_handlers_test (h.named hf hc ((PySem.W.exm_one h.now.kIn own hb).here ?_))) (fun z => by cases z)
    cases b with
    | false => exact ih h (no rfl)
    | true =>
      refine codeAny_handlers_suite_as (HandSPX.lands_againZ fly fun g f2 u2 => ?_)
      have h2 := h.move f2 u2
      obtain ⟨oe2, fv2, i1, i2, i3, i4, i5⟩ := h2.seen hf
      refine store_ok (X := X.suite a ((a, oe2) :: (X.pn ++ pins))) (v := .ref a) (h2.now.suite i1 i3 h.new i4 i5) hN hi (.inl hn) rfl (fun z J => ?_) (.inr hn)
      refine wpAny_mono ((hsu a oe2 cls d (X.pn ++ pins) i2 ⟨_, i3⟩).run [] z _ _ _ J (yes rfl a h.new)) (fun f y k => ?_) fun _ _ z => z.elim
      have k' := InHand.leave h.inv.ok k
      cases f with
      | next => obtain ⟨τ, G, J2, q2⟩ := k'; exact gone_ok J2 hN hi hn fun _ J3 => ⟨_, _, J3, q2⟩
      | brk => obtain ⟨τ, G, J2, q2⟩ := k'; exact gone_ok J2 hN hi hn fun _ J3 => ⟨_, _, J3, q2⟩
      | cont => obtain ⟨τ, G, J2, q2⟩ := k'; exact gone_ok J2 hN hi hn fun _ J3 => ⟨_, _, J3, q2⟩
      | ret u => obtain ⟨v, τ, G, J2, r2, q2⟩ := k'; exact gone_ok J2 hN hi hn fun _ J3 => ⟨_, _, _, J3, r2, q2⟩
end
/-- try: body, any clauses -/
theorem ps_try_cl {X : Cx} {body : List Stmt} {hd : ExceptHandler} {hds : List ExceptHandler} {l : List Cl} {pos : Pos} {tb : WX → TS} {Wout : WX} (hs : X.stack = X.env :: X.outer) (hf : X.env.frame = some X.env.locals) (hN : X.N.Nodup)
    (tk : Takes X Wout) (ck : Clauses X (hd :: hds) l)
    (hb : ∀ (W : WX) (pn : List (Addr × Obj)) (xe : Value → Shared → Prop), Takes (X.tr pn xe) W → PassesOwn (model X.prog X.w) X.A X.env xe → PSs (X.tr pn xe) body (tb W)) :
    PS X (.Try body (hd :: hds) [] [] pos) (fun D σ H => tb (wCl X.K Wout D l) D σ H) := by
  refine ⟨fun pins s σ H D I h => wpAny_Try_except ?_⟩
  have ok := I.ok
  have fr : X.A.frames = some (X.env :: X.outer) := by rw [ok.frames, hs]
  let xe : Value → Shared → Prop := fun e z => wpAny (model X.prog X.w) X.A (noteFrame e X.env) (fun _ z2 => wpAny (model X.prog X.w) X.A (setFlight e none)
    (fun _ z3 => wpAny (model X.prog X.w) X.A (handleBy e X.env (hd :: hds)) (SP X pins D) X.xe z3) X.xe z2) X.xe z
  have take : Takes (X.tr (X.pn ++ pins) xe) (wCl X.K Wout D l) := by
    rintro _ z ⟨a, B, sI, pn, τ, G, cls, d, rfl, J, grd, up, sky, new, os, ag, w⟩
    rw [show (X.tr (X.pn ++ pins) xe).stack = X.env :: X.outer from hs] at sky
    refine Sky.land Zc.steady fr hf sky fun g fly u => ?_
    exact InHand.through hs hf hN tk ck (s := { z with heap := g }) ⟨J.ofTry ok, grd, up.trans u, fly, new, os, ag⟩ w
  refine wpAny_mono ((hb _ _ xe take PassesOwn.looking).run [] s σ H D (I.toTry _) h) (fun f z k => ?_) fun _ _ z => z
  cases f with
  | next => obtain ⟨τ, G, J, q⟩ := k; exact wpAny_execs_nil ⟨τ, G, J.ofTry ok, q⟩
  | brk => obtain ⟨τ, G, J, q⟩ := k; exact ⟨τ, G, J.ofTry ok, q⟩
  | cont => obtain ⟨τ, G, J, q⟩ := k; exact ⟨τ, G, J.ofTry ok, q⟩
  | ret u => obtain ⟨v, τ, G, J, r, q⟩ := k; exact ⟨v, τ, G, J.ofTry ok, r, q⟩
/-! ### C.m(e, ..), C a class of the program -/
/-- what the written part says of a def f that a class at C tells by its name -/
structure ClsDef (K : PySem.W.Frag) (C f : Addr) (n : Str) : Prop where
  ga : PySem.W.specialIn K (.ref C) "__getattribute__" = some (some (.builtin "type.__getattribute__"))
  rd : PySem.W.readsIn K C (.type "type") = true
  at_ : PySem.W.findCls K (.ref C) (.type "type") n = some (.val (.ref f))
section
variable {X : Cx} {CX : CXT} {k : Nat} {C f : Addr} {fd : FuncData} {ps : List Str} {sp : Sp} {dvs : List V} {ds : List Value} {E : XK} {x n : Str} {p1 p2 pos : Pos} {e : Expr} {es : List Expr} {t : TA}
theorem pe_ccall {pl : Sem Bool} (T : ClsDef X.K C f n) (F : FnOk X.prog X.w X.K X.mg X.base CX k f fd ps sp) (hr : Room k X.A) (hg : Gl X x) (hm : X.mg x = some (.ref C)) (hk : PySem.W.keepIn X.K (.ref f) = true)
    (hb : Binds X.K fd ps ds) (hd : Vals dvs ds) (hx : Passes CX X E) (ha : PA X (e :: es) t) (hdb : (x == ("__debug__" : Str)) = false := by decide)
    (hc : eval (.Call (.Attribute (.Name x p1) n p2) (e :: es) [] pos) X.env = (do
      let ov ← eval (.Name x p1) X.env
      standAt p2.atName
      let (f, first) ← holding [ov] (getMethod ov n pl)
      callWith pos f first (backTo pos (starEach (e :: es) X.env)) (backToKw pos (keywordEach [] X.env))) := by rfl)
    (he : starEach (e :: es) X.env = (false, eval e X.env) :: starEach es X.env := by rfl) (hpl : (backTo pos (starEach es X.env)).any (·.1) = false := by rfl) :
    PE X (.Call (.Attribute (.Name x p1) n p2) (e :: es) [] pos) (tCall sp dvs E t) := by
  refine ⟨fun pins s σ H Q I h => PySem.W.methodCall_KW (ld_glob I hg hm ?_ hdb) hc⟩
  refine PySem.W.method_cls I.kIn T.ga (PySem.W.cls_value I.kIn T.rd T.at_ rfl ?_)
  refine PySem.W.callWith_K (h₀ := X.base) I.ok.mod.kin hk (thn (ha.run pos pins _ σ H _ (I.tok _) h) ?_) he hpl
  rintro us s1 ⟨vs, H1, I1, r, q⟩
  refine ⟨I1.kIn, ?_⟩
  have both := r.append hd
  have len : (us ++ ds).length = ps.length := (both.length).symm.trans (F.len _ _ _ _ q)
  refine wpAny_call (codeAny_mono (F.run X.A X.stack s1 H1 ⟨us, []⟩ (us ++ ds) (vs ++ dvs) Q E hr I1.env0 (hb s1 us I1.kIn len) both q) ?_)
  intro res z hz
  match res, hz with
  | .ok (.ret u), hz => exact I1.after hz
  | .error e, hz => exact hx pins σ H1 s1 e z I1 hz
  | .ok .next, hz => exact hz.elim
  | .ok .brk, hz => exact hz.elim
  | .ok .cont, hz => exact hz.elim
end
/-! ### o.m(e, ..) in a try's body -/
section
variable {X : Cx} {CX : CXT} {k : Nat} {C f : Addr} {fd : FuncData} {ps : List Str} {sp : Sp} {E : L2.St → XK} {m : Str} {pos apos : Pos} {e o : Expr} {es : List Expr} {ta : TE} {t : TA}
def tMethX (C : Addr) (m : Str) (sp : Sp) (E : L2.St → XK) (ta : TE) (t : TA) : TE := fun σ H Q => ta σ H fun x G => ∃ a dx fs, x = .ref a ∧ G a = some (.ins C dx fs) ∧ fs.lookup m = none ∧
  t σ G fun vs G2 => sp (x :: vs) G2 Q (E σ)
theorem pe_methX {pl : Sem Bool} (he : PE X o ta) (c : Cls X.K C) (hm : Meth X.K C m f) (F : FnOk X.prog X.w X.K X.mg X.base CX k f fd ps sp) (hr : Room k X.A) (hb : Binds X.K fd ps []) (hx : ∀ σ, PassesAt CX X σ (E σ)) (ha : PA X (e :: es) t)
    (hst : starEach (e :: es) X.env = (false, eval e X.env) :: starEach es X.env := by rfl) (hpl : (backTo pos (starEach es X.env)).any (·.1) = false := by rfl)
    (ht : eval (.Call (.Attribute o m apos) (e :: es) [] pos) X.env = (do
      let ov ← eval o X.env
      standAt apos.atName
      let (f, first) ← holding [ov] (getMethod ov m pl)
      callWith pos f first (backTo pos (starEach (e :: es) X.env)) (backToKw pos (keywordEach [] X.env))) := by rfl) :
    PE X (.Call (.Attribute o m apos) (e :: es) [] pos) (tMethX C m sp E ta t) := by
  refine ⟨fun pins s σ H Q I h => PySem.W.methodCall_KW (pl := pl) (thn (he.run pins s σ H _ I h) ?_) ht⟩
  rintro u z ⟨x, G, J, rx, a, dx, fs, rfl, ea, l, q⟩
  obtain rfl : u = Value.ref a := rx
  refine getmeth_ok J ea c hm l (PySem.W.callWith_K (first := [.ref a]) (h₀ := X.base) I.ok.mod.kin hm.kp (thn (ha.run pos pins z σ G _ J q) ?_) hst hpl)
  rintro us y ⟨vs, G2, J2, r, q2⟩
  exact ⟨J2.kIn, run_fnS (us := .ref a :: us) (vs := .ref a :: vs) F hr hb (hx σ) J2 (.cons rfl r) q2⟩
end
/-! ### the family: an __init__ over another class's, one field -/
/-- StaffError.__init__(self, text) and the like -/
def spUp (K : PySem.W.Frag) : Sp := fun vs H Q _ => ∃ (a C : Addr) (z : Str), vs = [.ref a, .str z] ∧ OexC K C ∧ H a = some (exo a C none) ∧ Q .non H
/-- C.__init__(self, x), its one field f -/
def spOne (K : PySem.W.Frag) (C : Addr) (f : Str) : Sp := fun vs H Q _ => ∃ (a : Addr) (v : V), vs = [.ref a, v] ∧ H a = some (exo a C none) ∧
  ∀ dx, H dx = none → dx ≠ a → Q .non (upd (upd H dx (exd dx [(f, v)])) a (exo a C (some dx)))
/-- what is left of a made exception: its dict alone -/
theorem made_eq {H : Hp} {a d C : Addr} {fs : List (Str × V)} (n : H a = none) (ne : d ≠ a) :
    upd (del (upd (upd (upd H a (exo a C none)) d (exd d fs)) a (exo a C (some d))) a) d (.xd fs) = upd H d (.xd fs) := by
  funext b
  by_cases hd : b = d
  · rw [hd, upd_same, upd_same]
  · rw [upd_ne hd, upd_ne hd]
    by_cases ha : b = a
    · rw [ha, del_same, n]
    · rw [del_ne ha, upd_ne ha, upd_ne hd, upd_ne ha]
/-- raise C(x): what is to be shown -/
theorem made_one {K : PySem.W.Frag} {C : Addr} {f : Str} {v : V} {H : Hp} {W : Value → Option Addr → Hp → Prop} (k : ∀ d, H d = none → W (.ref C) (some d) (upd H d (.xd [(f, v)]))) :
    ([v] : List V).length ≤ 1000 ∧ ∀ a, H a = none → spOne K C f (.ref a :: ([v] ++ [])) (upd H a (exo a C none))
      (fun u H2 => u = .non ∧ ∃ (d : Addr) (fs : List (Str × V)), H2 a = some (exo a C (some d)) ∧ H2 d = some (exd d fs) ∧ H d = none ∧ W (.ref C) (some d) (upd (del H2 a) d (.xd fs))) (fun _ _ _ => False) := by
  refine ⟨by simp, fun a n => ⟨a, v, rfl, upd_same, fun dx hdx ne => ⟨rfl, dx, [(f, v)], upd_same, ?_, ?_, ?_⟩⟩⟩
  · rw [upd_ne ne, upd_same]
  · rw [upd_ne ne] at hdx
    exact hdx
  · rw [made_eq n ne]
    rw [upd_ne ne] at hdx
    exact k dx hdx
/-- a class is its own -/
theorem sub_self {K : PySem.W.Frag} {C : Addr} {cd : ClassData} {r : List Value} (h : PySem.W.clsIn K C = some cd) (e : cd.mro = .ref C :: r) : PySem.W.subIn K (.ref C) (.ref C) = some true := by
  show PySem.W.mroIn K C (.ref C) = some true
  unfold PySem.W.mroIn
  rw [h]
  simp [e]
/-! ### isinstance of what was caught -/
structure CauC (K : PySem.W.Frag) (D : Addr) : Prop where
  cl : (PySem.W.clsIn K D).isSome = true
  ga : PySem.W.findIn K (.ref D) "__getattribute__" = some (some (.builtin "BaseException.__getattribute__"))
  gg : PySem.W.findIn K (.ref D) "__getattr__" = some none
  sub : PySem.W.subIn K (.ref D) (.type "BaseException") = some true
  co : PySem.W.findIn K (.ref D) "__class__" = some (some (.builtin "object.__class__"))
  cg : PySem.W.specialIn K (.builtin "object.__class__") "__get__" = some (some (.builtin "getset_descriptor.__get__"))
  ct : PySem.W.takesIn K (.builtin "object.__class__") = some true
  mo : PySem.W.mroIn K D (.type "object") = some true
/-- isinstance(e, c), e what the suite holds (cls its class, d its dict) -/
def rIsD (K : PySem.W.Frag) (D a : Addr) (cls : Value) (d : Option Addr) : List V → Hp → VK → Prop := fun xs H Q => ∃ (c : V) (cv : Value) (b : Bool) (dd : Addr) (fs : List (Str × V)),
  xs = [.ref a, c] ∧ (∀ u, RelV c u → u = cv) ∧ PySem.W.kitOne K (.ref D) cv = some b ∧ cls = .ref D ∧ d = some dd ∧ H dd = some (.xd fs) ∧ Q (.bl b) H
theorem call_isD {X : Cx} {a D : Addr} {cls : Value} {d : Option Addr} {oe : Obj} {pn : List (Addr × Obj)} (T : CauC X.K D) (hz : Zc cls d oe) (hf : ∃ fv, oe.data = .fields fv) :
    CallR (X.suite a ((a, oe) :: pn)) (.builtin "isinstance") (rIsD X.K D a cls d) := by
  rintro pins s σ H xs us Q I r ⟨c, cv, b, dd, fs, rfl, hcv, e, rfl, rfl, ed, q⟩
  cases r with
  | cons rx rr =>
    cases rr with
    | cons rt rr =>
      cases rr
      cases rx
      obtain rfl := hcv _ rt
      obtain ⟨hget, _⟩ := I.pin (a, oe) (by simp)
      obtain ⟨fv, hv⟩ := hf
      have hx : ObjOk X.prog X.w H s.heap dd (.xd fs) := I.hok dd _ ed
      obtain ⟨mA, hns, _⟩ := hx
      obtain ⟨od, ho, _⟩ := lookIn_ns hns
      have J : PySem.W.InstAt s.heap a oe D (some od) := ⟨hget, hz.1, by unfold PySem.W.notCls; rw [hv] <;> rfl, by rw [hz.2]; exact ho⟩
      exact PySem.W.kia_one (PySem.W.kitx_exc T.cl T.ga T.gg T.sub T.co T.cg T.ct T.mo) I.kIn J e (fun z => nomatch z) fun tk => ⟨.bl b, H, I.tok _, rfl, q⟩
/-- a call of a def that may raise, where it does not -/
theorem pass_no {X : Cx} : Passes (L2.CX X.prog X.w) X E0 := fun _ _ _ _ _ _ _ ⟨_, _, _, _, _, _, _, _, _, _, _, _, z⟩ => z.elim
theorem takes_never {X : Cx} : Takes X (fun _ _ _ _ => False) := fun _ _ ⟨_, _, _, _, _, _, _, _, _, _, _, _, _, _, _, _, z⟩ => z.elim
end My

set_option maxRecDepth 100000
set_option maxHeartbeats 400000
/-! Several refusals of one family: what the written part says of each. -/
namespace My
open PySem PySem.Spec PyProof.Rows L2 GxR Gd TL
/-- the class above them -/
structure SeT (K : PySem.W.Frag) (mg : Str → Option Value) (CS fS : Addr) (fdS : FuncData) (st : Stmt) : Prop where
  ve : mg "ValueError" = none
  vi : PySem.W.findCls K (.type "ValueError") (.type "type") "__init__" = some (.val (.builtin "ValueError.__init__"))
  g : mg "StaffError" = some (.ref CS)
  c : ClsDef K CS fS "__init__"
  k : PySem.W.keepIn K (.ref fS) = true
  F : Fun K "__init__" "StaffError.__init__" st fS fdS
  b : Binds K fdS ["self", "text"] []
/-- one of them -/
structure ExC (K : PySem.W.Frag) (mg : Str → Option Value) (x q : Str) (st : Stmt) (C f : Addr) (fd : FuncData) : Prop where
  g : mg x = some (.ref C)
  F : Fun K "__init__" q st f fd
  b : Binds K fd ["self", "found"] []
  o : OexC K C
  i : PySem.W.findIn K (.ref C) "__init__" = some (some (.ref f))
  t : PySem.W.typeIn K (.ref f) = some (.type "function")
  n : PySem.W.findIn K (.ref C) "found" = some none
  e : PySem.W.exmOne K (.ref C) (.ref C) = some true
  x : XfC K C
  u : CauC K C
section
variable {X : Cx} {CX : CXT} {k : Nat} {C f : Addr} {fd : FuncData} {ps : List Str} {sp : Sp} {E : L2.St → XK} {m : Str} {pos apos : Pos} {o : Expr} {ta : TE}
def tMethX0 (C : Addr) (m : Str) (sp : Sp) (E : L2.St → XK) (ta : TE) : TE := fun σ H Q => ta σ H fun x G => ∃ a dx fs, x = .ref a ∧ G a = some (.ins C dx fs) ∧ fs.lookup m = none ∧ sp [x] G Q (E σ)
/-- o.m() in a try's body -/
theorem pe_methX0 {pl : Sem Bool} (he : PE X o ta) (c : Cls X.K C) (hm : Meth X.K C m f) (F : FnOk X.prog X.w X.K X.mg X.base CX k f fd ps sp) (hr : Room k X.A) (hb : Binds X.K fd ps []) (hx : ∀ σ, PassesAt CX X σ (E σ))
    (ht : eval (.Call (.Attribute o m apos) [] [] pos) X.env = (do
      let who ← eval o X.env
      standAt apos.atName
      let (g, ahead) ← holding [who] (getMethod who m pl)
      callWith pos g ahead (backTo pos (starEach [] X.env)) (backToKw pos (keywordEach [] X.env))) := by rfl) :
    PE X (.Call (.Attribute o m apos) [] [] pos) (tMethX0 C m sp E ta) := by
  refine ⟨fun pins s σ H Q I h => PySem.W.methodCall_KW (pl := pl) (thn (he.run pins s σ H _ I h) ?_) ht⟩
  rintro u z ⟨x, G, J, rx, a, dx, fs, rfl, ea, l, q⟩
  obtain rfl := show u = Value.ref a from rx
  refine getmeth_ok J ea c hm l ?_
  exact PySem.W.callWith_K0 (first := [.ref a]) J.kIn hm.kp (run_fnS (us := [.ref a]) (vs := [.ref a]) F hr hb (hx σ) J (.cons rfl .nil) q)
end
end My

set_option maxRecDepth 100000
set_option maxHeartbeats 1000000
/-! The end of a law whose own def shows dicts: the module table is tracked, so that no new thing is it. For laws without tables. -/
namespace Gd
open PySem PySem.Spec PyProof.Rows L2 GxR
/-- the module table: it is there -/
def smU : HO := .ext fun h => ∃ o, h.get? sysModules = some o
def SmAt (H : Hp) : Prop := ∃ o, H sysModules = some (.frz o smU)
theorem SmAt.same {H H' : Hp} (h : SmAt H) (s : Same H H') : SmAt H' := let ⟨o, e⟩ := h; ⟨o, s _ _ e⟩
theorem smU_ne {u : HO} (n : ∀ φ, u ≠ .ext φ) : smU ≠ u := fun z => n _ z.symm
open Classical in
noncomputable def hs0 (K : PySem.W.Frag) (a : Addr) (vs : List Value) (ns : List Int) (o1 : Obj) : Hp := fun b =>
  if b = sysModules then some (.frz o1 smU) else if b = a ∧ K.lookup a = none then some (.frz (scriptO vs) (.lst (ns.map V.int))) else none
theorem hs0_inv {K : PySem.W.Frag} {a b : Addr} {vs : List Value} {ns : List Int} {o1 : Obj} {u : HO} (h : hs0 K a vs ns o1 b = some u) :
    (b = sysModules ∧ u = .frz o1 smU) ∨ (b = a ∧ K.lookup a = none ∧ u = .frz (scriptO vs) (.lst (ns.map V.int))) := by
  unfold hs0 at h
  split at h
  · rename_i c
    exact .inl ⟨c, (Option.some.inj h).symm⟩
  · split at h
    · rename_i c
      exact .inr ⟨c.1, c.2, (Option.some.inj h).symm⟩
    · cases h
section
variable {P : Program} {w : World} {K : PySem.W.Frag} {mg mb : Str → Option Value} {CX : CXT} {k : Nat} {fa a : Addr} {fd : FuncData} {x : Str} {sp : Sp} {s1 : Shared} {vs : List Value} {ns : List Int}
theorem law_scall (KX : K.In s1.heap) (nsG : s1.heap.Ns mainGlobals mg) (nsB : s1.heap.Ns builtinsNs mb) (isB : ∀ x : Str, x ≠ "__name__" → mb x = bootBuiltins x) (lim : s1.heap.NoLimit) (gens : s1.gens = #[])
    (hsm : ∃ o, s1.heap.get? sysModules = some o) (k1 : K.lookup sysModules = none) (na : a ≠ sysModules) (ha : s1.heap.get? a = some (scriptO vs)) (hi : IntsAre vs ns) (hl : ns.length ≤ sizeLine) (hr : Room k callerA)
    (F : ∀ base : Heap, K.In base → base.Ns mainGlobals mg → GOk P w K mg base CX k fa fd [x] sp) (hbind : ∀ (s : Shared) (u : Value), BindsTo s fd ⟨[u], []⟩ [(x, u)])
    (hsp : ∀ H : Hp, SmAt H → SqL K H a (ns.map V.int) → sp [.ref a] H (fun v _ => v = .bl true) fun _ _ _ => False) (hCX : ∀ H e s', CX [] H s1 (fun _ _ _ => False) e s' → False) :
    codeAny (model P w) callerA (.call (.ref fa) ⟨[.ref a], []⟩) (fun r s' => r = .ok (.ret (.bool true)) ∧ OldK s1.heap s'.heap ∧ s'.os = s1.os ∧ AllBare s'.gens) s1 := by
  have rv := vals_ints hi
  have hlen := hi.length
  obtain ⟨o1, ho1⟩ := hsm
  let H := hs0 K a vs ns o1
  have off : ∀ {b : Addr}, b ≠ sysModules → b ≠ a → H b = none := fun {b} n1 n2 => by
    cases q : H b with
    | none => rfl
    | some u =>
      rcases hs0_inv q with ⟨e, _⟩ | ⟨e, _⟩
      · exact absurd e n1
      · exact absurd e n2
  have dic : ∀ {b : Addr} {m : Str → Option Value}, b ≠ sysModules → s1.heap.Ns b m → (hidT s1.heap H).Ns b m := by
    rintro b m n1 ⟨o, es, ep, e, d, rest⟩
    refine ⟨o, es, ep, hidT_get e (off n1 ?_), d, rest⟩
    rintro rfl
    rw [ha] at e
    obtain rfl := Option.some.inj e
    cases d
  have KH : K.In (hidT s1.heap H) := by
    intro b o e
    refine hidT_get (KX b o e) ?_
    cases q : H b with
    | none => rfl
    | some u =>
      rcases hs0_inv q with ⟨rfl, _⟩ | ⟨rfl, z, _⟩
      · rw [k1] at e
        cases e
      · rw [z] at e
        cases e
  have limH : (hidT s1.heap H).NoLimit := let ⟨mc, h1, h2⟩ := lim; ⟨mc, dic (by decide) h1, h2⟩
  have M : L2.Mod K mg (hidT s1.heap H) := ⟨KH, dic (by decide) nsG, ⟨mb, dic (by decide) nsB, isB⟩, limH⟩
  have hS : SqL K H a (ns.map V.int) := by
    cases q : K.lookup a with
    | none => exact .inl (.inr ⟨scriptO vs, (if_neg na).trans (if_pos ⟨rfl, q⟩)⟩)
    | some o =>
      have e := KX a o q
      rw [ha] at e
      obtain rfl := Option.some.inj e
      exact .inr ⟨_, vs.toArray, _, q, rfl, rfl, rfl, by rw [List.size_toArray, hlen]; exact hl, by simpa using rv⟩
  have hok : HOk P w H s1.heap := by
    intro b u q
    rcases hs0_inv q with ⟨rfl, rfl⟩ | ⟨rfl, _, rfl⟩
    · exact ⟨ho1, ⟨_, ho1⟩, ⟨_, ho1⟩, fun h1 h2 ⟨o, z⟩ k => ⟨o, k _ z⟩⟩
    · exact ⟨ha, by rw [List.length_map]; exact hl, vs, _, rv, ha⟩
  have e0 : Env0 P w K mg (hidT s1.heap H) callerA [] s1 H :=
    ⟨rfl, M, fun b o e => of_hidT e, Nat.le_of_eq (hidT_size _ _), trivial, (fun b hb => by cases (show b ∈ ([] : List Addr) from hb)), hok, .of_eq gens⟩
  refine codeAny_mono ((F _ KH (dic (by decide) nsG)).go callerA [] s1 H ⟨[.ref a], []⟩ [.ref a] [.ref a] (fun v _ => v = .bl true) (fun _ _ _ => False) rfl hr e0 (hbind s1 (.ref a)) (.cons rfl .nil) (hsp H ⟨o1, if_pos rfl⟩ hS)) ?_
  intro r z h
  match r, h with
  | .ok .next, h => exact h.elim
  | .ok .brk, h => exact h.elim
  | .ok .cont, h => exact h.elim
  | .error e, h => exact (hCX H e z h).elim
  | .ok (.ret u), h =>
    obtain ⟨v, G, os, bare, un, hokG, rv', q⟩ := h
    obtain rfl : v = .bl true := q
    obtain rfl : u = Value.bool true := rv'
    have plain : ∀ b o, s1.heap.get? b = some o → z.heap.get? b = some o := by
      intro b o e
      cases q : H b with
      | none => exact un.keep b o e q (fun y => by cases (show b ∈ ([] : List Addr) from y)) (by simp)
      | some y =>
        rcases hs0_inv q with ⟨rfl, rfl⟩ | ⟨rfl, _, rfl⟩
        · obtain ⟨e2, _⟩ := hokG sysModules _ (un.frzs _ _ _ q)
          rw [ho1] at e
          exact Option.some.inj e ▸ e2
        · obtain ⟨e2, _⟩ := hokG b _ (un.frzs b _ _ q)
          rw [ha] at e
          exact Option.some.inj e ▸ e2
    exact ⟨rfl, ⟨fun b o e => .inl (plain b o e), fun b o e => ⟨o, plain b o e⟩⟩, os, bare⟩
end
/-- what is to be known of such a law -/
def GLawS (l : PySem.W.OpenLaw) (w : World) (K : PySem.W.Frag) (CX : CXT) (k n : Nat) (x : Str) (mg : Str → Option Value) (fa : Addr) : Prop :=
  ∃ (fd : FuncData) (sp : Sp), K.lookup sysModules = none ∧ (∀ (s : Shared) (u : Value), BindsTo s fd ⟨[u], []⟩ [(x, u)]) ∧
    (∀ (H : Hp) (a : Addr) (ns : List Int), ns.length ≤ n → SmAt H → SqL K H a (ns.map V.int) → sp [.ref a] H (fun v _ => v = .bl true) fun _ _ _ => False) ∧
    ∀ base : Heap, K.In base → base.Ns mainGlobals mg → GOk l.prog w K mg base CX k fa fd [x] sp
open PySem.W in
theorem walk_s {l : PySem.W.OpenLaw} {n k : Nat} {q : Program} {loose : List Str} {XP : (Str → Option Value) → Heap → Prop} {YP : World → Heap → Prop} {d : DefRec} {K : Params → PySem.W.Frag} {CX : World → CXT} {x : Str}
    (no : importsNone q = true) (hn : l.most = some n) (small : n ≤ sizeLine) (hdf : d.params.defaults = []) (hr : Room k callerA) (hY : ∀ (w : World) (h : Heap), YP w h → (K w.params).In h)
    (F : ∀ (w : World) (mg : Str → Option Value) (fa : Addr) (h : Heap), YP w h → (K w.params).In h → h.Ns mainGlobals mg → mg d.name = some (.ref fa) → GLawS l w (K w.params) (CX w) k n x mg fa)
    (hCX : ∀ (w : World) (H : Hp) (s : Shared) (e : Value) (s' : Shared), CX w [] H s (fun _ _ _ => False) e s' → False) :
    PySem.W.WalkO q loose XP YP l.row.toRowW d [] (fun f vs => PySem.call f vs) := by
  intro w s0 s1 mg mb G Y fa o pm cd doc dV kV ho hd hcd hD hmg hg args vals as pre lay rd well low
  obtain ⟨a, vs, ns, rfl, rfl, hobj, hints, hlen⟩ := Att.script_of hn pre well
  have na : a ≠ sysModules := by
    cases rd with
    | cons r1 r2 =>
      cases r1 with
      | list _ _ _ _ => exact beq_eq_false_iff_ne.mp (low a (by simp))
  have KX := hY w _ Y
  obtain ⟨fd, sp, k1, hb, hsp, hF⟩ := F w mg fa _ Y KX G.T.g hmg
  have run := law_scall KX G.T.g G.T.b G.T.builtins G.T.nolimit hg (let ⟨_, ⟨o, _, _, e, _⟩, _⟩ := (G.T.seer no).mods; ⟨o, e⟩) k1 na hobj hints (Nat.le_trans hlen small) hr hF hb (fun H a1 a2 => hsp H a ns hlen a1 a2) (fun H e s' => hCX w H s1 e s')
  refine enter_call (codeAny_mono run ?_)
  rintro r z ⟨rfl, old, os, bare⟩
  exact ⟨.inl ⟨.bool true, .bool true, [], rfl, fun _ => rfl, .bool true, Att.post_true l _, fun _ => ⟨List.Pairwise.nil, fun _ m => (nomatch m)⟩⟩, old, os, bare⟩
end Gd

set_option maxRecDepth 100000
set_option maxHeartbeats 1000000
/-! Data with dicts: what repr asks of them. -/
namespace My
open PySem PySem.Spec PyProof.Rows L2 GxR Gd TL
theorem same_new {H : Hp} {p : Addr} {o : HO} (n : H p = none) : Same H (upd H p o) := fun b u e => by rw [upd_ne (ne_of_none e n)]; exact e
theorem sameT {K : PySem.W.Frag} {H H' : Hp} {a : Addr} {xs : List V} (s : Same H H') (h : SqT K H a xs) : SqT K H' a xs := by
  rcases h with (h | ⟨o, h⟩) | h
  · exact .inl (.inl (s _ _ h))
  · exact .inl (.inr ⟨o, s _ _ h⟩)
  · exact .inr h
def keyD : Key → PyData
  | .inl i => .int i
  | .inr x => .str x
mutual
/-- v is the data d, dicts too -/
inductive Dq (K : PySem.W.Frag) (H : Hp) : V → PyData → Prop
  | non : Dq K H .non .none
  | bl (b : Bool) : Dq K H (.bl b) (.bool b)
  | int (i : Int) : Dq K H (.int i) (.int i)
  | str (z : Str) : Dq K H (.str z) (.str z)
  | lst {a : Addr} {xs : List V} {ds : List PyData} (e : SqL K H a xs) (h : DqAll K H xs ds) : Dq K H (.ref a) (.list ds)
  | tup {a : Addr} {xs : List V} {ds : List PyData} (e : SqT K H a xs) (h : DqAll K H xs ds) : Dq K H (.ref a) (.tuple ds)
  | dic {a : Addr} {kvs : List (Key × V)} {ds : List (PyData × PyData)} (e : H a = some (.dK kvs)) (h : DqKv K H kvs ds) : Dq K H (.ref a) (.dict ds)
inductive DqAll (K : PySem.W.Frag) (H : Hp) : List V → List PyData → Prop
  | nil : DqAll K H [] []
  | cons {v : V} {vs : List V} {d : PyData} {ds : List PyData} (h : Dq K H v d) (t : DqAll K H vs ds) : DqAll K H (v :: vs) (d :: ds)
inductive DqKv (K : PySem.W.Frag) (H : Hp) : List (Key × V) → List (PyData × PyData) → Prop
  | nil : DqKv K H [] []
  | cons {k : Key} {v : V} {r : List (Key × V)} {d : PyData} {ds : List (PyData × PyData)} (h : Dq K H v d) (t : DqKv K H r ds) : DqKv K H ((k, v) :: r) ((keyD k, d) :: ds)
end
mutual
theorem Dq.of {K : PySem.W.Frag} {H : Hp} : ∀ {v : V} {d : PyData}, Dp K H v d → Dq K H v d
  | _, _, .non => .non
  | _, _, .bl b => .bl b
  | _, _, .int i => .int i
  | _, _, .str z => .str z
  | _, _, .lst e h => .lst e (DqAll.of h)
  | _, _, .tup e h => .tup e (DqAll.of h)
theorem DqAll.of {K : PySem.W.Frag} {H : Hp} : ∀ {vs : List V} {ds : List PyData}, DpAll K H vs ds → DqAll K H vs ds
  | _, _, .nil => .nil
  | _, _, .cons h t => .cons (Dq.of h) (DqAll.of t)
end
mutual
theorem Dq.same {K : PySem.W.Frag} {H H' : Hp} (s : Same H H') : ∀ {v : V} {d : PyData}, Dq K H v d → Dq K H' v d
  | _, _, .non => .non
  | _, _, .bl b => .bl b
  | _, _, .int i => .int i
  | _, _, .str z => .str z
  | _, _, .lst e h => .lst (s.seq e) (DqAll.same s h)
  | _, _, .tup e h => .tup (sameT s e) (DqAll.same s h)
  | _, _, .dic e h => .dic (s _ _ e) (DqKv.same s h)
theorem DqAll.same {K : PySem.W.Frag} {H H' : Hp} (s : Same H H') : ∀ {vs : List V} {ds : List PyData}, DqAll K H vs ds → DqAll K H' vs ds
  | _, _, .nil => .nil
  | _, _, .cons h t => .cons (Dq.same s h) (DqAll.same s t)
theorem DqKv.same {K : PySem.W.Frag} {H H' : Hp} (s : Same H H') : ∀ {kvs : List (Key × V)} {ds : List (PyData × PyData)}, DqKv K H kvs ds → DqKv K H' kvs ds
  | _, _, .nil => .nil
  | _, _, .cons h t => .cons (Dq.same s h) (DqKv.same s t)
end
theorem keyD_reads {h : Heap} {k : Key} {v : Value} (e : keyIs k v = true) : Reads h v (keyD k) [] := by
  rcases keyIs_shape e with ⟨i, t, rfl, rfl⟩ | ⟨x, t, rfl, rfl⟩
  · exact .int i t
  · exact .str x t
section
variable {X : Cx} {pins : List (Addr × Obj)} {σ : L2.St} {H : Hp} {s : Shared}
theorem ne_sm {K : PySem.W.Frag} {H : Hp} {a : Addr} {xs : List V} (n : K.lookup sysModules = none) (sm : SmAt H) (h : SqL K H a xs) : a ≠ sysModules := by
  rintro rfl
  obtain ⟨o, e⟩ := sm
  rcases h with (h | ⟨u, h⟩) | ⟨u, _, _, h, _⟩
  · rw [e] at h
    cases h
  · rw [e] at h
    cases h
  · rw [n] at h
    cases h
mutual
theorem Dq.reads (n : X.K.lookup sysModules = none) (sm : SmAt H) (I : Inv X pins σ H s) : ∀ (d : PyData) (v : V) (u : Value), Dq X.K H v d → RelV v u → ∃ as, Reads s.heap u d as ∧ sysModules ∉ as
  | .none, _, _, h, r => by
    cases h
    cases r
    exact ⟨_, .none, by simp⟩
  | .bool b, _, _, h, r => by
    cases h
    cases r
    exact ⟨_, .bool b, by simp⟩
  | .int i, _, _, h, r => by
    cases h
    obtain ⟨t, rfl⟩ := r
    exact ⟨_, .int i t, by simp⟩
  | .str z, _, _, h, r => by
    cases h
    obtain ⟨t, rfl⟩ := r
    exact ⟨_, .str z t, by simp⟩
  | .list ds, _, _, h, r => by
    cases h with
    | lst hs ha =>
      cases r
      obtain ⟨its, rv, ⟨o, m, ho, hc, _, hd⟩, _⟩ := I.list hs
      obtain ⟨as, hr, no⟩ := Dq.readsAll n sm I ds _ its ha rv
      exact ⟨_, .list ho hc hd hr, fun m => (List.mem_cons.mp m).elim (ne_sm n sm hs).symm no⟩
  | .tuple ds, _, _, h, r => by
    cases h with
    | tup hs ha =>
      cases r
      obtain ⟨its, rv, ⟨o, ho, hc, m, hd⟩, _⟩ := I.tuple hs
      obtain ⟨as, hr, no⟩ := Dq.readsAll n sm I ds _ its ha rv
      exact ⟨_, .tuple ho hc hd hr, no⟩
  | .dict ds, _, _, h, r => by
    cases h with
    | dic e hk =>
      cases r
      obtain ⟨_, ne, vs, rel, o, es, ep, ho, hx, hd, _, hp, _⟩ := dk_of I.hok e
      obtain ⟨as, bs, h1, h2, n1, n2⟩ := Dq.readsKv n sm I ds _ vs es.toList hk rel hp
      refine ⟨_, .dict ho hx.1 hd h1 h2, fun m => ?_⟩
      rw [List.cons_append] at m
      rcases List.mem_cons.mp m with m | m
      · exact (beq_eq_false_iff_ne.mp ne) m.symm
      · exact (List.mem_append.mp m).elim n1 n2
theorem Dq.readsAll (n : X.K.lookup sysModules = none) (sm : SmAt H) (I : Inv X pins σ H s) : ∀ (ds : List PyData) (vs : List V) (us : List Value), DqAll X.K H vs ds → Vals vs us → ∃ as, ReadsAll s.heap us ds as ∧ sysModules ∉ as
  | [], _, _, h, r => by
    cases h
    cases r
    exact ⟨_, .nil, by simp⟩
  | d :: ds, _, _, h, r => by
    cases h with
    | cons h1 h2 =>
      cases r with
      | cons r1 r2 =>
        obtain ⟨as, q1, n1⟩ := Dq.reads n sm I d _ _ h1 r1
        obtain ⟨bs, q2, n2⟩ := Dq.readsAll n sm I ds _ _ h2 r2
        exact ⟨_, .cons q1 q2, fun m => (List.mem_append.mp m).elim n1 n2⟩
theorem Dq.readsKv (n : X.K.lookup sysModules = none) (sm : SmAt H) (I : Inv X pins σ H s) : ∀ (ds : List (PyData × PyData)) (kvs : List (Key × V)) (vs : List (Key × Value)) (es : List DictEntry), DqKv X.K H kvs ds → KV kvs vs → Pairs (mixKind X.prog X.w) es vs →
    ∃ as bs, ReadsAll s.heap (es.map (·.key)) (ds.map (·.1)) as ∧ ReadsAll s.heap (es.map (·.val)) (ds.map (·.2)) bs ∧ sysModules ∉ as ∧ sysModules ∉ bs
  | [], _, _, _, h, r, p => by
    cases h
    cases r
    cases p
    exact ⟨_, _, .nil, .nil, by simp, by simp⟩
  | (_, d) :: ds, _, _, _, h, r, p => by
    cases h with
    | cons h1 h2 =>
      cases r with
      | cons r1 r2 =>
        cases p with
        | cons p1 p2 p3 =>
          obtain ⟨as, q1, n1⟩ := Dq.reads n sm I d _ _ h1 r1.2
          obtain ⟨bs, cs, q2, q3, n2, n3⟩ := Dq.readsKv n sm I ds _ _ _ h2 r2 p3
          refine ⟨_, _, .cons (keyD_reads ?_) q2, .cons ?_ q3, by simpa using n2, fun m => (List.mem_append.mp m).elim n1 n3⟩
          · have e := r1.1
            dsimp only at e ⊢
            rw [e]
            exact p1
          · dsimp only
            rw [p2]
            exact q1
end
end
/-- repr(v), v data with dicts -/
def rReprQ (K : PySem.W.Frag) : List V → Hp → VK → Prop := fun xs H Q => ∃ v d, xs = [v] ∧ SmAt H ∧ Dq K H v d ∧ d.showable = true ∧ d.depth ≤ 100 ∧ d.shown.length ≤ sizeLine ∧ Q (.str d.shown) H
theorem call_reprQ {X : Cx} {k : Nat} (n : X.K.lookup sysModules = none) (gd : X.A.guards = some []) (hr : Room k X.A) : CallR X (.builtin "repr") (rReprQ X.K) := by
  rintro pins s σ H xs us Q I r ⟨v, d, rfl, sm, dq, hs, hdep, hsz, q⟩
  have whole : ∀ {a : Addr} {as : List Addr}, Reads s.heap (.ref a) d as → sysModules ∉ as → wpAny (model X.prog X.w) X.A (call (.builtin "repr") [.ref a]) (EP X pins σ Q) X.xe s := by
    intro a as rd no
    have hun := hr.un
    exact repr_of_reads' rd hs (fun _ => no) gd (by omega) (fun _ _ z => z) (fun h' u tk hk => ⟨.str _, H, I.kept hk, ⟨_, rfl⟩, q⟩) hsz
  cases dq with
  | non => exact call_repr gd hr pins s σ H _ us Q I r ⟨_, _, rfl, .non, hs, hdep, hsz, q⟩
  | bl b => exact call_repr gd hr pins s σ H _ us Q I r ⟨_, _, rfl, .bl b, hs, hdep, hsz, q⟩
  | int i => exact call_repr gd hr pins s σ H _ us Q I r ⟨_, _, rfl, .int i, hs, hdep, hsz, q⟩
  | str z => exact call_repr gd hr pins s σ H _ us Q I r ⟨_, _, rfl, .str z, hs, hdep, hsz, q⟩
  | lst e h =>
    obtain ⟨as, rd, no⟩ := Dq.reads n sm I _ _ us.head! (.lst e h) (by cases r with | cons a b => cases b; exact a)
    cases r with
    | cons a b => cases b; cases a; exact whole rd no
  | tup e h =>
    obtain ⟨as, rd, no⟩ := Dq.reads n sm I _ _ us.head! (.tup e h) (by cases r with | cons a b => cases b; exact a)
    cases r with
    | cons a b => cases b; cases a; exact whole rd no
  | dic e h =>
    obtain ⟨as, rd, no⟩ := Dq.reads n sm I _ _ us.head! (.dic e h) (by cases r with | cons a b => cases b; exact a)
    cases r with
    | cons a b => cases b; cases a; exact whole rd no
end My

set_option maxRecDepth 100000
set_option maxHeartbeats 1000000
/-! x in texts, x any thing -/
namespace My
open PySem PySem.Spec PyProof.Rows L2 GxR Gd TL
open PySem.SeqAt PySem.MeetsSeq in
theorem str_eq_dict (b : Str) (u : Tok) (l : Addr) (c : Value) (es : Array DictEntry) (n : Nat) (dd : Option Addr) (sl : Array (Option Value)) :
    Meets (Builtin.«str.__eq__» ⟨[.str b u, .ref l], []⟩) (fun _ R s => s.heap.get? l = some { cls := c, dict := dd, data := .dict es n, slots := sl } ∧ R (.ok (.ret .notImplemented)) s) :=
  .of_wp fun prog w A R s h => by obtain ⟨hp, g, d, tk, os⟩ := s; obtain ⟨hl, h⟩ := h; wp_walk using wpAny_loadPart hl, wpAny_load hl; exact ⟨_, rfl, h⟩
end My
namespace My
open PySem PySem.Spec PyProof.Rows L2 GxR Gd TL
open PySem.SeqAt PySem.MeetsSeq in
theorem rcAt_str_dict {A : Around} {s : Shared} {l : Addr} {o : Obj} {es : Array DictEntry} {n : Nat} (b : Str) (u : Tok) (ho : s.heap.get? l = some o) (hc : o.cls = .type "dict") (hd : o.data = .dict es n) (hu : A.units < cLine) : RcAt A s (.str b u) (.ref l) false := fun prog w E Q h => by
  obtain ⟨cls, dd, data, sl⟩ := o
  simp only at hc hd
  subst hc hd
  have ty : s.TypeIs (.ref l) "dict" := ⟨_, ho, rfl⟩
  refine rc_eq_decline_or (k := false) (typeIs_str s b u) ty (by decide) PySem.F.sub_dict_str PySem.F.slot_str_eq PySem.F.slot_dict_eq_refl
    (fun _ hq => call_meets PySem.F.slot_str_eq (typeIs_str s b u) PySem.F.entry_str_eq (PySem.F.args_str_eq_2 _ _) (str_eq_dict b u l (.type "dict") es n dd sl) ⟨ho, hq⟩)
    (fun _ hq => ?_)
    (fun _ hq => wpAny_of_eq (rfl : isSame (.str b u) (.ref l) = pure false) hq) (.inr hu) h
  refine wpAny_call_entry PySem.F.slot_dict_eq_refl ty PySem.F.entry_dict_eq ?_ (PySem.F.args_dict_eq_2 _ _)
  show wpAny _ _ (Builtin.Dict.dictSlotArgs "__eq__" ⟨[.ref l, .str b u], []⟩ >>= _) _ _ s
  refine wpAny_bind ?_
  unfold Builtin.Dict.dictSlotArgs
  refine wpAny_bind (wpAny_notOrdered_dict ty ?_)
  show wpAny _ _ (pure (Value.ref l, Value.str b u)) _ _ s
  refine wpAny_pure ?_
  refine wpAny_bind (wpAny_isInstance (T := "str") (typeIs_str s b u) PySem.F.sub_str_dict ?_)
  simp only [Bool.not_false, if_true]
  refine wpAny_bind (wpAny_rule (wpAny_pure ⟨_, rfl, hq⟩))
open PySem.SeqAt PySem.MeetsSeq in
theorem eqAt_str_dict {A : Around} {s : Shared} {l : Addr} {o : Obj} {es : Array DictEntry} {n : Nat} (b : Str) (u : Tok) (ho : s.heap.get? l = some o) (hc : o.cls = .type "dict") (hd : o.data = .dict es n) (hu : A.units < cLine) : EqAt A s (.str b u) (.ref l) false := fun prog w E Q h => by
  unfold eqBool
  refine wpAny_holding ?_
  refine wpAny_ite_split (fun hab => absurd (eq_of_beq hab) nofun) (fun _ => ?_)
  exact wpAny_bind (rcAt_str_dict b u ho hc hd hu prog w E _ (wpAny_truthy_bool h))
/-- any thing in a list of texts -/
def rInT (K : PySem.W.Frag) : R2 := fun x y H Q => ∃ (p : Addr) (zs : List Str), y = .ref p ∧ SqL K H p (zs.map V.str) ∧
  ((flatV x = true ∧ Q (.bl (inV x (zs.map V.str))) H) ∨ ((∃ a, x = .ref a ∧ ((∃ xs, SqL K H a xs) ∨ (∃ xs, SqT K H a xs) ∨ ∃ kvs, H a = some (.dK kvs))) ∧ Q (.bl false) H))
theorem any_false {α : Type} : ∀ xs : List α, (xs.any fun _ => false) = false
  | [] => rfl
  | _ :: r => by rw [List.any_cons, any_false r]; rfl
theorem op_inT {X : Cx} (hu : X.A.units + 2 < cLine) : OpR X (compareOp .In) (rInT X.K) := by
  rintro pins s σ H x y v u Q I rx ry ⟨p, zs, rfl, hp, cs⟩
  rcases cs with ⟨fx, q⟩ | ⟨⟨a, rfl, ha⟩, q⟩
  · refine op_in_seq pins s σ H x _ v u Q I rx ry ⟨p, _, rfl, .inl hp, fx, ?_, q⟩
    rw [List.all_map]
    exact List.all_eq_true.mpr fun _ _ => rfl
  · cases ry
    cases rx
    obtain ⟨its, r, pl, hz⟩ := I.list hp
    refine SeqAt.in_listAt (fun _ => false) pl.isList (fun w hw => ?_) ⟨.bl _, H, I, rfl, ?_⟩
    · obtain ⟨z, hz, rz⟩ : ∃ z : Str, z ∈ zs ∧ RelV (.str z) w := by
        have hw2 : w ∈ its := by simpa using hw
        clear pl hz hp hw
        induction zs generalizing its with
        | nil => cases r; cases hw2
        | cons z zs ih =>
          cases r with
          | cons r1 r2 =>
            rcases List.mem_cons.mp hw2 with rfl | hw
            · exact ⟨z, List.mem_cons_self, r1⟩
            · obtain ⟨z', h1, h2⟩ := ih _ r2 hw
              exact ⟨z', List.mem_cons_of_mem _ h1, h2⟩
      obtain ⟨t, rfl⟩ := rz
      have hu2 : X.A.in1.units < cLine := by show X.A.units + 1 < cLine; omega
      rcases ha with ⟨xs, h⟩ | ⟨xs, h⟩ | ⟨kvs, h⟩
      · obtain ⟨its2, _, pl2, _⟩ := I.list h
        exact SeqAt.EqAt.str_list z t pl2.isList hu2
      · obtain ⟨its2, _, pl2, _⟩ := I.tuple h
        exact SeqAt.EqAt.str_tuple z t pl2 hu2
      · obtain ⟨_, _, vs, _, o, es, ep, h1, h2, h3, _⟩ := dk_of I.hok h
        exact eqAt_str_dict z t h1 h2.1 h3 hu2
    · rw [← Array.any_toList, any_false]
      exact q
def rInTt (K : PySem.W.Frag) : R2 := fun x y H Q => ∃ (p : Addr) (zs : List Str), y = .ref p ∧ SqT K H p (zs.map V.str) ∧
  ((flatV x = true ∧ Q (.bl (inV x (zs.map V.str))) H) ∨ ((∃ a, x = .ref a ∧ ((∃ xs, SqL K H a xs) ∨ (∃ xs, SqT K H a xs) ∨ ∃ kvs, H a = some (.dK kvs))) ∧ Q (.bl false) H))
theorem op_inTt {X : Cx} (hu : X.A.units + 2 < cLine) : OpR X (compareOp .In) (rInTt X.K) := by
  rintro pins s σ H x y v u Q I rx ry ⟨p, zs, rfl, hp, cs⟩
  rcases cs with ⟨fx, q⟩ | ⟨⟨a, rfl, ha⟩, q⟩
  · refine op_in_seq pins s σ H x _ v u Q I rx ry ⟨p, _, rfl, .inr hp, fx, ?_, q⟩
    rw [List.all_map]
    exact List.all_eq_true.mpr fun _ _ => rfl
  · cases ry
    cases rx
    obtain ⟨its, r, pl, hz⟩ := I.tuple hp
    refine SeqAt.in_tupleAt (fun _ => false) pl (fun w hw => ?_) ⟨.bl _, H, I, rfl, ?_⟩
    · obtain ⟨z, hz, rz⟩ : ∃ z : Str, z ∈ zs ∧ RelV (.str z) w := by
        have hw2 : w ∈ its := by simpa using hw
        clear pl hz hp hw
        induction zs generalizing its with
        | nil => cases r; cases hw2
        | cons z zs ih =>
          cases r with
          | cons r1 r2 =>
            rcases List.mem_cons.mp hw2 with rfl | hw
            · exact ⟨z, List.mem_cons_self, r1⟩
            · obtain ⟨z', h1, h2⟩ := ih _ r2 hw
              exact ⟨z', List.mem_cons_of_mem _ h1, h2⟩
      obtain ⟨t, rfl⟩ := rz
      have hu2 : X.A.in1.units < cLine := by show X.A.units + 1 < cLine; omega
      rcases ha with ⟨xs, h⟩ | ⟨xs, h⟩ | ⟨kvs, h⟩
      · obtain ⟨its2, _, pl2, _⟩ := I.list h
        exact SeqAt.EqAt.str_list z t pl2.isList hu2
      · obtain ⟨its2, _, pl2, _⟩ := I.tuple h
        exact SeqAt.EqAt.str_tuple z t pl2 hu2
      · obtain ⟨_, _, vs, _, o, es, ep, h1, h2, h3, _⟩ := dk_of I.hok h
        exact eqAt_str_dict z t h1 h2.1 h3 hu2
    · rw [← Array.any_toList, any_false]
      exact q
end My

set_option maxRecDepth 100000
set_option maxHeartbeats 400000
/-! small data: what repr asks of them -/
namespace My
open PySem PySem.Spec PyProof.Rows L2 GxR Gd TL
structure Sm (d : PyData) (k m : Nat) : Prop where
  lay : d.canLay0 = true
  dep : d.depth ≤ k
  wt : d.weight ≤ m
  ish : d.intsShort 13 = true
  sh : d.showable = true
theorem Sm.rep {d : PyData} {k m : Nat} (h : Sm d k m) (hk : k ≤ 64) (hm : m ≤ 2 ^ 20) : d.showable = true ∧ d.depth ≤ 100 ∧ d.shown.length ≤ sizeLine := by
  refine ⟨h.sh, Nat.le_trans h.dep (by omega), Nat.le_trans (shown_le13 ?_ h.ish) (by rw [sizeLine_eq]; decide)⟩
  unfold PyData.layable0
  rw [Bool.and_eq_true, Bool.and_eq_true, decide_eq_true_eq, decide_eq_true_eq]
  exact ⟨⟨h.lay, Nat.le_trans h.dep hk⟩, Nat.le_trans h.wt hm⟩
theorem Sm.mono {d : PyData} {k m k' m' : Nat} (h : Sm d k m) (hk : k ≤ k') (hm : m ≤ m') : Sm d k' m' := ⟨h.lay, Nat.le_trans h.dep hk, Nat.le_trans h.wt hm, h.ish, h.sh⟩
theorem sm_none : Sm .none 0 0 := ⟨rfl, Nat.le_refl 0, Nat.le_refl 0, rfl, rfl⟩
theorem sm_bool (b : Bool) : Sm (.bool b) 0 0 := ⟨rfl, Nat.le_refl 0, Nat.le_refl 0, rfl, rfl⟩
theorem sm_int {i : Int} (h : i.natAbs ≤ 1000) : Sm (.int i) 0 20 := by
  have hl : i.natAbs.log2 ≤ 10 := by
    by_cases z : i.natAbs = 0
    · rw [z]; decide
    · have : i.natAbs.log2 < 11 := (Nat.log2_lt z).mpr (by omega)
      omega
  refine ⟨rfl, Nat.le_refl 0, ?_, ?_, ?_⟩
  · unfold PyData.weight
    split
    · omega
    · omega
  · exact intsShort_of_noneOrIn (lo := -2000) (hi := 2000) (by decide) (by decide) (.int i) (by simp [noneOrIn]; omega)
  · unfold PyData.showable
    rw [decide_eq_true_eq]
    omega
theorem sm_str {z : Str} (g : Good z) (h : z.length ≤ 6) : Sm (.str z) 0 6 := by
  refine ⟨?_, Nat.le_refl 0, h, rfl, rfl⟩
  unfold PyData.canLay0
  unfold PyData.strOk
  rw [Array.all_eq_true_iff_forall_mem]
  intro c hc
  exact decide_eq_true (g c (Array.mem_toList_iff.mpr hc))
theorem sm_all {k m : Nat} : ∀ {ds : List PyData}, (∀ d ∈ ds, Sm d k m) → PyData.canLayAll0 ds = true ∧ PyData.depthAll ds ≤ k ∧ PyData.weightAll ds ≤ ds.length * (m + 1) ∧ PyData.intsShortAll 13 ds = true ∧ PyData.showableAll ds = true
  | [], _ => ⟨rfl, Nat.zero_le _, Nat.zero_le _, rfl, rfl⟩
  | d :: r, h => by
    obtain ⟨a1, a2, a3, a4, a5⟩ := sm_all (ds := r) fun x hx => h x (List.mem_cons_of_mem _ hx)
    have b := h d List.mem_cons_self
    refine ⟨?_, ?_, ?_, ?_, ?_⟩
    · unfold PyData.canLayAll0; rw [b.lay, a1]; rfl
    · unfold PyData.depthAll; exact Nat.max_le.mpr ⟨b.dep, a2⟩
    · unfold PyData.weightAll
      have := b.wt
      rw [List.length_cons, Nat.succ_mul]
      omega
    · unfold PyData.intsShortAll; rw [b.ish, a4]; rfl
    · unfold PyData.showableAll; rw [b.sh, a5]; rfl
theorem sm_list {k m : Nat} {ds : List PyData} (h : ∀ d ∈ ds, Sm d k m) : Sm (.list ds) (k + 1) (ds.length * (m + 1)) := by
  obtain ⟨a1, a2, a3, a4, a5⟩ := sm_all h
  exact ⟨by unfold PyData.canLay0; exact a1, by unfold PyData.depth; omega, by unfold PyData.weight; exact a3, by unfold PyData.intsShort; exact a4, by unfold PyData.showable; exact a5⟩
theorem sm_tuple {k m : Nat} {ds : List PyData} (h : ∀ d ∈ ds, Sm d k m) : Sm (.tuple ds) (k + 1) (ds.length * (m + 1)) := by
  obtain ⟨a1, a2, a3, a4, a5⟩ := sm_all h
  exact ⟨by unfold PyData.canLay0; exact a1, by unfold PyData.depth; omega, by unfold PyData.weight; exact a3, by unfold PyData.intsShort; exact a4, by unfold PyData.showable; exact a5⟩
theorem sm_dP {p : Str × Int} (g : Good p.1) (h : p.1.length ≤ 6) (hr : p.2.natAbs ≤ 1000) : Sm (dP p) 1 42 :=
  sm_tuple (k := 0) (m := 20) (ds := [.str p.1, .int p.2]) fun d hd => by
    simp only [List.mem_cons, List.not_mem_nil, or_false] at hd
    rcases hd with rfl | rfl
    · exact (sm_str g h).mono (Nat.le_refl 0) (by decide)
    · exact sm_int hr
theorem sm_names {a b : Str} (ha : NameOk a) (hb : NameOk b) : Sm (.tuple [.str a, .str b]) 1 14 :=
  sm_tuple (k := 0) (m := 6) (ds := [.str a, .str b]) fun d hd => by
    simp only [List.mem_cons, List.not_mem_nil, or_false] at hd
    rcases hd with rfl | rfl
    · exact sm_str ha.good ha.2.1
    · exact sm_str hb.good hb.2.1
end My

set_option maxRecDepth 100000
set_option maxHeartbeats 400000
/-! data with longer texts and numbers: what repr asks of them -/
namespace My
open PySem PySem.Spec PyProof.Rows L2 GxR Gd TL
structure Sb (d : PyData) (k m : Nat) : Prop where
  lv : d.leavesShort 40 = true
  dep : d.depth ≤ k
  wt : d.weight ≤ m
  sh : d.showable = true
theorem Sb.rep {d : PyData} {k m : Nat} (h : Sb d k m) (hk : k ≤ 100) (hm : m ≤ 390000) : d.showable = true ∧ d.depth ≤ 100 ∧ d.shown.length ≤ sizeLine := by
  refine ⟨h.sh, Nat.le_trans h.dep hk, ?_⟩
  have h1 := PyData.shown_le 40 (by decide) d h.lv
  have h2 := h.wt
  refine Nat.le_trans h1 (Nat.le_trans (m := 42 * 390000 + 40) (by omega) (by rw [sizeLine_eq]; decide))
theorem Sb.mono {d : PyData} {k m k' m' : Nat} (h : Sb d k m) (hk : k ≤ k') (hm : m ≤ m') : Sb d k' m' := ⟨h.lv, Nat.le_trans h.dep hk, Nat.le_trans h.wt hm, h.sh⟩
theorem sb_none : Sb .none 0 0 := ⟨rfl, Nat.le_refl 0, Nat.le_refl 0, rfl⟩
theorem sb_bool (b : Bool) : Sb (.bool b) 0 0 := ⟨rfl, Nat.le_refl 0, Nat.le_refl 0, rfl⟩
theorem text_int {i : Int} (h : i.natAbs < 10 ^ 31) : (Str.ofString (toString i)).length ≤ 32 := by
  have e := int_text_length_le10 (k := 31) (by decide) h
  rw [PySem.ofString_length]
  exact e
theorem sb_int {i : Int} (h : i.natAbs < 10 ^ 31) : Sb (.int i) 0 110 := by
  have hl : i.natAbs.log2 ≤ 109 := by
    by_cases z : i.natAbs = 0
    · rw [z]; decide
    · have : i.natAbs.log2 < 110 := (Nat.log2_lt z).mpr (Nat.lt_of_lt_of_le h (by decide))
      omega
  refine ⟨?_, Nat.le_refl 0, ?_, ?_⟩
  · unfold PyData.leavesShort
    rw [decide_eq_true_eq]
    exact Nat.le_trans (text_int h) (by decide)
  · unfold PyData.weight
    split <;> omega
  · unfold PyData.showable
    rw [decide_eq_true_eq]
    omega
theorem sb_str {z : Str} {m : Nat} (g : Good z) (h : z.length ≤ m) : Sb (.str z) 0 m := by
  refine ⟨?_, Nat.le_refl 0, h, rfl⟩
  unfold PyData.leavesShort
  rw [List.all_eq_true]
  intro c hc
  have := g c hc
  rw [decide_eq_true_eq]
  exact Nat.lt_trans this (by decide)
theorem sb_all {k m : Nat} : ∀ {ds : List PyData}, (∀ d ∈ ds, Sb d k m) → PyData.leavesShortAll 40 ds = true ∧ PyData.depthAll ds ≤ k ∧ PyData.weightAll ds ≤ ds.length * (m + 1) ∧ PyData.showableAll ds = true
  | [], _ => ⟨rfl, Nat.zero_le _, Nat.zero_le _, rfl⟩
  | d :: r, h => by
    obtain ⟨a1, a2, a3, a4⟩ := sb_all (ds := r) fun x hx => h x (List.mem_cons_of_mem _ hx)
    have b := h d List.mem_cons_self
    refine ⟨?_, ?_, ?_, ?_⟩
    · unfold PyData.leavesShortAll; rw [b.lv, a1]; rfl
    · unfold PyData.depthAll; exact Nat.max_le.mpr ⟨b.dep, a2⟩
    · unfold PyData.weightAll
      have := b.wt
      rw [List.length_cons, Nat.succ_mul]
      omega
    · unfold PyData.showableAll; rw [b.sh, a4]; rfl
theorem sb_list {k m : Nat} {ds : List PyData} (h : ∀ d ∈ ds, Sb d k m) : Sb (.list ds) (k + 1) (ds.length * (m + 1)) := by
  obtain ⟨a1, a2, a3, a4⟩ := sb_all h
  exact ⟨by unfold PyData.leavesShort; exact a1, by unfold PyData.depth; omega, by unfold PyData.weight; exact a3, by unfold PyData.showable; exact a4⟩
theorem sb_tuple {k m : Nat} {ds : List PyData} (h : ∀ d ∈ ds, Sb d k m) : Sb (.tuple ds) (k + 1) (ds.length * (m + 1)) := by
  obtain ⟨a1, a2, a3, a4⟩ := sb_all h
  exact ⟨by unfold PyData.leavesShort; exact a1, by unfold PyData.depth; omega, by unfold PyData.weight; exact a3, by unfold PyData.showable; exact a4⟩
theorem good_int (i : Int) : Good (Str.ofString (toString i)) := good_of _
end My

set_option maxRecDepth 100000
set_option maxHeartbeats 400000
namespace K8
open PySem PySem.Spec PyProof.Rows L2 GxR Gd TL My
/-! ### what is due -/
def seqOf (H : Hp) : V → Option (List V)
  | .ref a => match H a with
    | some (.lst xs) => some xs
    | some (.tup xs) => some xs
    | _ => none
  | _ => none
def tupOf (H : Hp) : V → Option (List V)
  | .ref a => match H a with
    | some (.tup xs) => some xs
    | _ => none
  | _ => none
theorem tup_some {H : Hp} {v : V} {xs : List V} (h : tupOf H v = some xs) : ∃ a, v = .ref a ∧ H a = some (.tup xs) := by
  unfold tupOf at h
  split at h
  · split at h
    · rename_i e
      exact ⟨_, rfl, by rw [e, Option.some.inj h]⟩
    · cases h
  · cases h
theorem seq_some {H : Hp} {v : V} {xs : List V} (h : seqOf H v = some xs) : ∃ a, v = .ref a ∧ (H a = some (.lst xs) ∨ H a = some (.tup xs)) := by
  unfold seqOf at h
  split at h
  · split at h
    · rename_i e
      exact ⟨_, rfl, .inl (by rw [e, Option.some.inj h])⟩
    · rename_i e
      exact ⟨_, rfl, .inr (by rw [e, Option.some.inj h])⟩
    · cases h
  · cases h
theorem seq_lst {H : Hp} {a : Addr} {xs : List V} (h : H a = some (.lst xs)) : seqOf H (.ref a) = some xs := by
  show (match H a with | some (.lst xs) => some xs | some (.tup xs) => some xs | _ => none) = _
  rw [h]
theorem seq_tup {H : Hp} {a : Addr} {xs : List V} (h : H a = some (.tup xs)) : seqOf H (.ref a) = some xs := by
  show (match H a with | some (.lst xs) => some xs | some (.tup xs) => some xs | _ => none) = _
  rw [h]
theorem tup_tup {H : Hp} {a : Addr} {xs : List V} (h : H a = some (.tup xs)) : tupOf H (.ref a) = some xs := by
  show (match H a with | some (.tup xs) => some xs | _ => none) = _
  rw [h]
theorem tup_lst {H : Hp} {a : Addr} {xs : List V} (h : H a = some (.lst xs)) : tupOf H (.ref a) = none := by
  show (match H a with | some (.tup xs) => some xs | _ => none) = _
  rw [h]
theorem tup_dic {H : Hp} {a : Addr} {xs : List (Key × V)} (h : H a = some (.dK xs)) : tupOf H (.ref a) = none := by
  show (match H a with | some (.tup xs) => some xs | _ => none) = _
  rw [h]
theorem seq_dic {H : Hp} {a : Addr} {xs : List (Key × V)} (h : H a = some (.dK xs)) : seqOf H (.ref a) = none := by
  show (match H a with | some (.lst xs) => some xs | some (.tup xs) => some xs | _ => none) = _
  rw [h]
theorem tup_nt {H H' : Hp} (e : Nt H H') {v : V} (th : Th H v) : tupOf H' v = tupOf H v := by
  cases th with
  | non => rfl
  | bl b => rfl
  | int i => rfl
  | str z h g => rfl
  | lst a xs h => rw [tup_lst h, tup_lst (e _ _ (by simp) h)]
  | tup a xs h => rw [tup_tup h, tup_tup (e _ _ (by simp) h)]
  | dic a h => rw [tup_dic h, tup_dic (e _ _ (by simp) h)]
theorem seq_nt {H H' : Hp} (e : Nt H H') {v : V} (th : Th H v) : seqOf H' v = seqOf H v := by
  cases th with
  | non => rfl
  | bl b => rfl
  | int i => rfl
  | str z h g => rfl
  | lst a xs h => rw [seq_lst h, seq_lst (e _ _ (by simp) h)]
  | tup a xs h => rw [seq_tup h, seq_tup (e _ _ (by simp) h)]
  | dic a h => rw [seq_dic h, seq_dic (e _ _ (by simp) h)]
theorem th_nt {H H' : Hp} (e : Nt H H') {v : V} (th : Th H v) : Th H' v := by
  cases th with
  | non => exact .non
  | bl b => exact .bl b
  | int i => exact .int i
  | str z h g => exact .str z h g
  | lst a xs h => exact .lst a xs (e _ _ (by simp) h)
  | tup a xs h => exact .tup a xs (e _ _ (by simp) h)
  | dic a h => exact .dic a (e _ _ (by simp) h)
inductive Tag
  | places | name | twice | number | stretches | longs
def Tag.s : Tag → String
  | .places => "places"
  | .name => "name"
  | .twice => "twice"
  | .number => "number"
  | .stretches => "stretches"
  | .longs => "longs"
abbrev Due := Option (Tag × V)
/-- of one place, names ahead of it -/
def pl1 (H : Hp) (as : List Str) (v : V) : Due := match tupOf H v with
  | some [n, q] => if nm n = true then (if n ∈ as.map V.str then some (.twice, n) else if wh 1 3 q = true then none else some (.number, q)) else some (.name, n)
  | _ => some (.places, v)
def st1 (H : Hp) (v : V) : Bool := match tupOf H v with
  | some [k, h] => (decide (k = .str "staff") || decide (k = .str "ticket")) && wh 0 1 h
  | _ => false
def intOf : V → Int
  | .int i => i
  | _ => 0
def lo1 (H : Hp) (low top : Int) (v : V) : Bool := match tupOf H v with
  | some [f, l, h] => wh low top f && wh (intOf f + 2) top l && wh 0 1 h
  | _ => false
def isl (H : Hp) (lo hi : Int) (v : V) : Bool := match seqOf H v with
  | some xs => decide (lo ≤ (xs.length : Int)) && decide ((xs.length : Int) ≤ hi)
  | none => false
def ist (H : Hp) (n : Int) (v : V) : Bool := match tupOf H v with
  | some xs => decide ((xs.length : Int) = n)
  | none => false
/-- what a tuple holds -/
def Kids (H : Hp) (v : V) : Prop := ∀ xs, seqOf H v = some xs → ∀ x ∈ xs, Th H x
theorem Kids.nt {H H' : Hp} (e : Nt H H') {v : V} (th : Th H v) (k : Kids H v) : Kids H' v := fun xs hs x hx => th_nt e (k xs (by rw [← seq_nt e th]; exact hs) x hx)
theorem seq_of_tup {H : Hp} {v : V} {xs : List V} (h : tupOf H v = some xs) : seqOf H v = some xs := by
  obtain ⟨a, rfl, e⟩ := tup_some h
  exact seq_tup e
theorem ist_true {H : Hp} {n : Nat} {v : V} (h : ist H n v = true) : ∃ xs, tupOf H v = some xs ∧ xs.length = n := by
  unfold ist at h
  split at h
  · rename_i xs e
    exact ⟨xs, e, by have := of_decide_eq_true h; omega⟩
  · cases h
theorem nm_str {v : V} (h : nm v = true) : ∃ z, v = .str z ∧ NameOk z := by
  cases v with
  | str z =>
    refine ⟨z, rfl, ?_⟩
    unfold nm at h
    simp only [Bool.and_eq_true, decide_eq_true_eq] at h
    exact ⟨h.1.1, h.1.2, h.2⟩
  | _ => cases h
theorem inV_mem {z : Str} {as : List Str} : inV (.str z) (as.map V.str) = decide (V.str z ∈ as.map V.str) := by
  rw [Bool.eq_iff_iff]
  unfold inV
  rw [List.any_map, List.any_eq_true, decide_eq_true_eq, List.mem_map]
  constructor
  · rintro ⟨y, hy, e⟩
    have e' : (y == z) = true := e
    exact ⟨y, hy, by rw [eq_of_beq e']⟩
  · rintro ⟨y, hy, e⟩
    refine ⟨y, hy, ?_⟩
    rw [V.str.inj e]
    show (z == z) = true
    simp
/-! ### the refusals -/
abbrev sSE : Stmt := inClass (top 2) 0
theorem scSE : FnScope ["self", "text"] ["self", "text"] (defScope sSE) := ⟨rfl, rfl, rfl, by decide +kernel, rfl, by decide +kernel, by decide +kernel⟩
abbrev sNoName : Stmt := inClass (top 3) 0
theorem scNoName : FnScope ["self", "found"] ["self", "found"] (defScope sNoName) := ⟨rfl, rfl, rfl, by decide +kernel, rfl, by decide +kernel, by decide +kernel⟩
abbrev sNoPlace : Stmt := inClass (top 4) 0
theorem scNoPlace : FnScope ["self", "found"] ["self", "found"] (defScope sNoPlace) := ⟨rfl, rfl, rfl, by decide +kernel, rfl, by decide +kernel, by decide +kernel⟩
abbrev sNoPlaces : Stmt := inClass (top 6) 0
theorem scNoPlaces : FnScope ["self", "found"] ["self", "found"] (defScope sNoPlaces) := ⟨rfl, rfl, rfl, by decide +kernel, rfl, by decide +kernel, by decide +kernel⟩
abbrev sNoStretches : Stmt := inClass (top 7) 0
theorem scNoStretches : FnScope ["self", "found"] ["self", "found"] (defScope sNoStretches) := ⟨rfl, rfl, rfl, by decide +kernel, rfl, by decide +kernel, by decide +kernel⟩
abbrev sNoLongs : Stmt := inClass (top 8) 0
theorem scNoLongs : FnScope ["self", "found"] ["self", "found"] (defScope sNoLongs) := ⟨rfl, rfl, rfl, by decide +kernel, rfl, by decide +kernel, by decide +kernel⟩
abbrev sNoNumber : Stmt := inClass (top 9) 0
theorem scNoNumber : FnScope ["self", "found"] ["self", "found"] (defScope sNoNumber) := ⟨rfl, rfl, rfl, by decide +kernel, rfl, by decide +kernel, by decide +kernel⟩
abbrev sTwice : Stmt := inClass (top 10) 0
theorem scTwice : FnScope ["self", "found"] ["self", "found"] (defScope sTwice) := ⟨rfl, rfl, rfl, by decide +kernel, rfl, by decide +kernel, by decide +kernel⟩
section
variable {P : Program} {w : World} {K : PySem.W.Frag} {mg : Str → Option Value} {base : Heap} {CS fS C fN : Addr} {fdS fdN : FuncData}
theorem ok_SE (T : SeT K mg CS fS fdS sSE) {CX : CXT} : FnOk P w K mg base CX0 1 fS fdS ["self", "text"] (spUp K) := by
  refine T.F.ok scSE (fun vs H Q E h => ?_) (fun cdv A outer s H vs Q E hr h => ?_)
  · obtain ⟨a, C, z, rfl, _⟩ := h
    rfl
  · obtain ⟨a, C, z, rfl, o, e, k⟩ := h
    refine ⟨_, pss_one (ps_expr (pe_veinit (by rfl) T.ve T.vi (pa_cons (pv 0) (pa_cons (pv 1) pa_nil)))), ?_⟩
    exact ⟨_, rfl, _, rfl, a, C, _, rfl, by simp, o, e, k⟩
theorem ok_NoName (S : SeT K mg CS fS fdS sSE) (T : ExC K mg "NoName" "NoName.__init__" sNoName C fN fdN) : FnOk P w K mg base CX0 2 fN fdN ["self", "found"] (spOne K C "found") := by
  refine T.F.ok scNoName (fun vs H Q E h => ?_) (fun cdv A outer s H vs Q E hr h => ?_)
  · obtain ⟨a, v, rfl, _⟩ := h
    rfl
  · obtain ⟨a, v, rfl, e, k⟩ := h
    refine ⟨_, pss_cons (ps_expr (pe_ccall S.c (ok_SE (CX := CX0) S) hr (by rfl) S.g S.k S.b .nil pass0 (pa_cons (pv 0) (pa_cons pe_str pa_nil))))
      (pss_one (ps_ost (pv 0) (pv 1))), ?_⟩
    refine ⟨_, rfl, a, C, _, rfl, T.o, e, ?_⟩
    exact ⟨_, rfl, _, rfl, a, C, rfl, T.o, T.n, .inl ⟨e, fun dx h1 h2 => k dx h1 h2⟩⟩
theorem ok_NoPlace (S : SeT K mg CS fS fdS sSE) (T : ExC K mg "NoPlace" "NoPlace.__init__" sNoPlace C fN fdN) : FnOk P w K mg base CX0 2 fN fdN ["self", "found"] (spOne K C "found") := by
  refine T.F.ok scNoPlace (fun vs H Q E h => ?_) (fun cdv A outer s H vs Q E hr h => ?_)
  · obtain ⟨a, v, rfl, _⟩ := h
    rfl
  · obtain ⟨a, v, rfl, e, k⟩ := h
    refine ⟨_, pss_cons (ps_expr (pe_ccall S.c (ok_SE (CX := CX0) S) hr (by rfl) S.g S.k S.b .nil pass0 (pa_cons (pv 0) (pa_cons pe_str pa_nil))))
      (pss_one (ps_ost (pv 0) (pv 1))), ?_⟩
    refine ⟨_, rfl, a, C, _, rfl, T.o, e, ?_⟩
    exact ⟨_, rfl, _, rfl, a, C, rfl, T.o, T.n, .inl ⟨e, fun dx h1 h2 => k dx h1 h2⟩⟩
theorem ok_NoPlaces (S : SeT K mg CS fS fdS sSE) (T : ExC K mg "NoPlaces" "NoPlaces.__init__" sNoPlaces C fN fdN) : FnOk P w K mg base CX0 2 fN fdN ["self", "found"] (spOne K C "found") := by
  refine T.F.ok scNoPlaces (fun vs H Q E h => ?_) (fun cdv A outer s H vs Q E hr h => ?_)
  · obtain ⟨a, v, rfl, _⟩ := h
    rfl
  · obtain ⟨a, v, rfl, e, k⟩ := h
    refine ⟨_, pss_cons (ps_expr (pe_ccall S.c (ok_SE (CX := CX0) S) hr (by rfl) S.g S.k S.b .nil pass0 (pa_cons (pv 0) (pa_cons pe_str pa_nil))))
      (pss_one (ps_ost (pv 0) (pv 1))), ?_⟩
    refine ⟨_, rfl, a, C, _, rfl, T.o, e, ?_⟩
    exact ⟨_, rfl, _, rfl, a, C, rfl, T.o, T.n, .inl ⟨e, fun dx h1 h2 => k dx h1 h2⟩⟩
theorem ok_NoStretches (S : SeT K mg CS fS fdS sSE) (T : ExC K mg "NoStretches" "NoStretches.__init__" sNoStretches C fN fdN) : FnOk P w K mg base CX0 2 fN fdN ["self", "found"] (spOne K C "found") := by
  refine T.F.ok scNoStretches (fun vs H Q E h => ?_) (fun cdv A outer s H vs Q E hr h => ?_)
  · obtain ⟨a, v, rfl, _⟩ := h
    rfl
  · obtain ⟨a, v, rfl, e, k⟩ := h
    refine ⟨_, pss_cons (ps_expr (pe_ccall S.c (ok_SE (CX := CX0) S) hr (by rfl) S.g S.k S.b .nil pass0 (pa_cons (pv 0) (pa_cons pe_str pa_nil))))
      (pss_one (ps_ost (pv 0) (pv 1))), ?_⟩
    refine ⟨_, rfl, a, C, _, rfl, T.o, e, ?_⟩
    exact ⟨_, rfl, _, rfl, a, C, rfl, T.o, T.n, .inl ⟨e, fun dx h1 h2 => k dx h1 h2⟩⟩
theorem ok_NoLongs (S : SeT K mg CS fS fdS sSE) (T : ExC K mg "NoLongs" "NoLongs.__init__" sNoLongs C fN fdN) : FnOk P w K mg base CX0 2 fN fdN ["self", "found"] (spOne K C "found") := by
  refine T.F.ok scNoLongs (fun vs H Q E h => ?_) (fun cdv A outer s H vs Q E hr h => ?_)
  · obtain ⟨a, v, rfl, _⟩ := h
    rfl
  · obtain ⟨a, v, rfl, e, k⟩ := h
    refine ⟨_, pss_cons (ps_expr (pe_ccall S.c (ok_SE (CX := CX0) S) hr (by rfl) S.g S.k S.b .nil pass0 (pa_cons (pv 0) (pa_cons pe_str pa_nil))))
      (pss_one (ps_ost (pv 0) (pv 1))), ?_⟩
    refine ⟨_, rfl, a, C, _, rfl, T.o, e, ?_⟩
    exact ⟨_, rfl, _, rfl, a, C, rfl, T.o, T.n, .inl ⟨e, fun dx h1 h2 => k dx h1 h2⟩⟩
theorem ok_NoNumber (S : SeT K mg CS fS fdS sSE) (T : ExC K mg "NoNumber" "NoNumber.__init__" sNoNumber C fN fdN) : FnOk P w K mg base CX0 2 fN fdN ["self", "found"] (spOne K C "found") := by
  refine T.F.ok scNoNumber (fun vs H Q E h => ?_) (fun cdv A outer s H vs Q E hr h => ?_)
  · obtain ⟨a, v, rfl, _⟩ := h
    rfl
  · obtain ⟨a, v, rfl, e, k⟩ := h
    refine ⟨_, pss_cons (ps_expr (pe_ccall S.c (ok_SE (CX := CX0) S) hr (by rfl) S.g S.k S.b .nil pass0 (pa_cons (pv 0) (pa_cons pe_str pa_nil))))
      (pss_one (ps_ost (pv 0) (pv 1))), ?_⟩
    refine ⟨_, rfl, a, C, _, rfl, T.o, e, ?_⟩
    exact ⟨_, rfl, _, rfl, a, C, rfl, T.o, T.n, .inl ⟨e, fun dx h1 h2 => k dx h1 h2⟩⟩
theorem ok_Twice (S : SeT K mg CS fS fdS sSE) (T : ExC K mg "Twice" "Twice.__init__" sTwice C fN fdN) : FnOk P w K mg base CX0 2 fN fdN ["self", "found"] (spOne K C "found") := by
  refine T.F.ok scTwice (fun vs H Q E h => ?_) (fun cdv A outer s H vs Q E hr h => ?_)
  · obtain ⟨a, v, rfl, _⟩ := h
    rfl
  · obtain ⟨a, v, rfl, e, k⟩ := h
    refine ⟨_, pss_cons (ps_expr (pe_ccall S.c (ok_SE (CX := CX0) S) hr (by rfl) S.g S.k S.b .nil pass0 (pa_cons (pv 0) (pa_cons pe_str pa_nil))))
      (pss_one (ps_ost (pv 0) (pv 1))), ?_⟩
    refine ⟨_, rfl, a, C, _, rfl, T.o, e, ?_⟩
    exact ⟨_, rfl, _, rfl, a, C, rfl, T.o, T.n, .inl ⟨e, fun dx h1 h2 => k dx h1 h2⟩⟩
end
section
variable {P : Program} {w : World} {K : PySem.W.Frag} {mg : Str → Option Value} {base : Heap}
def spIsListG : Sp := fun vs H Q _ => ∃ (v : V) (lo hi : Int), vs = [v, .int lo, .int hi] ∧ Th H v ∧ ∀ H', Same H H' → Q (.bl (isl H lo hi v)) H'
theorem ok_is_listG {f : Addr} {fd : FuncData} (F : Fun K "is_list" "is_list" s_is_list f fd) (T : Txt mg) : FnOk P w K mg base CX0 1 f fd ["thing", "low", "high"] spIsListG := by
  refine F.ok sc_is_list (fun vs H Q E h => ?_) (fun cdv A outer s H vs Q E hr h => ?_)
  · obtain ⟨v, lo, hi, rfl, _⟩ := h
    rfl
  · obtain ⟨v, lo, hi, rfl, th, k⟩ := h
    refine ⟨_, pss_one (ps_ret (pe_and (pe_callB call_isiT (by rfl) T.isinstance_ (by decide +kernel) (pa_cons (pv 0) (pa_cons (pe_tup (pa_cons (pe_bltn (v := .ty "list") (by rfl) T.list_ (by decide +kernel) rfl) (pa_cons (pe_bltn (v := .ty "tuple") (by rfl) T.tuple_ (by decide +kernel) rfl) pa_nil))) pa_nil))) (pe_one (pe_chain op_le op_le (pv 1) (pe_callB call_len_seq (by rfl) T.len_ PySem.boot_len (pa_cons (pv 0) pa_nil)) (pv 2))))), ?_⟩
    refine ⟨_, rfl, (by show 2 ≤ sizeLine; decide), fun t ht => ?_⟩
    have e := same_alloc (o := .tup [.ty "list", .ty "tuple"]) ht
    have no : isl H lo hi v = false → Q (.bl false) (upd H t (.tup [.ty "list", .ty "tuple"])) := fun h => by
      have := k _ e
      rw [h] at this
      exact this
    cases th with
    | non => exact ⟨_, t, _, _, [.type "list", .type "tuple"], false, rfl, upd_same, .cons (.ty _) (.cons (.ty _) .nil), .base .non, (by rfl), _, rfl, iteF (no rfl)⟩
    | bl b => exact ⟨_, t, _, _, [.type "list", .type "tuple"], false, rfl, upd_same, .cons (.ty _) (.cons (.ty _) .nil), .base (.bl b), (by rfl), _, rfl, iteF (no rfl)⟩
    | int i => exact ⟨_, t, _, _, [.type "list", .type "tuple"], false, rfl, upd_same, .cons (.ty _) (.cons (.ty _) .nil), .base (.int i), (by rfl), _, rfl, iteF (no rfl)⟩
    | str z h g => exact ⟨_, t, _, _, [.type "list", .type "tuple"], false, rfl, upd_same, .cons (.ty _) (.cons (.ty _) .nil), .base (.str z), (by rfl), _, rfl, iteF (no rfl)⟩
    | dic a h => exact ⟨_, t, _, _, [.type "list", .type "tuple"], false, rfl, upd_same, .cons (.ty _) (.cons (.ty _) .nil), .base (.dK (e _ _ h)), (by rfl), _, rfl, iteF (no (by unfold isl; rw [seq_dic h]))⟩
    | lst a xs h =>
      have q := k _ e
      have ei : isl H lo hi (.ref a) = (decide (lo ≤ (xs.length : Int)) && decide ((xs.length : Int) ≤ hi)) := by unfold isl; rw [seq_lst h]
      rw [ei] at q
      refine ⟨_, t, _, _, [.type "list", .type "tuple"], true, rfl, upd_same, .cons (.ty _) (.cons (.ty _) .nil), .base (.lst (e _ _ h)), (by rfl), _, rfl, iteT ?_⟩
      refine ⟨_, rfl, _, rfl, a, xs, rfl, .inl (SqL.of (e _ _ h)), _, _, rfl, rfl, _, rfl, ite2 (fun c => ?_) (fun c => ?_)⟩
      · refine ⟨_, rfl, _, _, rfl, rfl, ?_⟩
        rw [c, Bool.true_and] at q
        exact q
      · rw [show decide (lo ≤ (xs.length : Int)) = false by simpa using c, Bool.false_and] at q
        exact q
    | tup a xs h =>
      have q := k _ e
      have ei : isl H lo hi (.ref a) = (decide (lo ≤ (xs.length : Int)) && decide ((xs.length : Int) ≤ hi)) := by unfold isl; rw [seq_tup h]
      rw [ei] at q
      refine ⟨_, t, _, _, [.type "list", .type "tuple"], true, rfl, upd_same, .cons (.ty _) (.cons (.ty _) .nil), .base (.tup (e _ _ h)), (by rfl), _, rfl, iteT ?_⟩
      refine ⟨_, rfl, _, rfl, a, xs, rfl, .inr (SqT.of (e _ _ h)), _, _, rfl, rfl, _, rfl, ite2 (fun c => ?_) (fun c => ?_)⟩
      · refine ⟨_, rfl, _, _, rfl, rfl, ?_⟩
        rw [c, Bool.true_and] at q
        exact q
      · rw [show decide (lo ≤ (xs.length : Int)) = false by simpa using c, Bool.false_and] at q
        exact q
def spIsTupleG : Sp := fun vs H Q _ => ∃ (v : V) (n : Int), vs = [v, .int n] ∧ Th H v ∧ Q (.bl (ist H n v)) H
theorem ok_is_tupleG {f : Addr} {fd : FuncData} (F : Fun K "is_tuple" "is_tuple" s_is_tuple f fd) (T : Txt mg) : FnOk P w K mg base CX0 1 f fd ["thing", "many"] spIsTupleG := by
  refine F.ok sc_is_tuple (fun vs H Q E h => ?_) (fun cdv A outer s H vs Q E hr h => ?_)
  · obtain ⟨v, n, rfl, _⟩ := h
    rfl
  · obtain ⟨v, n, rfl, th, k⟩ := h
    refine ⟨_, pss_one (ps_ret (pe_and (pe_callB call_isi (by rfl) T.isinstance_ (by decide +kernel) (pa_cons (pv 0) (pa_cons (pe_bltn (v := .ty "tuple") (by rfl) T.tuple_ (by decide +kernel) rfl) pa_nil))) (pe_one (pe_cmpR op_eq (pe_callB call_len_seq (by rfl) T.len_ PySem.boot_len (pa_cons (pv 0) pa_nil)) (pv 1) (nomark _))))), ?_⟩
    have no : ist H n v = false → Q (.bl false) H := fun h => by rw [h] at k; exact k
    cases th with
    | non => exact ⟨_, rfl, _, _, _, _, false, rfl, .ty "tuple", .base .non, (by rfl), _, rfl, iteF (no rfl)⟩
    | bl b => exact ⟨_, rfl, _, _, _, _, false, rfl, .ty "tuple", .base (.bl b), (by rfl), _, rfl, iteF (no rfl)⟩
    | int i => exact ⟨_, rfl, _, _, _, _, false, rfl, .ty "tuple", .base (.int i), (by rfl), _, rfl, iteF (no rfl)⟩
    | str z h g => exact ⟨_, rfl, _, _, _, _, false, rfl, .ty "tuple", .base (.str z), (by rfl), _, rfl, iteF (no rfl)⟩
    | dic a h => exact ⟨_, rfl, _, _, _, _, false, rfl, .ty "tuple", .base (.dK h), (by rfl), _, rfl, iteF (no (by unfold ist; rw [tup_dic h]))⟩
    | lst a xs h => exact ⟨_, rfl, _, _, _, _, false, rfl, .ty "tuple", .base (.lst h), (by rfl), _, rfl, iteF (no (by unfold ist; rw [tup_lst h]))⟩
    | tup a xs h =>
      have ei : ist H n (.ref a) = decide ((xs.length : Int) = n) := by unfold ist; rw [tup_tup h]
      rw [ei] at k
      refine ⟨_, rfl, _, _, _, _, true, rfl, .ty "tuple", .base (.tup h), (by rfl), _, rfl, iteT ?_⟩
      refine ⟨_, rfl, a, xs, rfl, .inr (SqT.of h), _, rfl, rfl, ?_⟩
      have e : decide (V.int (xs.length : Int) = V.int n) = decide ((xs.length : Int) = n) := by simp
      show Q (.bl (decide (V.int (xs.length : Int) = V.int n))) H
      rw [e]
      exact k
/-! ### a place -/
/-- what is wished of a check: nothing, or the refusal that is due -/
def Wish (cl : Tag → Addr) (J : Hp → Prop) (d : Due) (Q : VK) (E : XK) : Prop := match d with
  | none => ∀ H', J H' → Q .non H'
  | some (t, u) => ∀ H' e, J H' → H' e = none → E (.ref (cl t)) (some e) (upd H' e (.xd [("found", u)]))
variable {cl : Tag → Addr} {CS fS f1 f2 f3 f4 : Addr} {fdS fd1 fd2 fd3 fd4 : FuncData} {g1 g2 g3 g4 : Addr} {gd1 gd2 gd3 gd4 : FuncData}
def spPlaceX (cl : Tag → Addr) (Pt : Addr) : Sp := fun vs H Q E => ∃ (v : V) (l : Addr) (as : List Str), vs = [v, .ref l] ∧ Th H v ∧ Kids H v ∧ H l = some (.lst (as.map V.str)) ∧ TabG H Pt ∧ Wish cl (KT Pt H) (pl1 H as v) Q E
theorem ok_placeX {f Pt : Addr} {fd : FuncData} (F : Fun K "_check_place" "_check_place" s_check_place f fd) (T : Txt mg) (ES : SeT K mg CS fS fdS sSE)
    (ENoPlaces : ExC K mg "NoPlaces" "NoPlaces.__init__" sNoPlaces (cl .places) g1 gd1) (ENoName : ExC K mg "NoName" "NoName.__init__" sNoName (cl .name) g2 gd2) (ETwice : ExC K mg "Twice" "Twice.__init__" sTwice (cl .twice) g3 gd3) (ENoNumber : ExC K mg "NoNumber" "NoNumber.__init__" sNoNumber (cl .number) g4 gd4)
    (Nis_tuple : Fn K mg "is_tuple" s_is_tuple ["thing", "many"] f1 fd1) (Gis_tupleG : FnOk P w K mg base CX0 1 f1 fd1 ["thing", "many"] spIsTupleG)
    (Nis_name : Fn K mg "is_name" sName ["thing"] f2 fd2) (Gis_name : FnOk P w K mg base CX0 2 f2 fd2 ["thing"] (spName Pt))
    (Nis_whole : Fn K mg "is_whole" sWhole ["thing", "low", "high"] f3 fd3) (Gis_whole : FnOk P w K mg base CX0 1 f3 fd3 ["thing", "low", "high"] spWhole) :
    FnOk P w K mg base (CX P w) 4 f fd ["place", "ahead"] (spPlaceX cl Pt) := by
  refine F.okX sc_check_place (fun vs H Q E h => ?_) (fun cdv A outer s H vs Q E hr h => ?_)
  · obtain ⟨v, l, as, rfl, _⟩ := h
    rfl
  · obtain ⟨v, l, as, rfl, th, kd, hl, tb, k⟩ := h
    refine ⟨_, pss_cons (ps_if (pt_not (pt_val (pe_call Gis_tupleG (hr.mono (by decide)) (by rfl) Nis_tuple.g Nis_tuple.kp Nis_tuple.b .nil pass0 (pa_cons (pv 0) (pa_cons pe_int pa_nil))))) (pss_one (ps_raise rfl (takes_of rfl rfl rfl rfl) (pmk_oex ENoPlaces.o ENoPlaces.i ENoPlaces.t (ok_NoPlaces ES ENoPlaces) (hr.mono (by decide)) ENoPlaces.b .nil pass0 (by rfl) ENoPlaces.g (pa_cons (pv 0) pa_nil)))) pss_nil)
      (pss_cons (ps_asg (pv 0) (pg_tup (by rfl) (pgs_cons (pg_name (i := 2) sc_check_place.nd rfl (Or.inl rfl)) (pgs_cons (pg_name (i := 3) sc_check_place.nd rfl (Or.inl rfl)) pgs_nil))))
      (pss_cons (ps_if (pt_not (pt_val (pe_call Gis_name (hr.mono (by decide)) (by rfl) Nis_name.g Nis_name.kp Nis_name.b .nil pass0 (pa_cons (pv 2) pa_nil)))) (pss_one (ps_raise rfl (takes_of rfl rfl rfl rfl) (pmk_oex ENoName.o ENoName.i ENoName.t (ok_NoName ES ENoName) (hr.mono (by decide)) ENoName.b .nil pass0 (by rfl) ENoName.g (pa_cons (pv 2) pa_nil)))) pss_nil)
      (pss_cons (ps_if (pt_cmpR op_in_seq (pv 2) (pv 1) rfl) (pss_one (ps_raise rfl (takes_of rfl rfl rfl rfl) (pmk_oex ETwice.o ETwice.i ETwice.t (ok_Twice ES ETwice) (hr.mono (by decide)) ETwice.b .nil pass0 (by rfl) ETwice.g (pa_cons (pv 2) pa_nil)))) pss_nil)
      (pss_one (ps_if (pt_not (pt_val (pe_call Gis_whole (hr.mono (by decide)) (by rfl) Nis_whole.g Nis_whole.kp Nis_whole.b .nil pass0 (pa_cons (pv 3) (pa_cons pe_int (pa_cons pe_int pa_nil)))))) (pss_one (ps_raise rfl (takes_of rfl rfl rfl rfl) (pmk_oex ENoNumber.o ENoNumber.i ENoNumber.t (ok_NoNumber ES ENoNumber) (hr.mono (by decide)) ENoNumber.b .nil pass0 (by rfl) ENoNumber.g (pa_cons (pv 3) pa_nil)))) pss_nil))))), ?_⟩
    refine ⟨_, rfl, v, 2, rfl, th, ?_⟩
    cases hi : ist H 2 v with
    | false =>
      have e : pl1 H as v = some (.places, v) := by
        unfold pl1
        unfold ist at hi
        split
        · rename_i n q e
          rw [e] at hi
          cases hi
        · rfl
      rw [e] at k
      exact ⟨_, rfl, iteT ⟨_, rfl, made_one fun e he => k H e (KT.refl tb) he⟩⟩
    | true =>
      obtain ⟨xs, hx, h2⟩ := ist_true (n := 2) hi
      match xs, h2 with
      | [n, q], _ =>
        have e : pl1 H as v = if nm n = true then (if n ∈ as.map V.str then some (.twice, n) else if wh 1 3 q = true then none else some (.number, q)) else some (.name, n) := by
          unfold pl1
          rw [hx]
        rw [e] at k
        have thn := kd _ (seq_of_tup hx) n (by simp)
        have thq := kd _ (seq_of_tup hx) q (by simp)
        obtain ⟨t, rfl, ht⟩ := tup_some hx
        refine ⟨_, rfl, iteF ?_⟩
        refine ⟨_, rfl, t, _, rfl, SqT.of ht, rfl, _, _, rfl, _, _, rfl, rfl, ?_⟩
        refine ⟨_, rfl, n, rfl, thn, tb, fun H1 k1 => ?_⟩
        cases hn : nm n with
        | false =>
          rw [hn, if_neg Bool.false_ne_true] at k
          exact ⟨_, rfl, iteT ⟨_, rfl, made_one fun e he => k H1 e k1 he⟩⟩
        | true =>
          rw [hn, if_pos rfl] at k
          refine ⟨_, rfl, iteF ?_⟩
          obtain ⟨z, rfl, hz⟩ := nm_str hn
          have n1 := KT.nt tb k1
          refine ⟨_, rfl, _, rfl, l, _, rfl, .inl (SqL.of (n1 _ _ (by simp) hl)), rfl, flat_strs as, ?_⟩
          refine ⟨_, rfl, ?_⟩
          show if inV (.str z) (as.map V.str) = true then _ else _
          rw [inV_mem]
          by_cases hm : V.str z ∈ as.map V.str
          · rw [if_pos hm] at k
            rw [decide_eq_true hm]
            exact iteT ⟨_, rfl, made_one fun e he => k H1 e k1 he⟩
          · rw [if_neg hm] at k
            rw [decide_eq_false hm]
            refine iteF ?_
            refine ⟨_, rfl, q, 1, 3, rfl, th_nt n1 thq, ?_⟩
            cases hw : wh 1 3 q with
            | false =>
              rw [hw, if_neg Bool.false_ne_true] at k
              exact ⟨_, rfl, iteT ⟨_, rfl, made_one fun e he => k H1 e k1 he⟩⟩
            | true =>
              rw [hw, if_pos rfl] at k
              exact ⟨_, rfl, iteF (k H1 k1)⟩
end
end K8

set_option maxRecDepth 100000
set_option maxHeartbeats 400000
namespace K8
open PySem PySem.Spec PyProof.Rows L2 GxR Gd TL My
theorem pl1_nt {H H' : Hp} (e : Nt H H') {v : V} (th : Th H v) (as : List Str) : pl1 H' as v = pl1 H as v := by
  unfold pl1
  rw [tup_nt e th]
theorem st1_nt {H H' : Hp} (e : Nt H H') {v : V} (th : Th H v) : st1 H' v = st1 H v := by
  unfold st1
  rw [tup_nt e th]
theorem lo1_nt {H H' : Hp} (e : Nt H H') {v : V} (th : Th H v) (low top : Int) : lo1 H' low top v = lo1 H low top v := by
  unfold lo1
  rw [tup_nt e th]
def nameOf (H : Hp) (v : V) : Str := match tupOf H v with
  | some [.str z, _] => z
  | _ => ""
def plD (H : Hp) : List Str → List V → Due
  | _, [] => none
  | as, v :: r => match pl1 H as v with
    | some d => some d
    | none => plD H (as ++ [nameOf H v]) r
def placesD (H : Hp) (v : V) : Due := if isl H 2 6 v = true then plD H [] ((seqOf H v).getD []) else some (.places, v)
def stD (H : Hp) : List V → Due
  | [] => none
  | v :: r => if st1 H v = true then stD H r else some (.stretches, v)
def stretchesD (H : Hp) (n : Int) (v : V) : Due := if isl H n n v = true then stD H ((seqOf H v).getD []) else some (.stretches, v)
def lastLo (H : Hp) (v : V) : Int := match tupOf H v with
  | some [_, l, _] => intOf l
  | _ => 0
def loD (H : Hp) (top : Int) : Int → List V → Due
  | _, [] => none
  | low, v :: r => if lo1 H low top v = true then loD H top (lastLo H v) r else some (.longs, v)
def longsD (H : Hp) (top : Int) (v : V) : Due := if isl H 0 2 v = true then loD H top 0 ((seqOf H v).getD []) else some (.longs, v)
/-- things, and what they hold, and what that holds -/
def Deep (H : Hp) (v : V) : Prop := Th H v ∧ ∀ xs, seqOf H v = some xs → ∀ x ∈ xs, Th H x ∧ Kids H x
theorem Deep.kids {H : Hp} {v : V} (d : Deep H v) : Kids H v := fun xs h x hx => (d.2 xs h x hx).1
theorem Deep.nt {H H' : Hp} (e : Nt H H') {v : V} (d : Deep H v) : Deep H' v :=
  ⟨th_nt e d.1, fun xs hs x hx => by
    obtain ⟨a, b⟩ := d.2 xs (by rw [← seq_nt e d.1]; exact hs) x hx
    exact ⟨th_nt e a, b.nt e a⟩⟩
theorem pl1_none {H : Hp} {as : List Str} {v : V} (h : pl1 H as v = none) : ∃ t z q, v = .ref t ∧ H t = some (.tup [.str z, q]) ∧ nameOf H v = z ∧ NameOk z ∧ z ∉ as ∧ wh 1 3 q = true := by
  unfold pl1 at h
  split at h
  · rename_i n q e
    split at h
    · rename_i hn
      obtain ⟨z, rfl, hz⟩ := nm_str hn
      split at h
      · cases h
      · rename_i hm
        split at h
        · rename_i hw
          obtain ⟨t, rfl, ht⟩ := tup_some e
          refine ⟨t, z, q, rfl, ht, ?_, hz, fun m => hm (List.mem_map.mpr ⟨z, m, rfl⟩), hw⟩
          unfold nameOf
          rw [e]
        · cases h
    · cases h
  · cases h
theorem flat_in2 {k : V} (h : flatV k = true) (a b : Str) : inV k [.str a, .str b] = (decide (k = .str a) || decide (k = .str b)) := by
  unfold inV
  rw [List.any_cons, List.any_cons, List.any_nil, Bool.or_false]
  cases k with
  | str z =>
    show ((a == z) || (b == z)) = _
    rw [Bool.eq_iff_iff]
    simp only [Bool.or_eq_true, beq_iff_eq, decide_eq_true_eq, V.str.injEq]
    constructor
    · rintro (e | e)
      · exact .inl e.symm
      · exact .inr e.symm
    · rintro (e | e)
      · exact .inl e.symm
      · exact .inr e.symm
  | _ => simp [eqV]
theorem th_flat {H : Hp} {v : V} (th : Th H v) : flatV v = true ∨ ∃ a, v = .ref a ∧ ((∃ xs, H a = some (.lst xs)) ∨ (∃ xs, H a = some (.tup xs)) ∨ ∃ kvs, H a = some (.dK kvs)) := by
  cases th with
  | non => exact .inl rfl
  | bl b => exact .inl rfl
  | int i => exact .inl rfl
  | str z h g => exact .inl rfl
  | lst a xs h => exact .inr ⟨a, rfl, .inl ⟨_, h⟩⟩
  | tup a xs h => exact .inr ⟨a, rfl, .inr (.inl ⟨_, h⟩)⟩
  | dic a h => exact .inr ⟨a, rfl, .inr (.inr ⟨_, h⟩)⟩
section
variable {P : Program} {w : World} {K : PySem.W.Frag} {mg : Str → Option Value} {base : Heap}
def spIsStretchG : Sp := fun vs H Q _ => ∃ (v : V), vs = [v] ∧ Th H v ∧ Kids H v ∧ ∀ H', Same H H' → Q (.bl (st1 H v)) H'
theorem ok_is_stretch_linesG {f f1 f2 : Addr} {fd fd1 fd2 : FuncData} (F : Fun K "_is_stretch" "_is_stretch" s_is_stretch_lines f fd) (T : Txt mg)
    (Nis_tuple : Fn K mg "is_tuple" s_is_tuple ["thing", "many"] f1 fd1) (Gis_tupleG : FnOk P w K mg base CX0 1 f1 fd1 ["thing", "many"] spIsTupleG)
    (Nis_whole : Fn K mg "is_whole" sWhole ["thing", "low", "high"] f2 fd2) (Gis_whole : FnOk P w K mg base CX0 1 f2 fd2 ["thing", "low", "high"] spWhole) :
    FnOk P w K mg base CX0 2 f fd ["thing"] spIsStretchG := by
  refine F.ok sc_is_stretch_lines (fun vs H Q E h => ?_) (fun cdv A outer s H vs Q E hr h => ?_)
  · obtain ⟨v, rfl, _⟩ := h
    rfl
  · obtain ⟨v, rfl, th, kd, k⟩ := h
    have hu2 := Nat.lt_of_le_of_lt (Nat.add_le_add_left (by decide : 2 ≤ 64) _) hr.units
    refine ⟨_, pss_cons (ps_if (pt_not (pt_val (pe_call Gis_tupleG (hr.mono (by decide)) (by rfl) Nis_tuple.g Nis_tuple.kp Nis_tuple.b .nil pass0 (pa_cons (pv 0) (pa_cons pe_int pa_nil))))) (pss_one (ps_ret pe_bl)) pss_nil)
      (pss_cons (ps_asg (pv 0) (pg_tup (by rfl) (pgs_cons (pg_name (i := 1) sc_is_stretch_lines.nd rfl (Or.inl rfl)) (pgs_cons (pg_name (i := 2) sc_is_stretch_lines.nd rfl (Or.inl rfl)) pgs_nil))))
      (pss_one (ps_ret (pe_and (pe_cmpR (op_inTt hu2) (pv 1) (pe_tup (pa_cons pe_str (pa_cons pe_str pa_nil))) rfl) (pe_one (pe_call Gis_whole (hr.mono (by decide)) (by rfl) Nis_whole.g Nis_whole.kp Nis_whole.b .nil pass0 (pa_cons (pv 2) (pa_cons pe_int (pa_cons pe_int pa_nil))))))))), ?_⟩
    refine ⟨_, rfl, v, 2, rfl, th, ?_⟩
    cases hi : ist H 2 v with
    | false =>
      have e : st1 H v = false := by
        unfold st1
        unfold ist at hi
        split
        · rename_i n q e
          rw [e] at hi
          cases hi
        · rfl
      have := k H (Same.refl _)
      rw [e] at this
      exact ⟨_, rfl, iteT this⟩
    | true =>
      obtain ⟨xs, hx, h2⟩ := ist_true (n := 2) hi
      match xs, h2 with
      | [n, q], _ =>
        have e : st1 H v = ((decide (n = .str "staff") || decide (n = .str "ticket")) && wh 0 1 q) := by
          unfold st1
          rw [hx]
        rw [e] at k
        have thn := kd _ (seq_of_tup hx) n (by simp)
        have thq := kd _ (seq_of_tup hx) q (by simp)
        obtain ⟨t, rfl, ht⟩ := tup_some hx
        refine ⟨_, rfl, iteF ?_⟩
        refine ⟨_, rfl, t, _, rfl, SqT.of ht, rfl, _, _, rfl, _, _, rfl, rfl, ?_⟩
        refine ⟨_, rfl, (by show 2 ≤ sizeLine; decide), fun u hu => ?_⟩
        have s1 := same_alloc (o := .tup [.str "staff", .str "ticket"]) hu
        have e1 : upd H u (.tup [.str "staff", .str "ticket"]) u = some (.tup [.str "staff", .str "ticket"]) := upd_same
        generalize upd H u (.tup [.str "staff", .str "ticket"]) = H1 at s1 e1 ⊢
        refine ⟨u, ["staff", "ticket"], rfl, SqT.of e1, ?_⟩
        have fin : (decide (n = .str "staff") || decide (n = .str "ticket")) = false → Q (.bl false) H1 := fun h => by
          have := k H1 s1
          rw [h, Bool.false_and] at this
          exact this
        rcases th_flat thn with fl | ⟨a, rfl, ha⟩
        · refine .inl ⟨fl, _, rfl, ?_⟩
          have ei := flat_in2 fl "staff" "ticket"
          show if inV n [.str "staff", .str "ticket"] = true then _ else _
          rw [ei]
          cases hb : (decide (n = .str "staff") || decide (n = .str "ticket")) with
          | false => exact iteF (fin hb)
          | true =>
            refine iteT ⟨_, rfl, q, 0, 1, rfl, th_nt (same_nt s1) thq, ?_⟩
            have := k H1 s1
            rw [hb, Bool.true_and] at this
            exact this
        · refine .inr ⟨⟨a, rfl, ?_⟩, _, rfl, iteF (fin rfl)⟩
          rcases ha with ⟨xs, h⟩ | ⟨xs, h⟩ | ⟨kvs, h⟩
          · exact .inl ⟨xs, SqL.of (s1 _ _ h)⟩
          · exact .inr (.inl ⟨xs, SqT.of (s1 _ _ h)⟩)
          · exact .inr (.inr ⟨kvs, s1 _ _ h⟩)
def spIsLongG : Sp := fun vs H Q _ => ∃ (v : V) (low tp : Int), vs = [v, .int low, .int tp] ∧ Th H v ∧ Kids H v ∧ Q (.bl (lo1 H low tp v)) H
theorem ok_is_long_linesG {f f1 f2 : Addr} {fd fd1 fd2 : FuncData} (F : Fun K "_is_long" "_is_long" s_is_long_lines f fd) (T : Txt mg)
    (Nis_tuple : Fn K mg "is_tuple" s_is_tuple ["thing", "many"] f1 fd1) (Gis_tupleG : FnOk P w K mg base CX0 1 f1 fd1 ["thing", "many"] spIsTupleG)
    (Nis_whole : Fn K mg "is_whole" sWhole ["thing", "low", "high"] f2 fd2) (Gis_whole : FnOk P w K mg base CX0 1 f2 fd2 ["thing", "low", "high"] spWhole) :
    FnOk P w K mg base CX0 2 f fd ["thing", "low", "top"] spIsLongG := by
  refine F.ok sc_is_long_lines (fun vs H Q E h => ?_) (fun cdv A outer s H vs Q E hr h => ?_)
  · obtain ⟨v, low, tp, rfl, _⟩ := h
    rfl
  · obtain ⟨v, low, tp, rfl, th, kd, k⟩ := h
    refine ⟨_, pss_cons (ps_if (pt_not (pt_val (pe_call Gis_tupleG (hr.mono (by decide)) (by rfl) Nis_tuple.g Nis_tuple.kp Nis_tuple.b .nil pass0 (pa_cons (pv 0) (pa_cons pe_int pa_nil))))) (pss_one (ps_ret pe_bl)) pss_nil)
      (pss_cons (ps_asg (pv 0) (pg_tup (by rfl) (pgs_cons (pg_name (i := 3) sc_is_long_lines.nd rfl (Or.inl rfl)) (pgs_cons (pg_name (i := 4) sc_is_long_lines.nd rfl (Or.inl rfl)) (pgs_cons (pg_name (i := 5) sc_is_long_lines.nd rfl (Or.inl rfl)) pgs_nil)))))
      (pss_one (ps_ret (pe_and (pe_call Gis_whole (hr.mono (by decide)) (by rfl) Nis_whole.g Nis_whole.kp Nis_whole.b .nil pass0 (pa_cons (pv 3) (pa_cons (pv 1) (pa_cons (pv 2) pa_nil)))) (pe_and (pe_call Gis_whole (hr.mono (by decide)) (by rfl) Nis_whole.g Nis_whole.kp Nis_whole.b .nil pass0 (pa_cons (pv 4) (pa_cons (pe_op op_add (pv 3) pe_int) (pa_cons (pv 2) pa_nil)))) (pe_one (pe_call Gis_whole (hr.mono (by decide)) (by rfl) Nis_whole.g Nis_whole.kp Nis_whole.b .nil pass0 (pa_cons (pv 5) (pa_cons pe_int (pa_cons pe_int pa_nil)))))))))), ?_⟩
    refine ⟨_, rfl, v, 3, rfl, th, ?_⟩
    cases hi : ist H 3 v with
    | false =>
      have e : lo1 H low tp v = false := by
        unfold lo1
        unfold ist at hi
        split
        · rename_i n q l e
          rw [e] at hi
          cases hi
        · rfl
      rw [e] at k
      exact ⟨_, rfl, iteT k⟩
    | true =>
      obtain ⟨xs, hx, h3⟩ := ist_true (n := 3) hi
      match xs, h3 with
      | [fi, la, h], _ =>
        have e : lo1 H low tp v = (wh low tp fi && wh (intOf fi + 2) tp la && wh 0 1 h) := by
          unfold lo1
          rw [hx]
        rw [e] at k
        have th1 := kd _ (seq_of_tup hx) fi (by simp)
        have th2 := kd _ (seq_of_tup hx) la (by simp)
        have th3 := kd _ (seq_of_tup hx) h (by simp)
        obtain ⟨t, rfl, ht⟩ := tup_some hx
        refine ⟨_, rfl, iteF ?_⟩
        refine ⟨_, rfl, t, _, rfl, SqT.of ht, rfl, _, _, rfl, _, _, rfl, _, _, rfl, rfl, ?_⟩
        refine ⟨_, rfl, _, rfl, _, rfl, fi, low, tp, rfl, th1, ?_⟩
        cases h1 : wh low tp fi with
        | false =>
          rw [h1, Bool.false_and, Bool.false_and] at k
          exact ⟨_, rfl, iteF k⟩
        | true =>
          rw [h1, Bool.true_and] at k
          obtain ⟨i, rfl⟩ : ∃ i, fi = .int i := by
            cases fi with
            | int i => exact ⟨i, rfl⟩
            | _ => cases h1
          refine ⟨_, rfl, iteT ?_⟩
          refine ⟨_, rfl, _, rfl, _, _, rfl, rfl, _, rfl, la, i + 2, tp, rfl, th2, ?_⟩
          have k' : Q (.bl (wh (i + 2) tp la && wh 0 1 h)) H := k
          cases h2 : wh (i + 2) tp la with
          | false =>
            rw [h2, Bool.false_and] at k'
            exact ⟨_, rfl, iteF k'⟩
          | true =>
            rw [h2, Bool.true_and] at k'
            exact ⟨_, rfl, iteT ⟨_, rfl, h, 0, 1, rfl, th3, k'⟩⟩
end
end K8

set_option maxRecDepth 100000
set_option maxHeartbeats 400000
namespace K8
open PySem PySem.Spec PyProof.Rows L2 GxR Gd TL My
theorem wish_of {cl : Tag → Addr} {J J' : Hp → Prop} {d : Due} {Q Q' : VK} {E : XK} (k : Wish cl J d Q E) (j : ∀ H', J' H' → J H') (n : d = none → ∀ H', J' H' → Q' .non H') : Wish cl J' d Q' E := by
  match d, k with
  | none, k => exact n rfl
  | some (t, u), k => exact fun H' e h he => k H' e (j H' h) he
theorem isl_true {H : Hp} {lo hi : Int} {v : V} (h : isl H lo hi v = true) : ∃ a xs, v = .ref a ∧ seqOf H v = some xs ∧ (H a = some (.lst xs) ∨ H a = some (.tup xs)) ∧ lo ≤ (xs.length : Int) ∧ (xs.length : Int) ≤ hi := by
  unfold isl at h
  split at h
  · rename_i xs e
    obtain ⟨a, rfl, h2⟩ := seq_some e
    simp only [Bool.and_eq_true, decide_eq_true_eq] at h
    exact ⟨a, xs, rfl, e, h2, h.1, h.2⟩
  · cases h
theorem pl1_snoc {H : Hp} {as : List Str} {v : V} {r : List V} (h : pl1 H as v = none) : plD H as (v :: r) = plD H (as ++ [nameOf H v]) r := by
  show (match pl1 H as v with | some d => some d | none => plD H (as ++ [nameOf H v]) r) = _
  rw [h]
theorem pl1_stop {H : Hp} {as : List Str} {v : V} {r : List V} {d : Tag × V} (h : pl1 H as v = some d) : plD H as (v :: r) = some d := by
  show (match pl1 H as v with | some d => some d | none => plD H (as ++ [nameOf H v]) r) = _
  rw [h]
theorem drop_at {xs : List V} {i : Nat} {x : V} (h : xs[i]? = some x) : xs.drop i = x :: xs.drop (i + 1) := by
  obtain ⟨h1, h2⟩ := List.getElem?_eq_some_iff.mp h
  rw [← h2]
  exact (List.getElem_cons_drop ..).symm
section
variable {P : Program} {w : World} {K : PySem.W.Frag} {mg : Str → Option Value} {base : Heap}
variable {cl : Tag → Addr} {CS fS f1 f2 f3 f4 : Addr} {fdS fd1 fd2 fd3 fd4 : FuncData} {g1 g2 g3 g4 : Addr} {gd1 gd2 gd3 gd4 : FuncData}
def spPlacesX (cl : Tag → Addr) (Pt : Addr) : Sp := fun vs H Q E => ∃ (v : V), vs = [v] ∧ Deep H v ∧ TabG H Pt ∧ Wish cl (KT Pt H) (placesD H v) Q E
theorem ok_placesX {f Pt : Addr} {fd : FuncData} (F : Fun K "_check_places" "_check_places" s_check_places f fd) (T : Txt mg) (ES : SeT K mg CS fS fdS sSE)
    (ENoPlaces : ExC K mg "NoPlaces" "NoPlaces.__init__" sNoPlaces (cl .places) g1 gd1)
    (Nis_list : Fn K mg "is_list" s_is_list ["thing", "low", "high"] f1 fd1) (Gis_listG : FnOk P w K mg base CX0 1 f1 fd1 ["thing", "low", "high"] spIsListG)
    (Ncheck_place : Fn K mg "_check_place" s_check_place ["place", "ahead"] f2 fd2) (Gcheck_placeX : FnOk P w K mg base (CX P w) 4 f2 fd2 ["place", "ahead"] (spPlaceX cl Pt)) :
    FnOk P w K mg base (CX P w) 5 f fd ["places"] (spPlacesX cl Pt) := by
  refine F.okX sc_check_places (fun vs H Q E h => ?_) (fun cdv A outer s H vs Q E hr h => ?_)
  · obtain ⟨v, rfl, _⟩ := h
    rfl
  · obtain ⟨v, rfl, dp, tb, k⟩ := h
    cases hi : isl H 2 6 v with
    | false =>
      have e : placesD H v = some (.places, v) := by
        unfold placesD
        rw [hi, if_neg Bool.false_ne_true]
      rw [e] at k
      refine ⟨_, pss_cons (ps_if (pt_not (pt_val (pe_call Gis_listG (hr.mono (by decide)) (by rfl) Nis_list.g Nis_list.kp Nis_list.b .nil pass0 (pa_cons (pv 0) (pa_cons pe_int (pa_cons pe_int pa_nil)))))) (pss_one (ps_raise rfl (takes_of rfl rfl rfl rfl) (pmk_oex ENoPlaces.o ENoPlaces.i ENoPlaces.t (ok_NoPlaces ES ENoPlaces) (hr.mono (by decide)) ENoPlaces.b .nil pass0 (by rfl) ENoPlaces.g (pa_cons (pv 0) pa_nil)))) pss_nil)
      (pss_cons (ps_set (i := 1) sc_check_places.nd rfl (Or.inl rfl) (pe_lst pa_nil))
      (pss_one (ps_for (passes_of rfl) rfl (pi_list (pv 0)) (pg_name (i := 2) sc_check_places.nd rfl (Or.inl rfl)) (pss_cons (ps_expr (pe_call Gcheck_placeX (hr.mono (by decide)) (by rfl) Ncheck_place.g Ncheck_place.kp Ncheck_place.b .nil (passes_call (takes_of rfl rfl rfl rfl) (fun _ _ _ _ h => h)) (pa_cons (pv 2) (pa_cons (pv 1) pa_nil))))
          (pss_one (ps_expr (pe_bm PySem.F.plainAttrs_list PySem.F.slot_list_append PySem.F.type_list_append mt_append (pv 1) (pa_cons (pe_ix ix_tup (pv 2) pe_int (fun _ _ => rfl)) pa_nil)))))))), ?_⟩
      refine ⟨_, rfl, _, 2, 6, rfl, dp.1, fun H1 s1 => ?_⟩
      rw [hi]
      exact ⟨_, rfl, iteT ⟨_, rfl, made_one fun e he => k H1 e (same_kt tb s1) he⟩⟩
    | true =>
      have e : placesD H v = plD H [] ((seqOf H v).getD []) := by
        unfold placesD
        rw [hi, if_pos rfl]
      obtain ⟨a, xs, rfl, hq, ha, l2, l6⟩ := isl_true hi
      rw [e, hq] at k
      replace k : Wish cl (My.KT Pt H) (plD H [] xs) Q E := k
      rcases ha with ha | ha
      · skip
        refine ⟨_, pss_cons (ps_if (pt_not (pt_val (pe_call Gis_listG (hr.mono (by decide)) (by rfl) Nis_list.g Nis_list.kp Nis_list.b .nil pass0 (pa_cons (pv 0) (pa_cons pe_int (pa_cons pe_int pa_nil)))))) (pss_one (ps_raise rfl (takes_of rfl rfl rfl rfl) (pmk_oex ENoPlaces.o ENoPlaces.i ENoPlaces.t (ok_NoPlaces ES ENoPlaces) (hr.mono (by decide)) ENoPlaces.b .nil pass0 (by rfl) ENoPlaces.g (pa_cons (pv 0) pa_nil)))) pss_nil)
      (pss_cons (ps_set (i := 1) sc_check_places.nd rfl (Or.inl rfl) (pe_lst pa_nil))
      (pss_one (ps_for (passes_of rfl) rfl (pi_list (pv 0)) (pg_name (i := 2) sc_check_places.nd rfl (Or.inl rfl)) (pss_cons (ps_expr (pe_call Gcheck_placeX (hr.mono (by decide)) (by rfl) Ncheck_place.g Ncheck_place.kp Ncheck_place.b .nil (passes_call (takes_of rfl rfl rfl rfl) (fun _ _ _ _ h => h)) (pa_cons (pv 2) (pa_cons (pv 1) pa_nil))))
          (pss_one (ps_expr (pe_bm PySem.F.plainAttrs_list PySem.F.slot_list_append PySem.F.type_list_append mt_append (pv 1) (pa_cons (pe_ix ix_tup (pv 2) pe_int (fun _ _ => rfl)) pa_nil)))))))), ?_⟩
        refine ⟨_, rfl, _, 2, 6, rfl, dp.1, fun H1 s1 => ?_⟩
        rw [hi]
        refine ⟨_, rfl, iteF ?_⟩
        refine ⟨Nat.zero_le _, fun L hL0 => ?_⟩
        have hLn : H L = none := s1.free hL0
        have kA := (same_kt tb s1).trans (KT.alloc (o := .lst []) (same_kt tb s1).tab hL0)
        have HX := Nt.seq (K := K) (KT.nt tb kA) (a := a) (xs := xs) (SqL.of ha)
        refine ⟨_, rfl, a, rfl, ⟨_, HX⟩, for_list (K := K) (a := a) (xs := xs) (fun i σ H' => ∃ (v : Option V) (as : List Str), σ = [some (.ref a), some (.ref L), v] ∧ H' L = some (.lst (as.map V.str)) ∧ as.length = i ∧ plD H as (xs.drop i) = plD H [] xs ∧ KT Pt H H')
          ⟨_, [], rfl, upd_same, rfl, rfl, kA⟩ (fun i σ H' _ ⟨_, _, _, _, _, _, q⟩ => Nt.seq (KT.nt tb q) (SqL.of ha)) ?_ ?_⟩
        · rintro i x σ H2 hx ⟨v, as, rfl, eL, el, ep, k2⟩
          obtain ⟨thx, kx⟩ := dp.2 xs hq x (List.mem_of_getElem? hx)
          rw [drop_at hx] at ep
          have hi := (List.getElem?_eq_some_iff.mp hx).1
          have n2 := KT.nt tb k2
          refine ⟨_, rfl, _, rfl, x, L, as, rfl, th_nt n2 thx, kx.nt n2 thx, eL, k2.tab, ?_⟩
          rw [pl1_nt n2 thx as]
          cases hp : pl1 H as x with
          | some d =>
            rw [pl1_stop hp] at ep
            rw [← ep] at k
            exact wish_of k (fun H' h => k2.trans h) nofun
          | none =>
            rw [pl1_snoc hp] at ep
            obtain ⟨t, z, q, rfl, ht, en, nz, _, _⟩ := pl1_none hp
            refine fun H3 k3 => ?_
            have eL3 : H3 L = some (.lst (as.map V.str)) := KT.nt k2.tab k3 L _ (by simp) eL
            have ht3 := KT.nt tb (k2.trans k3) _ _ (by simp) ht
            have nLP : L ≠ Pt := ne_tab k3.tab eL3 (by simp)
            refine ⟨_, rfl, .inl ⟨rfl, _, SqL.of eL3⟩, _, rfl, t, _, 0, .str z, rfl, rfl, SqT.of ht3, rfl, L, _, _, rfl, rfl, eL3, ?_, ?_⟩
            · rw [List.length_map, el]
              exact small1000 (by omega)
            · refine ⟨_, as ++ [z], rfl, ?_, by rw [List.length_append, el]; rfl, ?_, KT.put (k2.trans k3) hLn nLP⟩
              · rw [upd_same, List.map_append]
                rfl
              · rw [en] at ep
                exact ep
        · rintro σ H2 ⟨v, as, rfl, eL, el, ep, k2⟩
          rw [List.drop_length] at ep
          rw [← ep] at k
          exact k H2 k2
      · skip
        refine ⟨_, pss_cons (ps_if (pt_not (pt_val (pe_call Gis_listG (hr.mono (by decide)) (by rfl) Nis_list.g Nis_list.kp Nis_list.b .nil pass0 (pa_cons (pv 0) (pa_cons pe_int (pa_cons pe_int pa_nil)))))) (pss_one (ps_raise rfl (takes_of rfl rfl rfl rfl) (pmk_oex ENoPlaces.o ENoPlaces.i ENoPlaces.t (ok_NoPlaces ES ENoPlaces) (hr.mono (by decide)) ENoPlaces.b .nil pass0 (by rfl) ENoPlaces.g (pa_cons (pv 0) pa_nil)))) pss_nil)
      (pss_cons (ps_set (i := 1) sc_check_places.nd rfl (Or.inl rfl) (pe_lst pa_nil))
      (pss_one (ps_for (passes_of rfl) rfl (pi_tup (pv 0)) (pg_name (i := 2) sc_check_places.nd rfl (Or.inl rfl)) (pss_cons (ps_expr (pe_call Gcheck_placeX (hr.mono (by decide)) (by rfl) Ncheck_place.g Ncheck_place.kp Ncheck_place.b .nil (passes_call (takes_of rfl rfl rfl rfl) (fun _ _ _ _ h => h)) (pa_cons (pv 2) (pa_cons (pv 1) pa_nil))))
          (pss_one (ps_expr (pe_bm PySem.F.plainAttrs_list PySem.F.slot_list_append PySem.F.type_list_append mt_append (pv 1) (pa_cons (pe_ix ix_tup (pv 2) pe_int (fun _ _ => rfl)) pa_nil)))))))), ?_⟩
        refine ⟨_, rfl, _, 2, 6, rfl, dp.1, fun H1 s1 => ?_⟩
        rw [hi]
        refine ⟨_, rfl, iteF ?_⟩
        refine ⟨Nat.zero_le _, fun L hL0 => ?_⟩
        have hLn : H L = none := s1.free hL0
        have kA := (same_kt tb s1).trans (KT.alloc (o := .lst []) (same_kt tb s1).tab hL0)
        have HX := Nt.seqT (K := K) (KT.nt tb kA) (a := a) (xs := xs) (SqT.of ha)
        refine ⟨_, rfl, a, rfl, ⟨_, HX⟩, for_tup (K := K) (a := a) (xs := xs) (fun i σ H' => ∃ (v : Option V) (as : List Str), σ = [some (.ref a), some (.ref L), v] ∧ H' L = some (.lst (as.map V.str)) ∧ as.length = i ∧ plD H as (xs.drop i) = plD H [] xs ∧ KT Pt H H')
          ⟨_, [], rfl, upd_same, rfl, rfl, kA⟩ (fun i σ H' _ ⟨_, _, _, _, _, _, q⟩ => Nt.seqT (KT.nt tb q) (SqT.of ha)) ?_ ?_⟩
        · rintro i x σ H2 hx ⟨v, as, rfl, eL, el, ep, k2⟩
          obtain ⟨thx, kx⟩ := dp.2 xs hq x (List.mem_of_getElem? hx)
          rw [drop_at hx] at ep
          have hi := (List.getElem?_eq_some_iff.mp hx).1
          have n2 := KT.nt tb k2
          refine ⟨_, rfl, _, rfl, x, L, as, rfl, th_nt n2 thx, kx.nt n2 thx, eL, k2.tab, ?_⟩
          rw [pl1_nt n2 thx as]
          cases hp : pl1 H as x with
          | some d =>
            rw [pl1_stop hp] at ep
            rw [← ep] at k
            exact wish_of k (fun H' h => k2.trans h) nofun
          | none =>
            rw [pl1_snoc hp] at ep
            obtain ⟨t, z, q, rfl, ht, en, nz, _, _⟩ := pl1_none hp
            refine fun H3 k3 => ?_
            have eL3 : H3 L = some (.lst (as.map V.str)) := KT.nt k2.tab k3 L _ (by simp) eL
            have ht3 := KT.nt tb (k2.trans k3) _ _ (by simp) ht
            have nLP : L ≠ Pt := ne_tab k3.tab eL3 (by simp)
            refine ⟨_, rfl, .inl ⟨rfl, _, SqL.of eL3⟩, _, rfl, t, _, 0, .str z, rfl, rfl, SqT.of ht3, rfl, L, _, _, rfl, rfl, eL3, ?_, ?_⟩
            · rw [List.length_map, el]
              exact small1000 (by omega)
            · refine ⟨_, as ++ [z], rfl, ?_, by rw [List.length_append, el]; rfl, ?_, KT.put (k2.trans k3) hLn nLP⟩
              · rw [upd_same, List.map_append]
                rfl
              · rw [en] at ep
                exact ep
        · rintro σ H2 ⟨v, as, rfl, eL, el, ep, k2⟩
          rw [List.drop_length] at ep
          rw [← ep] at k
          exact k H2 k2
end
end K8

set_option maxRecDepth 100000
set_option maxHeartbeats 400000
namespace K8
open PySem PySem.Spec PyProof.Rows L2 GxR Gd TL My
theorem st_go {H : Hp} {v : V} {r : List V} (h : st1 H v = true) : stD H (v :: r) = stD H r := by
  show (if st1 H v = true then stD H r else some (.stretches, v)) = _
  rw [if_pos h]
theorem st_stop {H : Hp} {v : V} {r : List V} (h : st1 H v = false) : stD H (v :: r) = some (.stretches, v) := by
  show (if st1 H v = true then stD H r else some (.stretches, v)) = _
  rw [h, if_neg Bool.false_ne_true]
theorem lo_go {H : Hp} {low top : Int} {v : V} {r : List V} (h : lo1 H low top v = true) : loD H top low (v :: r) = loD H top (lastLo H v) r := by
  show (if lo1 H low top v = true then loD H top (lastLo H v) r else some (.longs, v)) = _
  rw [if_pos h]
theorem lo_stop {H : Hp} {low top : Int} {v : V} {r : List V} (h : lo1 H low top v = false) : loD H top low (v :: r) = some (.longs, v) := by
  show (if lo1 H low top v = true then loD H top (lastLo H v) r else some (.longs, v)) = _
  rw [h, if_neg Bool.false_ne_true]
theorem wh_int {lo hi : Int} {v : V} (h : wh lo hi v = true) : ∃ i, v = .int i := by
  cases v with
  | int i => exact ⟨i, rfl⟩
  | _ => cases h
theorem lo1_true {H : Hp} {low top : Int} {v : V} (h : lo1 H low top v = true) : ∃ t fi la q, v = .ref t ∧ H t = some (.tup [fi, .int la, q]) ∧ lastLo H v = la := by
  unfold lo1 at h
  split at h
  · rename_i fi l q e
    simp only [Bool.and_eq_true] at h
    obtain ⟨la, rfl⟩ := wh_int h.1.2
    obtain ⟨t, rfl, ht⟩ := tup_some e
    refine ⟨t, fi, la, q, rfl, ht, ?_⟩
    unfold lastLo
    rw [e]
    rfl
  · cases h
section
variable {P : Program} {w : World} {K : PySem.W.Frag} {mg : Str → Option Value} {base : Heap}
variable {cl : Tag → Addr} {CS fS f1 f2 : Addr} {fdS fd1 fd2 : FuncData} {g1 : Addr} {gd1 : FuncData}
def spStretchesX (cl : Tag → Addr) : Sp := fun vs H Q E => ∃ (v : V) (n : Int), vs = [v, .int n] ∧ Deep H v ∧ Wish cl (Same H) (stretchesD H n v) Q E
theorem ok_stretchesX {f : Addr} {fd : FuncData} (F : Fun K "_check_stretches" "_check_stretches" s_check_stretches f fd) (T : Txt mg) (ES : SeT K mg CS fS fdS sSE)
    (ENoStretches : ExC K mg "NoStretches" "NoStretches.__init__" sNoStretches (cl .stretches) g1 gd1)
    (Nis_list : Fn K mg "is_list" s_is_list ["thing", "low", "high"] f1 fd1) (Gis_listG : FnOk P w K mg base CX0 1 f1 fd1 ["thing", "low", "high"] spIsListG)
    (Nis_stretch_lines : FnA K mg "is_stretch_lines" "_is_stretch" s_is_stretch_lines ["thing"] f2 fd2) (Gis_stretch_linesG : FnOk P w K mg base CX0 2 f2 fd2 ["thing"] spIsStretchG) :
    FnOk P w K mg base (CX P w) 4 f fd ["stretches", "many"] (spStretchesX cl) := by
  refine F.okX sc_check_stretches (fun vs H Q E h => ?_) (fun cdv A outer s H vs Q E hr h => ?_)
  · obtain ⟨v, n, rfl, _⟩ := h
    rfl
  · obtain ⟨v, n, rfl, dp, k⟩ := h
    cases hi : isl H n n v with
    | false =>
      have e : stretchesD H n v = some (.stretches, v) := by
        unfold stretchesD
        rw [hi, if_neg Bool.false_ne_true]
      rw [e] at k
      refine ⟨_, pss_cons (ps_if (pt_not (pt_val (pe_call Gis_listG (hr.mono (by decide)) (by rfl) Nis_list.g Nis_list.kp Nis_list.b .nil pass0 (pa_cons (pv 0) (pa_cons (pv 1) (pa_cons (pv 1) pa_nil)))))) (pss_one (ps_raise rfl (takes_of rfl rfl rfl rfl) (pmk_oex ENoStretches.o ENoStretches.i ENoStretches.t (ok_NoStretches ES ENoStretches) (hr.mono (by decide)) ENoStretches.b .nil pass0 (by rfl) ENoStretches.g (pa_cons (pv 0) pa_nil)))) pss_nil)
      (pss_one (ps_for (passes_of rfl) rfl (pi_list (pv 0)) (pg_name (i := 2) sc_check_stretches.nd rfl (Or.inl rfl)) (pss_one (ps_if (pt_not (pt_val (pe_call Gis_stretch_linesG (hr.mono (by decide)) (by rfl) Nis_stretch_lines.g Nis_stretch_lines.kp Nis_stretch_lines.b .nil pass0 (pa_cons (pv 2) pa_nil)))) (pss_one (ps_raise rfl (takes_of rfl rfl rfl rfl) (pmk_oex ENoStretches.o ENoStretches.i ENoStretches.t (ok_NoStretches ES ENoStretches) (hr.mono (by decide)) ENoStretches.b .nil pass0 (by rfl) ENoStretches.g (pa_cons (pv 2) pa_nil)))) pss_nil)))), ?_⟩
      refine ⟨_, rfl, _, rfl, _, rfl, _, n, n, rfl, dp.1, fun H1 s1 => ?_⟩
      rw [hi]
      exact ⟨_, rfl, iteT ⟨_, rfl, made_one fun e he => k H1 e s1 he⟩⟩
    | true =>
      have e : stretchesD H n v = stD H ((seqOf H v).getD []) := by
        unfold stretchesD
        rw [hi, if_pos rfl]
      obtain ⟨a, xs, rfl, hq, ha, l2, l6⟩ := isl_true hi
      rw [e, hq] at k
      replace k : Wish cl (Same H) (stD H xs) Q E := k
      rcases ha with ha | ha
      · skip
        refine ⟨_, pss_cons (ps_if (pt_not (pt_val (pe_call Gis_listG (hr.mono (by decide)) (by rfl) Nis_list.g Nis_list.kp Nis_list.b .nil pass0 (pa_cons (pv 0) (pa_cons (pv 1) (pa_cons (pv 1) pa_nil)))))) (pss_one (ps_raise rfl (takes_of rfl rfl rfl rfl) (pmk_oex ENoStretches.o ENoStretches.i ENoStretches.t (ok_NoStretches ES ENoStretches) (hr.mono (by decide)) ENoStretches.b .nil pass0 (by rfl) ENoStretches.g (pa_cons (pv 0) pa_nil)))) pss_nil)
      (pss_one (ps_for (passes_of rfl) rfl (pi_list (pv 0)) (pg_name (i := 2) sc_check_stretches.nd rfl (Or.inl rfl)) (pss_one (ps_if (pt_not (pt_val (pe_call Gis_stretch_linesG (hr.mono (by decide)) (by rfl) Nis_stretch_lines.g Nis_stretch_lines.kp Nis_stretch_lines.b .nil pass0 (pa_cons (pv 2) pa_nil)))) (pss_one (ps_raise rfl (takes_of rfl rfl rfl rfl) (pmk_oex ENoStretches.o ENoStretches.i ENoStretches.t (ok_NoStretches ES ENoStretches) (hr.mono (by decide)) ENoStretches.b .nil pass0 (by rfl) ENoStretches.g (pa_cons (pv 2) pa_nil)))) pss_nil)))), ?_⟩
        refine ⟨_, rfl, _, rfl, _, rfl, _, n, n, rfl, dp.1, fun H1 s1 => ?_⟩
        rw [hi]
        refine ⟨_, rfl, iteF ?_⟩
        refine ⟨_, rfl, a, rfl, ⟨_, Nt.seq (K := K) (same_nt s1) (a := a) (xs := xs) (SqL.of ha)⟩, for_list (K := K) (a := a) (xs := xs) (fun i σ H' => ∃ v : Option V, σ = [some (.ref a), some (.int n), v] ∧ stD H (xs.drop i) = stD H xs ∧ Same H H')
          ⟨_, rfl, rfl, s1⟩ (fun i σ H' _ ⟨_, _, _, q⟩ => Nt.seq (same_nt q) (SqL.of ha)) ?_ ?_⟩
        · rintro i x σ H2 hx ⟨v, rfl, ep, k2⟩
          obtain ⟨thx, kx⟩ := dp.2 xs hq x (List.mem_of_getElem? hx)
          rw [drop_at hx] at ep
          have n2 := same_nt k2
          refine ⟨_, rfl, x, rfl, th_nt n2 thx, kx.nt n2 thx, fun H3 k3 => ?_⟩
          rw [st1_nt n2 thx]
          cases hp : st1 H x with
          | false =>
            rw [st_stop hp] at ep
            rw [← ep] at k
            exact ⟨_, rfl, iteT ⟨_, rfl, made_one fun e he => k H3 e (k2.trans k3) he⟩⟩
          | true =>
            rw [st_go hp] at ep
            exact ⟨_, rfl, iteF ⟨_, rfl, ep, k2.trans k3⟩⟩
        · rintro σ H2 ⟨v, rfl, ep, k2⟩
          rw [List.drop_length] at ep
          rw [← ep] at k
          exact k H2 k2
      · skip
        refine ⟨_, pss_cons (ps_if (pt_not (pt_val (pe_call Gis_listG (hr.mono (by decide)) (by rfl) Nis_list.g Nis_list.kp Nis_list.b .nil pass0 (pa_cons (pv 0) (pa_cons (pv 1) (pa_cons (pv 1) pa_nil)))))) (pss_one (ps_raise rfl (takes_of rfl rfl rfl rfl) (pmk_oex ENoStretches.o ENoStretches.i ENoStretches.t (ok_NoStretches ES ENoStretches) (hr.mono (by decide)) ENoStretches.b .nil pass0 (by rfl) ENoStretches.g (pa_cons (pv 0) pa_nil)))) pss_nil)
      (pss_one (ps_for (passes_of rfl) rfl (pi_tup (pv 0)) (pg_name (i := 2) sc_check_stretches.nd rfl (Or.inl rfl)) (pss_one (ps_if (pt_not (pt_val (pe_call Gis_stretch_linesG (hr.mono (by decide)) (by rfl) Nis_stretch_lines.g Nis_stretch_lines.kp Nis_stretch_lines.b .nil pass0 (pa_cons (pv 2) pa_nil)))) (pss_one (ps_raise rfl (takes_of rfl rfl rfl rfl) (pmk_oex ENoStretches.o ENoStretches.i ENoStretches.t (ok_NoStretches ES ENoStretches) (hr.mono (by decide)) ENoStretches.b .nil pass0 (by rfl) ENoStretches.g (pa_cons (pv 2) pa_nil)))) pss_nil)))), ?_⟩
        refine ⟨_, rfl, _, rfl, _, rfl, _, n, n, rfl, dp.1, fun H1 s1 => ?_⟩
        rw [hi]
        refine ⟨_, rfl, iteF ?_⟩
        refine ⟨_, rfl, a, rfl, ⟨_, Nt.seqT (K := K) (same_nt s1) (a := a) (xs := xs) (SqT.of ha)⟩, for_tup (K := K) (a := a) (xs := xs) (fun i σ H' => ∃ v : Option V, σ = [some (.ref a), some (.int n), v] ∧ stD H (xs.drop i) = stD H xs ∧ Same H H')
          ⟨_, rfl, rfl, s1⟩ (fun i σ H' _ ⟨_, _, _, q⟩ => Nt.seqT (same_nt q) (SqT.of ha)) ?_ ?_⟩
        · rintro i x σ H2 hx ⟨v, rfl, ep, k2⟩
          obtain ⟨thx, kx⟩ := dp.2 xs hq x (List.mem_of_getElem? hx)
          rw [drop_at hx] at ep
          have n2 := same_nt k2
          refine ⟨_, rfl, x, rfl, th_nt n2 thx, kx.nt n2 thx, fun H3 k3 => ?_⟩
          rw [st1_nt n2 thx]
          cases hp : st1 H x with
          | false =>
            rw [st_stop hp] at ep
            rw [← ep] at k
            exact ⟨_, rfl, iteT ⟨_, rfl, made_one fun e he => k H3 e (k2.trans k3) he⟩⟩
          | true =>
            rw [st_go hp] at ep
            exact ⟨_, rfl, iteF ⟨_, rfl, ep, k2.trans k3⟩⟩
        · rintro σ H2 ⟨v, rfl, ep, k2⟩
          rw [List.drop_length] at ep
          rw [← ep] at k
          exact k H2 k2
def spLongsX (cl : Tag → Addr) : Sp := fun vs H Q E => ∃ (v : V) (tp : Int), vs = [v, .int tp] ∧ Deep H v ∧ Wish cl (Same H) (longsD H tp v) Q E
theorem ok_longsX {f : Addr} {fd : FuncData} (F : Fun K "_check_longs" "_check_longs" s_check_longs f fd) (T : Txt mg) (ES : SeT K mg CS fS fdS sSE)
    (ENoLongs : ExC K mg "NoLongs" "NoLongs.__init__" sNoLongs (cl .longs) g1 gd1)
    (Nis_list : Fn K mg "is_list" s_is_list ["thing", "low", "high"] f1 fd1) (Gis_listG : FnOk P w K mg base CX0 1 f1 fd1 ["thing", "low", "high"] spIsListG)
    (Nis_long_lines : FnA K mg "is_long_lines" "_is_long" s_is_long_lines ["thing", "low", "top"] f2 fd2) (Gis_long_linesG : FnOk P w K mg base CX0 2 f2 fd2 ["thing", "low", "top"] spIsLongG) :
    FnOk P w K mg base (CX P w) 4 f fd ["longs", "top"] (spLongsX cl) := by
  refine F.okX sc_check_longs (fun vs H Q E h => ?_) (fun cdv A outer s H vs Q E hr h => ?_)
  · obtain ⟨v, n, rfl, _⟩ := h
    rfl
  · obtain ⟨v, tp, rfl, dp, k⟩ := h
    cases hi : isl H 0 2 v with
    | false =>
      have e : longsD H tp v = some (.longs, v) := by
        unfold longsD
        rw [hi, if_neg Bool.false_ne_true]
      rw [e] at k
      refine ⟨_, pss_cons (ps_if (pt_not (pt_val (pe_call Gis_listG (hr.mono (by decide)) (by rfl) Nis_list.g Nis_list.kp Nis_list.b .nil pass0 (pa_cons (pv 0) (pa_cons pe_int (pa_cons pe_int pa_nil)))))) (pss_one (ps_raise rfl (takes_of rfl rfl rfl rfl) (pmk_oex ENoLongs.o ENoLongs.i ENoLongs.t (ok_NoLongs ES ENoLongs) (hr.mono (by decide)) ENoLongs.b .nil pass0 (by rfl) ENoLongs.g (pa_cons (pv 0) pa_nil)))) pss_nil)
      (pss_cons (ps_set (i := 2) sc_check_longs.nd rfl (Or.inl rfl) pe_int)
      (pss_one (ps_for (passes_of rfl) rfl (pi_list (pv 0)) (pg_name (i := 3) sc_check_longs.nd rfl (Or.inl rfl)) (pss_cons (ps_if (pt_not (pt_val (pe_call Gis_long_linesG (hr.mono (by decide)) (by rfl) Nis_long_lines.g Nis_long_lines.kp Nis_long_lines.b .nil pass0 (pa_cons (pv 3) (pa_cons (pv 2) (pa_cons (pv 1) pa_nil)))))) (pss_one (ps_raise rfl (takes_of rfl rfl rfl rfl) (pmk_oex ENoLongs.o ENoLongs.i ENoLongs.t (ok_NoLongs ES ENoLongs) (hr.mono (by decide)) ENoLongs.b .nil pass0 (by rfl) ENoLongs.g (pa_cons (pv 3) pa_nil)))) pss_nil)
          (pss_one (ps_set (i := 2) sc_check_longs.nd rfl (Or.inl rfl) (pe_ix ix_tup (pv 3) pe_int (fun _ _ => rfl)))))))), ?_⟩
      refine ⟨_, rfl, _, 0, 2, rfl, dp.1, fun H1 s1 => ?_⟩
      rw [hi]
      exact ⟨_, rfl, iteT ⟨_, rfl, made_one fun e he => k H1 e s1 he⟩⟩
    | true =>
      have e : longsD H tp v = loD H tp 0 ((seqOf H v).getD []) := by
        unfold longsD
        rw [hi, if_pos rfl]
      obtain ⟨a, xs, rfl, hq, ha, l2, l6⟩ := isl_true hi
      rw [e, hq] at k
      replace k : Wish cl (Same H) (loD H tp 0 xs) Q E := k
      rcases ha with ha | ha
      · skip
        refine ⟨_, pss_cons (ps_if (pt_not (pt_val (pe_call Gis_listG (hr.mono (by decide)) (by rfl) Nis_list.g Nis_list.kp Nis_list.b .nil pass0 (pa_cons (pv 0) (pa_cons pe_int (pa_cons pe_int pa_nil)))))) (pss_one (ps_raise rfl (takes_of rfl rfl rfl rfl) (pmk_oex ENoLongs.o ENoLongs.i ENoLongs.t (ok_NoLongs ES ENoLongs) (hr.mono (by decide)) ENoLongs.b .nil pass0 (by rfl) ENoLongs.g (pa_cons (pv 0) pa_nil)))) pss_nil)
      (pss_cons (ps_set (i := 2) sc_check_longs.nd rfl (Or.inl rfl) pe_int)
      (pss_one (ps_for (passes_of rfl) rfl (pi_list (pv 0)) (pg_name (i := 3) sc_check_longs.nd rfl (Or.inl rfl)) (pss_cons (ps_if (pt_not (pt_val (pe_call Gis_long_linesG (hr.mono (by decide)) (by rfl) Nis_long_lines.g Nis_long_lines.kp Nis_long_lines.b .nil pass0 (pa_cons (pv 3) (pa_cons (pv 2) (pa_cons (pv 1) pa_nil)))))) (pss_one (ps_raise rfl (takes_of rfl rfl rfl rfl) (pmk_oex ENoLongs.o ENoLongs.i ENoLongs.t (ok_NoLongs ES ENoLongs) (hr.mono (by decide)) ENoLongs.b .nil pass0 (by rfl) ENoLongs.g (pa_cons (pv 3) pa_nil)))) pss_nil)
          (pss_one (ps_set (i := 2) sc_check_longs.nd rfl (Or.inl rfl) (pe_ix ix_tup (pv 3) pe_int (fun _ _ => rfl)))))))), ?_⟩
        refine ⟨_, rfl, _, 0, 2, rfl, dp.1, fun H1 s1 => ?_⟩
        rw [hi]
        refine ⟨_, rfl, iteF ?_⟩
        refine ⟨_, rfl, a, rfl, ⟨_, Nt.seq (K := K) (same_nt s1) (a := a) (xs := xs) (SqL.of ha)⟩, for_list (K := K) (a := a) (xs := xs) (fun i σ H' => ∃ (v : Option V) (low : Int), σ = [some (.ref a), some (.int tp), some (.int low), v] ∧ loD H tp low (xs.drop i) = loD H tp 0 xs ∧ Same H H')
          ⟨_, _, rfl, rfl, s1⟩ (fun i σ H' _ ⟨_, _, _, _, q⟩ => Nt.seq (same_nt q) (SqL.of ha)) ?_ ?_⟩
        · rintro i x σ H2 hx ⟨v, low, rfl, ep, k2⟩
          obtain ⟨thx, kx⟩ := dp.2 xs hq x (List.mem_of_getElem? hx)
          rw [drop_at hx] at ep
          have n2 := same_nt k2
          refine ⟨_, rfl, _, rfl, _, rfl, x, low, tp, rfl, th_nt n2 thx, kx.nt n2 thx, ?_⟩
          rw [lo1_nt n2 thx]
          cases hp : lo1 H low tp x with
          | false =>
            rw [lo_stop hp] at ep
            rw [← ep] at k
            exact ⟨_, rfl, iteT ⟨_, rfl, made_one fun e he => k H2 e k2 he⟩⟩
          | true =>
            rw [lo_go hp] at ep
            obtain ⟨t, fi, la, q, rfl, ht, en⟩ := lo1_true hp
            rw [en] at ep
            exact ⟨_, rfl, iteF ⟨_, rfl, t, _, 1, .int la, rfl, rfl, SqT.of (k2 _ _ ht), rfl, _, la, rfl, ep, k2⟩⟩
        · rintro σ H2 ⟨v, low, rfl, ep, k2⟩
          rw [List.drop_length] at ep
          rw [← ep] at k
          exact k H2 k2
      · skip
        refine ⟨_, pss_cons (ps_if (pt_not (pt_val (pe_call Gis_listG (hr.mono (by decide)) (by rfl) Nis_list.g Nis_list.kp Nis_list.b .nil pass0 (pa_cons (pv 0) (pa_cons pe_int (pa_cons pe_int pa_nil)))))) (pss_one (ps_raise rfl (takes_of rfl rfl rfl rfl) (pmk_oex ENoLongs.o ENoLongs.i ENoLongs.t (ok_NoLongs ES ENoLongs) (hr.mono (by decide)) ENoLongs.b .nil pass0 (by rfl) ENoLongs.g (pa_cons (pv 0) pa_nil)))) pss_nil)
      (pss_cons (ps_set (i := 2) sc_check_longs.nd rfl (Or.inl rfl) pe_int)
      (pss_one (ps_for (passes_of rfl) rfl (pi_tup (pv 0)) (pg_name (i := 3) sc_check_longs.nd rfl (Or.inl rfl)) (pss_cons (ps_if (pt_not (pt_val (pe_call Gis_long_linesG (hr.mono (by decide)) (by rfl) Nis_long_lines.g Nis_long_lines.kp Nis_long_lines.b .nil pass0 (pa_cons (pv 3) (pa_cons (pv 2) (pa_cons (pv 1) pa_nil)))))) (pss_one (ps_raise rfl (takes_of rfl rfl rfl rfl) (pmk_oex ENoLongs.o ENoLongs.i ENoLongs.t (ok_NoLongs ES ENoLongs) (hr.mono (by decide)) ENoLongs.b .nil pass0 (by rfl) ENoLongs.g (pa_cons (pv 3) pa_nil)))) pss_nil)
          (pss_one (ps_set (i := 2) sc_check_longs.nd rfl (Or.inl rfl) (pe_ix ix_tup (pv 3) pe_int (fun _ _ => rfl)))))))), ?_⟩
        refine ⟨_, rfl, _, 0, 2, rfl, dp.1, fun H1 s1 => ?_⟩
        rw [hi]
        refine ⟨_, rfl, iteF ?_⟩
        refine ⟨_, rfl, a, rfl, ⟨_, Nt.seqT (K := K) (same_nt s1) (a := a) (xs := xs) (SqT.of ha)⟩, for_tup (K := K) (a := a) (xs := xs) (fun i σ H' => ∃ (v : Option V) (low : Int), σ = [some (.ref a), some (.int tp), some (.int low), v] ∧ loD H tp low (xs.drop i) = loD H tp 0 xs ∧ Same H H')
          ⟨_, _, rfl, rfl, s1⟩ (fun i σ H' _ ⟨_, _, _, _, q⟩ => Nt.seqT (same_nt q) (SqT.of ha)) ?_ ?_⟩
        · rintro i x σ H2 hx ⟨v, low, rfl, ep, k2⟩
          obtain ⟨thx, kx⟩ := dp.2 xs hq x (List.mem_of_getElem? hx)
          rw [drop_at hx] at ep
          have n2 := same_nt k2
          refine ⟨_, rfl, _, rfl, _, rfl, x, low, tp, rfl, th_nt n2 thx, kx.nt n2 thx, ?_⟩
          rw [lo1_nt n2 thx]
          cases hp : lo1 H low tp x with
          | false =>
            rw [lo_stop hp] at ep
            rw [← ep] at k
            exact ⟨_, rfl, iteT ⟨_, rfl, made_one fun e he => k H2 e k2 he⟩⟩
          | true =>
            rw [lo_go hp] at ep
            obtain ⟨t, fi, la, q, rfl, ht, en⟩ := lo1_true hp
            rw [en] at ep
            exact ⟨_, rfl, iteF ⟨_, rfl, t, _, 1, .int la, rfl, rfl, SqT.of (k2 _ _ ht), rfl, _, la, rfl, ep, k2⟩⟩
        · rintro σ H2 ⟨v, low, rfl, ep, k2⟩
          rw [List.drop_length] at ep
          rw [← ep] at k
          exact k H2 k2
end
end K8

set_option maxRecDepth 100000
set_option maxHeartbeats 4000000
namespace K8
open PySem PySem.Spec PyProof.Rows L2 GxR Gd TL My
theorem pl_all {H : Hp} : ∀ {xs : List V} {as : List Str}, plD H as xs = none → ∀ x ∈ xs, ∃ t z q, x = .ref t ∧ H t = some (.tup [.str z, q])
  | [], _, _, _, hx => by cases hx
  | v :: r, as, h, x, hx => by
    cases hp : pl1 H as v with
    | some d =>
      rw [pl1_stop hp] at h
      cases h
    | none =>
      rw [pl1_snoc hp] at h
      rcases List.mem_cons.mp hx with rfl | hx
      · obtain ⟨t, z, q, e, ht, _⟩ := pl1_none hp
        exact ⟨t, z, q, e, ht⟩
      · exact pl_all h x hx
def manyOf (H : Hp) (v : V) : Int := (((seqOf H v).getD []).length : Int)
def dueD (H : Hp) (v1 v2 v3 : V) : Due := match placesD H v1 with
  | some d => some d
  | none => match stretchesD H (manyOf H v1 - 1) v2 with
    | some d => some d
    | none => if v3 = .non then none else longsD H (manyOf H v1 - 1) v3
def rowsOf (H : Hp) (v : V) : Option (List V) := if v = .non then some [] else seqOf H v
theorem seqX {K : PySem.W.Frag} {H : Hp} {a : Addr} {xs : List V} (h : seqOf H (.ref a) = some xs) : SqX K H a xs := by
  obtain ⟨b, e, h⟩ := seq_some h
  obtain rfl := V.ref.inj e
  rcases h with h | h
  · exact .inl (SqL.of h)
  · exact .inr (SqT.of h)
theorem stD_nt {H H' : Hp} (e : Nt H H') : ∀ {xs : List V}, (∀ x ∈ xs, Th H x) → stD H' xs = stD H xs
  | [], _ => rfl
  | v :: r, h => by
    show (if st1 H' v = true then stD H' r else some (.stretches, v)) = (if st1 H v = true then stD H r else some (.stretches, v))
    rw [st1_nt e (h v (by simp)), stD_nt e (fun x hx => h x (by simp [hx]))]
theorem loD_nt {H H' : Hp} (e : Nt H H') (top : Int) : ∀ {xs : List V} {low : Int}, (∀ x ∈ xs, Th H x) → loD H' top low xs = loD H top low xs
  | [], _, _ => rfl
  | v :: r, low, h => by
    show (if lo1 H' low top v = true then loD H' top (lastLo H' v) r else some (.longs, v)) = (if lo1 H low top v = true then loD H top (lastLo H v) r else some (.longs, v))
    have el : lastLo H' v = lastLo H v := by
      unfold lastLo
      rw [tup_nt e (h v (by simp))]
    rw [lo1_nt e (h v (by simp)), el, loD_nt e top (fun x hx => h x (by simp [hx]))]
theorem isl_nt {H H' : Hp} (e : Nt H H') {v : V} (th : Th H v) (lo hi : Int) : isl H' lo hi v = isl H lo hi v := by
  unfold isl
  rw [seq_nt e th]
theorem stretchesD_nt {H H' : Hp} (e : Nt H H') {v : V} (d : Deep H v) (n : Int) : stretchesD H' n v = stretchesD H n v := by
  unfold stretchesD
  rw [isl_nt e d.1, seq_nt e d.1]
  cases hs : seqOf H v with
  | none => rfl
  | some xs =>
    have e1 := stD_nt e (xs := xs) fun x hx => d.kids xs hs x hx
    show (if _ then stD H' xs else _) = (if _ then stD H xs else _)
    rw [e1]
theorem longsD_nt {H H' : Hp} (e : Nt H H') {v : V} (d : Deep H v) (n : Int) : longsD H' n v = longsD H n v := by
  unfold longsD
  rw [isl_nt e d.1, seq_nt e d.1]
  cases hs : seqOf H v with
  | none => rfl
  | some xs =>
    have e1 := loD_nt e n (low := 0) (xs := xs) fun x hx => d.kids xs hs x hx
    show (if _ then loD H' n 0 xs else _) = (if _ then loD H n 0 xs else _)
    rw [e1]
theorem ls_seq {H H' : Hp} (e : Ls H H') {v : V} {xs : List V} (h : seqOf H v = some xs) : seqOf H' v = some xs := by
  obtain ⟨a, rfl, h | h⟩ := seq_some h
  · exact seq_lst (e _ _ (by simp) (by simp) h)
  · exact seq_tup (e _ _ (by simp) (by simp) h)
theorem longs_empty (H : Hp) (top : Int) (a : Addr) (h : H a = some (.tup [])) : longsD H top (.ref a) = none := by
  unfold longsD isl
  rw [seq_tup h]
  rfl
theorem deep_empty {H : Hp} {a : Addr} (h : H a = some (.tup [])) : Deep H (.ref a) := ⟨.tup a [] h, fun xs e x hx => by
  rw [seq_tup h] at e
  obtain rfl := Option.some.inj e
  cases hx⟩
theorem fld_readG {K : PySem.W.Frag} {D : Ends} {σ : L2.St} {H : Hp} {i : Nat} {a x C dx : Addr} {xs : List V} {f : Str} {fs : List (Str × V)} (h0 : σ[0]? = some (some (.ref x))) (hv : σ[i]? = some (some (.ref a))) (hx : H x = some (.ins C dx fs)) (c : Cls K C) (n : NoAttr K C f) (l : fs.length < 1000)
    (h : seqOf H (.ref a) = some xs) (k : ∀ p H', Same H H' → H' p = some (.tup xs) → D.nx σ (upd H' x (.ins C dx (putF f (.ref p) fs)))) :
    sFld K (tVar 0) (tCB (fun xs H Q => ∃ p ys, xs = [V.ref p] ∧ ((SqL K H p ys ∧ ∀ l, H l = none → Q (.ref l) (upd H l (.tup ys))) ∨ (SqT K H p ys ∧ Q (.ref p) H))) (tCons (tVar i) tNil)) f D σ H := by
  obtain ⟨b, e, h⟩ := seq_some h
  obtain rfl := V.ref.inj e
  refine ⟨_, hv, a, xs, rfl, ?_⟩
  rcases h with h | h
  · exact .inl ⟨SqL.of h, fun p hp => ⟨_, h0, x, C, dx, fs, rfl, same_alloc hp _ _ hx, c, n, l, k p _ (same_alloc hp) upd_same⟩⟩
  · exact .inr ⟨SqT.of h, _, h0, x, C, dx, fs, rfl, hx, c, n, l, k a H (Same.refl H) h⟩
/-- the rows that are asked, and a new empty tuple where there are none -/
theorem rows_readG {σ : L2.St} {H : Hp} {v : V} {G : VK} (hv : σ[3]? = some (some v)) (dp : Deep H v)
    (k : ∀ u H', Same H H' → Deep H' u → (v = .non → ∃ a, u = .ref a ∧ H' a = some (.tup [])) → (v ≠ .non → u = v) → G u H') :
    tIf (tTest (tOp (fun x y H Q => y = V.non ∧ Q (V.bl (decide (x = V.non))) H) (tVar 3) (tC V.non))) (tTup tNil) (tVar 3) σ H G := by
  refine ⟨v, hv, rfl, _, rfl, ?_⟩
  by_cases h : v = .non
  · rw [decide_eq_true h]
    refine iteT ⟨Nat.zero_le _, fun p hp => ?_⟩
    exact k _ _ (same_alloc hp) (deep_empty upd_same) (fun _ => ⟨p, rfl, upd_same⟩) (fun n => absurd h n)
  · rw [decide_eq_false h]
    exact iteF ⟨_, hv, k v H (Same.refl H) dp (fun e => absurd e h) fun _ => rfl⟩
section
variable {P : Program} {w : World} {K : PySem.W.Frag} {mg : Str → Option Value} {base : Heap}
theorem FunV.okX {x qual : Str} {st : Stmt} {f : Addr} {fd : FuncData} {N ps : List Str} {k : Nat} {sp : Sp} (F : FunV K x qual st f fd) (S : FnScope N ps (defScope st)) (len : ∀ vs H Q E, sp vs H Q E → vs.length = ps.length)
    (hbody : ∀ (cdv : Value) (A : Around) (outer : List Env) (s : Shared) (H : Hp) (vs : List V) (Q : VK) (E : XK), Room k (A.deeper (envOfC qual (defScope st) s.heap.objs.size f cdv)) → sp vs H Q E →
      ∃ t, PSs (cxOf (CX P w) P w K mg base N qual (defScope st) f cdv A outer s H E) (defBody st) t ∧ t { nx := fun _ H' => Q .non H', rt := Q } (start N vs) H) : FnOk P w K mg base (CX P w) (k + 1) f fd ps sp := by
  obtain ⟨oc, od, dV, kV, doc, pm, an, cdv, ct, osl, rfl, lk, hcd⟩ := F.ex
  exact fn_of lk hcd S len fun A outer s H vs Q E hr hsp => hbody cdv A outer s H vs Q E hr hsp
variable {cl : Tag → Addr} {C CS fS f1 f2 f3 : Addr} {fdS fd1 fd2 fd3 : FuncData}
def LnAt (K : PySem.W.Frag) (C : Addr) (H : Hp) (x : Addr) (xs1 xs2 xs3 : List V) : Prop := ∃ dx p1 p2 p3 d, H x = some (.ins C dx (lf p1 p2 p3 d)) ∧ H p1 = some (.tup xs1) ∧ H p2 = some (.tup xs2) ∧ H p3 = some (.tup xs3)
def spInitX (K : PySem.W.Frag) (C : Addr) (cl : Tag → Addr) (Pt : Addr) : Sp := fun vs H Q E => ∃ (x dx : Addr) (v1 v2 v3 : V), vs = [.ref x, v1, v2, v3] ∧ H x = some (.ins C dx []) ∧ Deep H v1 ∧ Deep H v2 ∧ Deep H v3 ∧ TabG H Pt ∧
  (∀ t u, dueD H v1 v2 v3 = some (t, u) → ∀ H' e, KI x Pt H H' → H' e = none → E (.ref (cl t)) (some e) (upd H' e (.xd [("found", u)]))) ∧
  (dueD H v1 v2 v3 = none → ∀ H' xs1 xs2 xs3, KI x Pt H H' → seqOf H v1 = some xs1 → seqOf H v2 = some xs2 → rowsOf H v3 = some xs3 → LnAt K C H' x xs1 xs2 xs3 → Q .non H')
theorem ok_initX {f Pt : Addr} {fd : FuncData} (F : FunV K "__init__" "Line.__init__" s_init f fd) (T : Txt mg) (TC : ClsT K C)
    (Ncheck_places : Fn K mg "_check_places" s_check_places ["places"] f1 fd1) (GplacesX : FnOk P w K mg base (CX P w) 5 f1 fd1 ["places"] (spPlacesX cl Pt))
    (Ncheck_stretches : Fn K mg "_check_stretches" s_check_stretches ["stretches", "many"] f2 fd2) (GstretchesX : FnOk P w K mg base (CX P w) 4 f2 fd2 ["stretches", "many"] (spStretchesX cl))
    (Ncheck_longs : Fn K mg "_check_longs" s_check_longs ["longs", "top"] f3 fd3) (GlongsX : FnOk P w K mg base (CX P w) 4 f3 fd3 ["longs", "top"] (spLongsX cl)) :
    FnOk P w K mg base (CX P w) 6 f fd ["self", "places", "stretches", "longs"] (spInitX K C cl Pt) := by
  refine F.okX sc_init (fun vs H Q E h => ?_) (fun cdv A outer s H vs Q E hr h => ?_)
  · obtain ⟨x, dx, v1, v2, v3, rfl, _⟩ := h
    rfl
  · obtain ⟨x, dx, v1, v2, v3, rfl, hx, d1, d2, d3, tb, kE, kQ⟩ := h
    have nxP : x ≠ Pt := ne_tab tb hx (by simp)
    rcases Classical.em (∃ a xs, v1 = .ref a ∧ H a = some (.tup xs)) with ht | hl0
    · skip
      refine ⟨_, pss_cons (ps_expr (pe_call GplacesX (hr.mono (by decide)) (by rfl) Ncheck_places.g Ncheck_places.kp Ncheck_places.b .nil (passes_call (takes_of rfl rfl rfl rfl) (fun _ _ _ _ h => h)) (pa_cons (pv 1) pa_nil)))
      (pss_cons (ps_set (i := 4) sc_init.nd rfl (Or.inl rfl) (pe_op op_sub (pe_callB call_len_seq (by rfl) T.len_ PySem.boot_len (pa_cons (pv 1) pa_nil)) pe_int))
      (pss_cons (ps_expr (pe_call GstretchesX (hr.mono (by decide)) (by rfl) Ncheck_stretches.g Ncheck_stretches.kp Ncheck_stretches.b .nil (passes_call (takes_of rfl rfl rfl rfl) (fun _ _ _ _ h => h)) (pa_cons (pv 2) (pa_cons (pv 4) pa_nil))))
      (pss_cons (ps_set (i := 5) sc_init.nd rfl (Or.inl rfl) (pe_ifExp (pt_cmpR op_isN (pv 3) pe_non (nomark _)) (pe_tup pa_nil) (pv 3)))
      (pss_cons (ps_expr (pe_call GlongsX (hr.mono (by decide)) (by rfl) Ncheck_longs.g Ncheck_longs.kp Ncheck_longs.b .nil (passes_call (takes_of rfl rfl rfl rfl) (fun _ _ _ _ h => h)) (pa_cons (pv 5) (pa_cons (pv 4) pa_nil))))
      (pss_cons (ps_fld (pv 0) (pe_callTy call_tuple_of (by rfl) T.tuple_ (by decide +kernel) (pa_cons (pv 1) pa_nil)) rfl)
      (pss_cons (ps_fld (pv 0) (pe_callTy call_tuple_of (by rfl) T.tuple_ (by decide +kernel) (pa_cons (pv 2) pa_nil)) rfl)
      (pss_cons (ps_fld (pv 0) (pe_callTy call_tuple_of (by rfl) T.tuple_ (by decide +kernel) (pa_cons (pv 5) pa_nil)) rfl)
      (pss_one (ps_fld (pv 0) (pe_dc (own := [("number", 6), ("name", 7), ("_", 8)]) (g := gTup K 2 (gCons (gName 6) (gCons (gTup K 2 (gCons (gName 7) (gCons (gName 8) gNil))) gNil))) (tt := tYes) rfl sc_init.nd (pi_enumT (by rfl) T.enumerate_ (pa_cons (pv 1) pa_nil)) (blkOk_by (own := [("number", 6), ("name", 7), ("_", 8)]) (N := ["self", "places", "stretches", "longs", "top", "rows", "number", "name", "_"]) (sc := defScope s_init) (by decide +kernel)) (fun _ _ _ _ _ => (pg_tup (by rfl) (pgs_cons (pg_name (i := 6) sc_init.nd rfl (Or.inl rfl)) (pgs_cons (pg_tup (by rfl) (pgs_cons (pg_name (i := 7) sc_init.nd rfl (Or.inl rfl)) (pgs_cons (pg_name (i := 8) sc_init.nd rfl (Or.inl rfl)) pgs_nil))) pgs_nil)))) (fun _ _ _ _ _ => pts_nil) (fun _ _ _ _ _ => pv 7) (fun _ _ _ _ _ => pv 6)) rfl))))))))), ?_⟩
      refine ⟨_, rfl, v1, rfl, d1, tb, ?_⟩
      cases hp : placesD H v1 with
      | some d =>
        obtain ⟨t, u⟩ := d
        exact fun H' e h he => kE t u (by unfold dueD; rw [hp]) H' e (KI.of h) he
      | none =>
        have hi : isl H 2 6 v1 = true := by
          cases q : isl H 2 6 v1 with
          | true => rfl
          | false =>
            unfold placesD at hp
            rw [q, if_neg Bool.false_ne_true] at hp
            cases hp
        obtain ⟨a1, xs1, rfl, hq1, ha1, l2, l6⟩ := isl_true hi
        have all := pl_all (as := []) (xs := xs1) (H := H) (by
          have e : placesD H (.ref a1) = plD H [] ((seqOf H (.ref a1)).getD []) := by
            unfold placesD
            rw [hi, if_pos rfl]
          rw [e, hq1] at hp
          exact hp)
        have em : manyOf H (.ref a1) = (xs1.length : Int) := by
          unfold manyOf
          rw [hq1]
          rfl
        have due2 : dueD H (.ref a1) v2 v3 = match stretchesD H ((xs1.length : Int) - 1) v2 with
            | some d => some d
            | none => if v3 = .non then none else longsD H ((xs1.length : Int) - 1) v3 := by
          unfold dueD
          rw [hp, em]
        rw [due2] at kE kQ
        intro H1 k1
        have i1 : KI x Pt H H1 := KI.of k1
        have n1 := KT.nt tb k1
        have e1 := i1.ls hx tb
        have hx1 := n1 x _ (by simp) hx
        refine ⟨_, rfl, a1, xs1, rfl, e1.seqX (seqX hq1), _, _, rfl, rfl, ?_⟩
        refine ⟨_, rfl, _, rfl, v2, (xs1.length : Int) - 1, rfl, d2.nt n1, ?_⟩
        rw [stretchesD_nt n1 d2]
        cases hs : stretchesD H ((xs1.length : Int) - 1) v2 with
        | some d =>
          obtain ⟨t, u⟩ := d
          rw [hs] at kE
          exact fun H' e h he => kE t u rfl H' e (i1.trans (KI.same i1.tab h)) he
        | none =>
          rw [hs] at kE kQ
          replace kE : ∀ t u, (if v3 = V.non then none else longsD H ((xs1.length : Int) - 1) v3) = some (t, u) → _ := kE
          replace kQ : (if v3 = V.non then none else longsD H ((xs1.length : Int) - 1) v3) = none → _ := kQ
          have hi2 : isl H ((xs1.length : Int) - 1) ((xs1.length : Int) - 1) v2 = true := by
            cases q : isl H ((xs1.length : Int) - 1) ((xs1.length : Int) - 1) v2 with
            | true => rfl
            | false =>
              unfold stretchesD at hs
              rw [q, if_neg Bool.false_ne_true] at hs
              cases hs
          obtain ⟨a2, xs2, rfl, hq2, _, _, _⟩ := isl_true hi2
          intro H2 s2
          have i2 := i1.trans (KI.same (x := x) i1.tab s2)
          have n2 := n1.trans (same_nt s2)
          refine rows_readG (σ := _) rfl (d3.nt n2) (fun u H3 s3 du u1 u2 => ?_)
          have n3 := n2.trans (same_nt s3)
          have i3 := i2.trans (KI.same (x := x) i2.tab s3)
          have key : longsD H3 ((xs1.length : Int) - 1) u = if v3 = V.non then none else longsD H ((xs1.length : Int) - 1) v3 := by
            by_cases hn : v3 = .non
            · obtain ⟨a, rfl, ha⟩ := u1 hn
              rw [longs_empty _ _ _ ha, if_pos hn]
            · obtain rfl := u2 hn
              rw [longsD_nt n3 d3, if_neg hn]
          refine ⟨_, rfl, _, rfl, u, (xs1.length : Int) - 1, rfl, du, ?_⟩
          rw [← key] at kE kQ
          cases hl : longsD H3 ((xs1.length : Int) - 1) u with
          | some d =>
            obtain ⟨t, z⟩ := d
            rw [hl] at kE
            exact fun H' e h he => kE t z rfl H' e (i3.trans (KI.same i3.tab h)) he
          | none =>
            have hi3 : isl H3 0 2 u = true := by
              cases q : isl H3 0 2 u with
              | true => rfl
              | false =>
                unfold longsD at hl
                rw [q, if_neg Bool.false_ne_true] at hl
                cases hl
            obtain ⟨a3, xs3, rfl, hq3, _, _, _⟩ := isl_true hi3
            have hr3 : rowsOf H v3 = some xs3 := by
              unfold rowsOf
              by_cases hn : v3 = .non
              · obtain ⟨a, ea, ha⟩ := u1 hn
                obtain rfl := V.ref.inj ea
                rw [seq_tup ha] at hq3
                rw [if_pos hn, Option.some.inj hq3]
              · rw [if_neg hn, ← seq_nt n3 d3.1, ← u2 hn]
                exact hq3
            have kF := fun H' h4 h5 => kQ hl H' xs1 xs2 xs3 h4 hq1 hq2 hr3 h5
            clear kE kQ hl hi3 hs hi2 hi hp key due2 u1 u2 em
            intro H4 s4
            have i4 := i3.trans (KI.same (x := x) i3.tab s4)
            have e4 := i4.ls hx tb
            have hx4 := s4 _ _ (s3 _ _ (s2 _ _ hx1))
            refine fld_readG (i := 1) rfl rfl hx4 TC.cl TC.n1 (by decide) (ls_seq e4 hq1) (fun p1 H5 s5 hp1 => ?_)
            have j5 := i4.trans (KI.same (x := x) i4.tab s5)
            have i6 := j5.trans (KI.put (o := .ins C dx (putF "_places" (.ref p1) [])) j5.tab nxP)
            have hx6 : (upd H5 x (.ins C dx (putF "_places" (.ref p1) []))) x = some (.ins C dx (putF "_places" (.ref p1) [])) := upd_same
            have u6 : Ls H5 (upd H5 x (.ins C dx (putF "_places" (.ref p1) []))) := (KI.put j5.tab nxP).ls (s5 _ _ hx4) j5.tab
            generalize upd H5 x (.ins C dx (putF "_places" (.ref p1) [])) = H6 at i6 hx6 u6 ⊢
            have e6 := i6.ls hx tb
            refine fld_readG (i := 2) rfl rfl hx6 TC.cl TC.n2 (Nat.lt_of_le_of_lt (length_putF _ _ _) (by decide)) (ls_seq e6 hq2) (fun p2 H7 s7 hp2 => ?_)
            have j7 := i6.trans (KI.same (x := x) i6.tab s7)
            have i8 := j7.trans (KI.put (o := .ins C dx (putF "_stretches" (.ref p2) (putF "_places" (.ref p1) []))) j7.tab nxP)
            have hx8 : (upd H7 x (.ins C dx (putF "_stretches" (.ref p2) (putF "_places" (.ref p1) [])))) x = some (.ins C dx (putF "_stretches" (.ref p2) (putF "_places" (.ref p1) []))) := upd_same
            have u8 : Ls H7 (upd H7 x (.ins C dx (putF "_stretches" (.ref p2) (putF "_places" (.ref p1) [])))) := (KI.put j7.tab nxP).ls (s7 _ _ hx6) j7.tab
            generalize upd H7 x (.ins C dx (putF "_stretches" (.ref p2) (putF "_places" (.ref p1) []))) = H8 at i8 hx8 u8 ⊢
            have lf8 : (putF "_stretches" (.ref p2) (putF "_places" (.ref p1) [])).length ≤ 2 := Nat.le_trans (length_putF _ _ _) (Nat.succ_le_succ (length_putF _ _ _))
            have e38 : Ls H3 H8 := (((((same_ls s4).trans (same_ls s5)).trans u6).trans (same_ls s7)).trans u8)
            refine fld_readG (i := 5) rfl rfl hx8 TC.cl TC.n3 (Nat.lt_of_le_of_lt lf8 (by decide)) (ls_seq e38 hq3) (fun p3 H9 s9 hp3 => ?_)
            have j9 := i8.trans (KI.same (x := x) i8.tab s9)
            have iA := j9.trans (KI.put (o := .ins C dx (putF "_longs" (.ref p3) (putF "_stretches" (.ref p2) (putF "_places" (.ref p1) [])))) j9.tab nxP)
            have hxA : (upd H9 x (.ins C dx (putF "_longs" (.ref p3) (putF "_stretches" (.ref p2) (putF "_places" (.ref p1) []))))) x = some (.ins C dx (putF "_longs" (.ref p3) (putF "_stretches" (.ref p2) (putF "_places" (.ref p1) [])))) := upd_same
            have uA : Ls H9 (upd H9 x (.ins C dx (putF "_longs" (.ref p3) (putF "_stretches" (.ref p2) (putF "_places" (.ref p1) []))))) := (KI.put j9.tab nxP).ls (s9 _ _ hx8) j9.tab
            generalize upd H9 x (.ins C dx (putF "_longs" (.ref p3) (putF "_stretches" (.ref p2) (putF "_places" (.ref p1) [])))) = HA at iA hxA uA ⊢
            have eA := iA.ls hx tb
            have hp1A : HA p1 = some (.tup xs1) := ((((u6.trans (same_ls s7)).trans u8).trans (same_ls s9)).trans uA) _ _ (by simp) (by simp) hp1
            have hp2A : HA p2 = some (.tup xs2) := ((u8.trans (same_ls s9)).trans uA) _ _ (by simp) (by simp) hp2
            have hp3A : HA p3 = some (.tup xs3) := uA _ _ (by simp) (by simp) hp3
            have ha1 : H a1 = some (.tup xs1) := by
              obtain ⟨a, ys, e, h⟩ := ht
              obtain rfl := V.ref.inj e
              rw [seq_tup h] at hq1
              rw [h, Option.some.inj hq1]
            have hsA : SqT K HA a1 xs1 := SqT.of (eA _ _ (by simp) (by simp) ha1)
            refine ⟨_, rfl, a1, xs1, rfl, hsA, fun D hD => dc_it (walk_enumT (K := K) (xs := xs1)) (fun i H' => KB D HA H' ∧ ∃ kvs : List (Key × V), H' D = some (.dK kvs) ∧ kvs.length ≤ i) ?_ ?_ ?_ ?_⟩
            · exact ⟨KB.alloc hD, [], upd_same, Nat.zero_le _⟩
            · rintro i H' hi ⟨kb, _⟩
              exact (KB.seq' hD kb).seqT hsA
            · rintro i v H' H'' hi ⟨kb, kvs, hk1, hk2⟩ ⟨T1, X, Y, rfl, hT1, rfl, q1, q2⟩
              obtain rfl := Option.some.inj q1
              obtain ⟨t, z, q, rfl, ht⟩ := all Y (List.mem_of_getElem? q2)
              have nD : D ≠ T1 := fun e => by rw [← e, hk1] at hT1; cases hT1
              have ht1 : SqT K (upd H' T1 (.tup [.int (i : Nat), .ref t])) t [.str z, q] := SqT.of ((same_ls (same_alloc hT1)) _ _ (by simp) (by simp) ((KB.seq' hD kb) _ _ (by simp) (by simp) (eA _ _ (by simp) (by simp) ht)))
              refine ⟨T1, _, rfl, SqT.of upd_same, rfl, _, _, rfl, _, _, rfl, t, _, rfl, ht1, rfl, _, _, rfl, _, _, rfl, rfl, rfl, rfl, ?_⟩
              refine lcY ⟨_, rfl, _, rfl, kvs, Sum.inr z, rfl, by rw [upd_ne nD]; exact hk1, (by show kvs.length < sizeLine; exact Nat.lt_of_le_of_lt hk2 (Nat.lt_trans (Nat.lt_of_lt_of_le hi (by omega : xs1.length ≤ 6)) (by decide))), ?_⟩
              exact ⟨fun c o n h => by rw [upd_ne n]; exact (same_alloc hT1) _ _ (kb c o n h), _, upd_same, Nat.le_trans (length_putK _ _ _) (Nat.succ_le_succ hk2)⟩
            · rintro H' ⟨kb, kvs, hk1, hk2⟩
              have nxD : x ≠ D := fun e => by rw [← e, hxA] at hD; cases hD
              have sB : Same HA H' := fun c o h => kb c o (fun e => by rw [e, hD] at h; cases h) h
              have jB := iA.trans (KI.same (x := x) iA.tab sB)
              have iB := jB.trans (KI.put (o := .ins C dx (lf p1 p2 p3 D)) jB.tab nxP)
              have uB : Ls H' (upd H' x (.ins C dx (lf p1 p2 p3 D))) := (KI.put jB.tab nxP).ls (sB _ _ hxA) jB.tab
              have eB := (same_ls sB).trans uB
              exact ⟨_, rfl, x, C, dx, _, rfl, sB _ _ hxA, TC.cl, TC.n4, (Nat.lt_of_le_of_lt (Nat.le_trans (length_putF _ _ _) (Nat.succ_le_succ lf8)) (by decide)), kF _ iB ⟨dx, p1, p2, p3, D, upd_same, eB _ _ (by simp) (by simp) hp1A, eB _ _ (by simp) (by simp) hp2A, eB _ _ (by simp) (by simp) hp3A⟩⟩
    · skip
      refine ⟨_, pss_cons (ps_expr (pe_call GplacesX (hr.mono (by decide)) (by rfl) Ncheck_places.g Ncheck_places.kp Ncheck_places.b .nil (passes_call (takes_of rfl rfl rfl rfl) (fun _ _ _ _ h => h)) (pa_cons (pv 1) pa_nil)))
      (pss_cons (ps_set (i := 4) sc_init.nd rfl (Or.inl rfl) (pe_op op_sub (pe_callB call_len_seq (by rfl) T.len_ PySem.boot_len (pa_cons (pv 1) pa_nil)) pe_int))
      (pss_cons (ps_expr (pe_call GstretchesX (hr.mono (by decide)) (by rfl) Ncheck_stretches.g Ncheck_stretches.kp Ncheck_stretches.b .nil (passes_call (takes_of rfl rfl rfl rfl) (fun _ _ _ _ h => h)) (pa_cons (pv 2) (pa_cons (pv 4) pa_nil))))
      (pss_cons (ps_set (i := 5) sc_init.nd rfl (Or.inl rfl) (pe_ifExp (pt_cmpR op_isN (pv 3) pe_non (nomark _)) (pe_tup pa_nil) (pv 3)))
      (pss_cons (ps_expr (pe_call GlongsX (hr.mono (by decide)) (by rfl) Ncheck_longs.g Ncheck_longs.kp Ncheck_longs.b .nil (passes_call (takes_of rfl rfl rfl rfl) (fun _ _ _ _ h => h)) (pa_cons (pv 5) (pa_cons (pv 4) pa_nil))))
      (pss_cons (ps_fld (pv 0) (pe_callTy call_tuple_of (by rfl) T.tuple_ (by decide +kernel) (pa_cons (pv 1) pa_nil)) rfl)
      (pss_cons (ps_fld (pv 0) (pe_callTy call_tuple_of (by rfl) T.tuple_ (by decide +kernel) (pa_cons (pv 2) pa_nil)) rfl)
      (pss_cons (ps_fld (pv 0) (pe_callTy call_tuple_of (by rfl) T.tuple_ (by decide +kernel) (pa_cons (pv 5) pa_nil)) rfl)
      (pss_one (ps_fld (pv 0) (pe_dc (own := [("number", 6), ("name", 7), ("_", 8)]) (g := gTup K 2 (gCons (gName 6) (gCons (gTup K 2 (gCons (gName 7) (gCons (gName 8) gNil))) gNil))) (tt := tYes) rfl sc_init.nd (pi_enum (by rfl) T.enumerate_ (pa_cons (pv 1) pa_nil)) (blkOk_by (own := [("number", 6), ("name", 7), ("_", 8)]) (N := ["self", "places", "stretches", "longs", "top", "rows", "number", "name", "_"]) (sc := defScope s_init) (by decide +kernel)) (fun _ _ _ _ _ => (pg_tup (by rfl) (pgs_cons (pg_name (i := 6) sc_init.nd rfl (Or.inl rfl)) (pgs_cons (pg_tup (by rfl) (pgs_cons (pg_name (i := 7) sc_init.nd rfl (Or.inl rfl)) (pgs_cons (pg_name (i := 8) sc_init.nd rfl (Or.inl rfl)) pgs_nil))) pgs_nil)))) (fun _ _ _ _ _ => pts_nil) (fun _ _ _ _ _ => pv 7) (fun _ _ _ _ _ => pv 6)) rfl))))))))), ?_⟩
      refine ⟨_, rfl, v1, rfl, d1, tb, ?_⟩
      cases hp : placesD H v1 with
      | some d =>
        obtain ⟨t, u⟩ := d
        exact fun H' e h he => kE t u (by unfold dueD; rw [hp]) H' e (KI.of h) he
      | none =>
        have hi : isl H 2 6 v1 = true := by
          cases q : isl H 2 6 v1 with
          | true => rfl
          | false =>
            unfold placesD at hp
            rw [q, if_neg Bool.false_ne_true] at hp
            cases hp
        obtain ⟨a1, xs1, rfl, hq1, ha1, l2, l6⟩ := isl_true hi
        have all := pl_all (as := []) (xs := xs1) (H := H) (by
          have e : placesD H (.ref a1) = plD H [] ((seqOf H (.ref a1)).getD []) := by
            unfold placesD
            rw [hi, if_pos rfl]
          rw [e, hq1] at hp
          exact hp)
        have em : manyOf H (.ref a1) = (xs1.length : Int) := by
          unfold manyOf
          rw [hq1]
          rfl
        have due2 : dueD H (.ref a1) v2 v3 = match stretchesD H ((xs1.length : Int) - 1) v2 with
            | some d => some d
            | none => if v3 = .non then none else longsD H ((xs1.length : Int) - 1) v3 := by
          unfold dueD
          rw [hp, em]
        rw [due2] at kE kQ
        intro H1 k1
        have i1 : KI x Pt H H1 := KI.of k1
        have n1 := KT.nt tb k1
        have e1 := i1.ls hx tb
        have hx1 := n1 x _ (by simp) hx
        refine ⟨_, rfl, a1, xs1, rfl, e1.seqX (seqX hq1), _, _, rfl, rfl, ?_⟩
        refine ⟨_, rfl, _, rfl, v2, (xs1.length : Int) - 1, rfl, d2.nt n1, ?_⟩
        rw [stretchesD_nt n1 d2]
        cases hs : stretchesD H ((xs1.length : Int) - 1) v2 with
        | some d =>
          obtain ⟨t, u⟩ := d
          rw [hs] at kE
          exact fun H' e h he => kE t u rfl H' e (i1.trans (KI.same i1.tab h)) he
        | none =>
          rw [hs] at kE kQ
          replace kE : ∀ t u, (if v3 = V.non then none else longsD H ((xs1.length : Int) - 1) v3) = some (t, u) → _ := kE
          replace kQ : (if v3 = V.non then none else longsD H ((xs1.length : Int) - 1) v3) = none → _ := kQ
          have hi2 : isl H ((xs1.length : Int) - 1) ((xs1.length : Int) - 1) v2 = true := by
            cases q : isl H ((xs1.length : Int) - 1) ((xs1.length : Int) - 1) v2 with
            | true => rfl
            | false =>
              unfold stretchesD at hs
              rw [q, if_neg Bool.false_ne_true] at hs
              cases hs
          obtain ⟨a2, xs2, rfl, hq2, _, _, _⟩ := isl_true hi2
          intro H2 s2
          have i2 := i1.trans (KI.same (x := x) i1.tab s2)
          have n2 := n1.trans (same_nt s2)
          refine rows_readG (σ := _) rfl (d3.nt n2) (fun u H3 s3 du u1 u2 => ?_)
          have n3 := n2.trans (same_nt s3)
          have i3 := i2.trans (KI.same (x := x) i2.tab s3)
          have key : longsD H3 ((xs1.length : Int) - 1) u = if v3 = V.non then none else longsD H ((xs1.length : Int) - 1) v3 := by
            by_cases hn : v3 = .non
            · obtain ⟨a, rfl, ha⟩ := u1 hn
              rw [longs_empty _ _ _ ha, if_pos hn]
            · obtain rfl := u2 hn
              rw [longsD_nt n3 d3, if_neg hn]
          refine ⟨_, rfl, _, rfl, u, (xs1.length : Int) - 1, rfl, du, ?_⟩
          rw [← key] at kE kQ
          cases hl : longsD H3 ((xs1.length : Int) - 1) u with
          | some d =>
            obtain ⟨t, z⟩ := d
            rw [hl] at kE
            exact fun H' e h he => kE t z rfl H' e (i3.trans (KI.same i3.tab h)) he
          | none =>
            have hi3 : isl H3 0 2 u = true := by
              cases q : isl H3 0 2 u with
              | true => rfl
              | false =>
                unfold longsD at hl
                rw [q, if_neg Bool.false_ne_true] at hl
                cases hl
            obtain ⟨a3, xs3, rfl, hq3, _, _, _⟩ := isl_true hi3
            have hr3 : rowsOf H v3 = some xs3 := by
              unfold rowsOf
              by_cases hn : v3 = .non
              · obtain ⟨a, ea, ha⟩ := u1 hn
                obtain rfl := V.ref.inj ea
                rw [seq_tup ha] at hq3
                rw [if_pos hn, Option.some.inj hq3]
              · rw [if_neg hn, ← seq_nt n3 d3.1, ← u2 hn]
                exact hq3
            have kF := fun H' h4 h5 => kQ hl H' xs1 xs2 xs3 h4 hq1 hq2 hr3 h5
            clear kE kQ hl hi3 hs hi2 hi hp key due2 u1 u2 em
            intro H4 s4
            have i4 := i3.trans (KI.same (x := x) i3.tab s4)
            have e4 := i4.ls hx tb
            have hx4 := s4 _ _ (s3 _ _ (s2 _ _ hx1))
            refine fld_readG (i := 1) rfl rfl hx4 TC.cl TC.n1 (by decide) (ls_seq e4 hq1) (fun p1 H5 s5 hp1 => ?_)
            have j5 := i4.trans (KI.same (x := x) i4.tab s5)
            have i6 := j5.trans (KI.put (o := .ins C dx (putF "_places" (.ref p1) [])) j5.tab nxP)
            have hx6 : (upd H5 x (.ins C dx (putF "_places" (.ref p1) []))) x = some (.ins C dx (putF "_places" (.ref p1) [])) := upd_same
            have u6 : Ls H5 (upd H5 x (.ins C dx (putF "_places" (.ref p1) []))) := (KI.put j5.tab nxP).ls (s5 _ _ hx4) j5.tab
            generalize upd H5 x (.ins C dx (putF "_places" (.ref p1) [])) = H6 at i6 hx6 u6 ⊢
            have e6 := i6.ls hx tb
            refine fld_readG (i := 2) rfl rfl hx6 TC.cl TC.n2 (Nat.lt_of_le_of_lt (length_putF _ _ _) (by decide)) (ls_seq e6 hq2) (fun p2 H7 s7 hp2 => ?_)
            have j7 := i6.trans (KI.same (x := x) i6.tab s7)
            have i8 := j7.trans (KI.put (o := .ins C dx (putF "_stretches" (.ref p2) (putF "_places" (.ref p1) []))) j7.tab nxP)
            have hx8 : (upd H7 x (.ins C dx (putF "_stretches" (.ref p2) (putF "_places" (.ref p1) [])))) x = some (.ins C dx (putF "_stretches" (.ref p2) (putF "_places" (.ref p1) []))) := upd_same
            have u8 : Ls H7 (upd H7 x (.ins C dx (putF "_stretches" (.ref p2) (putF "_places" (.ref p1) [])))) := (KI.put j7.tab nxP).ls (s7 _ _ hx6) j7.tab
            generalize upd H7 x (.ins C dx (putF "_stretches" (.ref p2) (putF "_places" (.ref p1) []))) = H8 at i8 hx8 u8 ⊢
            have lf8 : (putF "_stretches" (.ref p2) (putF "_places" (.ref p1) [])).length ≤ 2 := Nat.le_trans (length_putF _ _ _) (Nat.succ_le_succ (length_putF _ _ _))
            have e38 : Ls H3 H8 := (((((same_ls s4).trans (same_ls s5)).trans u6).trans (same_ls s7)).trans u8)
            refine fld_readG (i := 5) rfl rfl hx8 TC.cl TC.n3 (Nat.lt_of_le_of_lt lf8 (by decide)) (ls_seq e38 hq3) (fun p3 H9 s9 hp3 => ?_)
            have j9 := i8.trans (KI.same (x := x) i8.tab s9)
            have iA := j9.trans (KI.put (o := .ins C dx (putF "_longs" (.ref p3) (putF "_stretches" (.ref p2) (putF "_places" (.ref p1) [])))) j9.tab nxP)
            have hxA : (upd H9 x (.ins C dx (putF "_longs" (.ref p3) (putF "_stretches" (.ref p2) (putF "_places" (.ref p1) []))))) x = some (.ins C dx (putF "_longs" (.ref p3) (putF "_stretches" (.ref p2) (putF "_places" (.ref p1) [])))) := upd_same
            have uA : Ls H9 (upd H9 x (.ins C dx (putF "_longs" (.ref p3) (putF "_stretches" (.ref p2) (putF "_places" (.ref p1) []))))) := (KI.put j9.tab nxP).ls (s9 _ _ hx8) j9.tab
            generalize upd H9 x (.ins C dx (putF "_longs" (.ref p3) (putF "_stretches" (.ref p2) (putF "_places" (.ref p1) [])))) = HA at iA hxA uA ⊢
            have eA := iA.ls hx tb
            have hp1A : HA p1 = some (.tup xs1) := ((((u6.trans (same_ls s7)).trans u8).trans (same_ls s9)).trans uA) _ _ (by simp) (by simp) hp1
            have hp2A : HA p2 = some (.tup xs2) := ((u8.trans (same_ls s9)).trans uA) _ _ (by simp) (by simp) hp2
            have hp3A : HA p3 = some (.tup xs3) := uA _ _ (by simp) (by simp) hp3
            have ha1 : H a1 = some (.lst xs1) := by
              rcases ha1 with h | h
              · exact h
              · exact absurd ⟨a1, xs1, rfl, h⟩ hl0
            have hsA : SqL K HA a1 xs1 := SqL.of (eA _ _ (by simp) (by simp) ha1)
            refine ⟨_, rfl, a1, xs1, rfl, hsA, fun D hD => dc_it (walk_enum (K := K) (xs := xs1)) (fun i H' => KB D HA H' ∧ ∃ kvs : List (Key × V), H' D = some (.dK kvs) ∧ kvs.length ≤ i) ?_ ?_ ?_ ?_⟩
            · exact ⟨KB.alloc hD, [], upd_same, Nat.zero_le _⟩
            · rintro i H' hi ⟨kb, _⟩
              exact (KB.seq' hD kb).seq hsA
            · rintro i v H' H'' hi ⟨kb, kvs, hk1, hk2⟩ ⟨T1, X, Y, rfl, hT1, rfl, q1, q2⟩
              obtain rfl := Option.some.inj q1
              obtain ⟨t, z, q, rfl, ht⟩ := all Y (List.mem_of_getElem? q2)
              have nD : D ≠ T1 := fun e => by rw [← e, hk1] at hT1; cases hT1
              have ht1 : SqT K (upd H' T1 (.tup [.int (i : Nat), .ref t])) t [.str z, q] := SqT.of ((same_ls (same_alloc hT1)) _ _ (by simp) (by simp) ((KB.seq' hD kb) _ _ (by simp) (by simp) (eA _ _ (by simp) (by simp) ht)))
              refine ⟨T1, _, rfl, SqT.of upd_same, rfl, _, _, rfl, _, _, rfl, t, _, rfl, ht1, rfl, _, _, rfl, _, _, rfl, rfl, rfl, rfl, ?_⟩
              refine lcY ⟨_, rfl, _, rfl, kvs, Sum.inr z, rfl, by rw [upd_ne nD]; exact hk1, (by show kvs.length < sizeLine; exact Nat.lt_of_le_of_lt hk2 (Nat.lt_trans (Nat.lt_of_lt_of_le hi (by omega : xs1.length ≤ 6)) (by decide))), ?_⟩
              exact ⟨fun c o n h => by rw [upd_ne n]; exact (same_alloc hT1) _ _ (kb c o n h), _, upd_same, Nat.le_trans (length_putK _ _ _) (Nat.succ_le_succ hk2)⟩
            · rintro H' ⟨kb, kvs, hk1, hk2⟩
              have nxD : x ≠ D := fun e => by rw [← e, hxA] at hD; cases hD
              have sB : Same HA H' := fun c o h => kb c o (fun e => by rw [e, hD] at h; cases h) h
              have jB := iA.trans (KI.same (x := x) iA.tab sB)
              have iB := jB.trans (KI.put (o := .ins C dx (lf p1 p2 p3 D)) jB.tab nxP)
              have uB : Ls H' (upd H' x (.ins C dx (lf p1 p2 p3 D))) := (KI.put jB.tab nxP).ls (sB _ _ hxA) jB.tab
              have eB := (same_ls sB).trans uB
              exact ⟨_, rfl, x, C, dx, _, rfl, sB _ _ hxA, TC.cl, TC.n4, (Nat.lt_of_le_of_lt (Nat.le_trans (length_putF _ _ _) (Nat.succ_le_succ lf8)) (by decide)), kF _ iB ⟨dx, p1, p2, p3, D, upd_same, eB _ _ (by simp) (by simp) hp1A, eB _ _ (by simp) (by simp) hp2A, eB _ _ (by simp) (by simp) hp3A⟩⟩
end
end K8

set_option maxRecDepth 100000
set_option maxHeartbeats 900000
/-! xs[lo:] = ys, another list -/
namespace My
open PySem PySem.Spec PyProof.Rows L2 GxR Gd
theorem tail_bounds {a n : Nat} (ha : a ≤ n) : sliceBounds (some (a : Int)) none none n = ((a : Int), (n : Int), 1) := by
  have h1 : ¬ ((a : Int) < 0) := Int.not_lt.mpr (by omega)
  simp only [sliceBounds, Option.getD_none, h1, if_false, show (1 : Int) > 0 by decide, if_true]
  have h2 : max (0 : Int) (min (a : Int) (n : Int)) = a := by omega
  rw [h2]
section
variable {s : Shared} {E : Value → Shared → Prop} {A : Around} {w : World} {prog : Program}
theorem tail_cut (xs ys : List Value) (a : Nat) : xs.toArray.extract 0 a ++ ys.toArray ++ xs.toArray.extract xs.toArray.size xs.toArray.size = (xs.take a ++ ys).toArray := by
  apply Array.toList_inj.mp
  simp
/-- at the store -/
theorem tail_store {l b sl : Addr} {xs ys : Array Value} {n n2 : Nat} {vl vu : Value} {a : Nat} {Q : Unit → Shared → Prop}
    (e : s.heap.get? l = some { cls := .type "list", data := .seq xs n })
    (e2 : s.heap.get? b = some { cls := .type "list", data := .seq ys n2 })
    (lb : l ≠ b) (hs : s.heap.IsSliceOf sl vl vu .none)
    (pl : IsPart vl (some (a : Int))) (pu : IsPart vu none) (ha : a ≤ xs.size) (hz : xs.size + ys.size ≤ sizeLine)
    (k : Q () { s with heap := s.heap.update l (Obj.mapSeq fun zs => zs.extract 0 a ++ ys ++ zs.extract xs.size zs.size) }) :
      wpAny (model prog w) A (setItem (.ref l) (.ref sl) (.ref b)) Q E s  := by
  have il := PySem.IsL.isList e
  have ib := PySem.IsL.isList e2
  obtain ⟨os, o1, o2, o3⟩ := id hs
  have ts : s.TypeIs (.ref sl) "slice" := ⟨os, o1, o2⟩
  have ne : Builtin.List.listSameRef (.ref l) (.ref b) = false := beq_eq_false_iff_ne.mpr lb
  have big : ((fun zs : Array Value => zs.extract 0 a ++ ys ++ zs.extract xs.size zs.size) xs).size ≤ sizeLine + 1 := by
    simp only [Array.size_append, Array.size_extract]; omega
  unfold setItem; (try with_reducible refine wpAny_holding ?_); first | refine wpAny_bind (wpAny_pure ?_) | skip
  refine wpAny_bind (wpAny_sequenceKey il.typeIs (by decide) (wpAny_bind (wpAny_callSpecial?_slot (name := Str.ofString "__setitem__") il.typeIs slot_list_setitem (wpAny_call_entry slot_list_setitem il.typeIs entry_list_setitem ?_ (args_list_setitem _ _ _)))))
  show wpAny _ _ (Builtin.List.listSubscript? (.ref sl) >>= _) _ _ _
  refine wpAny_bind (m := Builtin.List.listSubscript? (.ref sl)) ?_; unfold Builtin.List.listSubscript?
  refine wpAny_bind (wpAny_specialOf ts slice_no_index ?_)
  rw [if_pos (by rfl)]
  refine wpAny_pure ?_
  show wpAny _ _ (typeOf (.ref sl) >>= _) _ _ _
  refine wpAny_bind (wpAny_typeOf ts ?_)
  have two : ¬ ((Value.type "slice" != Value.type "slice") = true) := by decide
  rw [if_neg two, listSliceParts_eq]
  have none0 : ¬ ((rawPart none == rawInt 0) = true) := Bool.false_ne_true
  refine wpAny_bind (wpAny_bind (wpAny_field o1 o3 (x := .none) rfl (wpAny_bind (wpAny_listPart .none (by
    rw [if_neg none0]
    refine wpAny_bind (wpAny_field o1 o3 (x := vl) rfl (wpAny_bind (wpAny_listPart pl (wpAny_bind (wpAny_field o1 o3 (x := vu) rfl (wpAny_bind (wpAny_listPart pu (wpAny_pure ?_))))))))
    dsimp only
    have ne' : ¬ (Builtin.List.listSameRef (.ref l) (.ref b) = true) := by rw [ne]; exact Bool.false_ne_true
    rw [if_neg ne']
    refine wpAny_bind (m := Builtin.List.listAllItems (.ref b) "must assign iterable to extended slice") ?_; unfold Builtin.List.listAllItems
    refine wpAny_bind (wpAny_typeOf ib.typeIs (PySem.W.KFB.if_so (by decide) ?_))
    unfold Builtin.List.listItems
    have rw1 := (sliceIndices_raw (some (a : Int)) none none xs.size (by simp)).trans (congrArg (pure : Int × Int × Int → Sem (Int × Int × Int)) (tail_bounds ha))
    refine wpAny_bind (wpAny_seqItems e2 rfl (wpAny_pure (wpAny_bind (wpAny_bind (wpAny_seqItems e rfl (wpAny_pure (wpAny_bind (wpAny_of_eq rw1 ?_))))))))
    have one : ((1 : Int) == 1) = true := rfl
    refine PySem.W.KFB.if_so one (wpAny_bind (wpAny_rule (PySem.W.KFB.if_not (notLongL hz) ?_)))
    have m1 : (max (a : Int) (xs.size : Int)).toNat = xs.size := by omega
    have cut : (fun zs : Array Value => zs.extract 0 ((a : Int)).toNat ++ ys ++ zs.extract (max (a : Int) (xs.size : Int)).toNat zs.size) = fun zs => zs.extract 0 a ++ ys ++ zs.extract xs.size zs.size := by
      rw [m1, Int.toNat_natCast]
    show wpAny _ _ (updateSeq l (fun zs : Array Value => zs.extract 0 ((a : Int)).toNat ++ ys ++ zs.extract (max (a : Int) (xs.size : Int)).toNat zs.size) >>= _) _ _ s
    rw [cut]
    refine wpAny_bind (wpAny_updateSeq (hz := Nat.le_trans (Nat.le_add_right _ _) hz) (_hz' := big) e rfl (wpAny_bind (wpAny_letGo ?_)))
    exact wpAny_pure ⟨.none, rfl, wpAny_pure k⟩)))))
/-- at a row of the program -/
def gTail (to : TE) (tl th : TO) : TG := fun v σ H Q => to σ H fun o H1 => tl σ H1 fun lo H2 => th σ H2 fun hi H3 =>
  ∃ p b xs ys a, o = .ref p ∧ v = .ref b ∧ lo = some a ∧ hi = none ∧ 0 ≤ a ∧ a ≤ ((xs.length : Nat) : Int) ∧ p ≠ b ∧ H3 p = some (.lst xs) ∧ H3 b = some (.lst ys) ∧ xs.length + ys.length ≤ sizeLine ∧ Q σ (upd H3 p (.lst (xs.take a.toNat ++ ys)))
theorem pg_tail {X : Cx} {o : Expr} {lo hi : Option Expr} {pos p2 : Pos} {to : TE} {tl th : TO} (ho : PE X o to) (hl : PO X lo tl) (hu : PO X hi th)
    (ha : ∀ v, assign (.Subscript o (.Slice lo hi none p2) pos) X.env v = (do
      let ov ← holding [v] (eval o X.env); let iv ← holding [v, ov] (eval (.Slice lo hi none p2) X.env)
      standAt pos; holding [v, ov, iv] (setItem ov iv v)
      release [iv, v, ov] []) := by intro _; rfl) : PG X (.Subscript o (.Slice lo hi none p2) pos) (gTail to tl th) := by
  refine ⟨fun pins s σ H v u Q I r h => ?_⟩; rw [ha]
  refine wpAny_bind (wpAny_holding (thn (ho.run pins s σ H _ I h) fun ov s1 ⟨x, H1, I1, r1, q1⟩ => wpAny_bind (wpAny_holding ?_)))
  refine wpAny_Slice (thn (hl.run pins s1 σ H1 _ I1 q1) fun vl s2 ⟨l, H2, I2, pl, q2⟩ => thn (hu.run pins s2 σ H2 _ I2 q2) fun vu s3 ⟨m, H3, I3, pu, q3⟩ => ?_)
  rw [evalPart_none]
  refine wpAny_pure (wpAny_bind ?_); obtain ⟨p, b, xs, ys, a, rfl, rfl, rfl, rfl, a0, a1, pb, hp, hb, hz, q⟩ := q3
  cases r1
  cases r
  have I4 := I3.kept (h' := s3.heap.push { cls := .type "slice", data := .fields #[vl, vu, .none] }) (t' := s3.toks) fun _ _ g => Heap.get?_push_of_some _ g
  obtain ⟨k, rfl⟩ := Int.eq_ofNat_of_zero_le a0
  obtain ⟨z1, is1, n1, v1, g1, e1⟩ := I4.lstM hp
  obtain ⟨z2, is2, n2, v2, g2, e2⟩ := I4.lstM hb
  refine wpAny_standAt (wpAny_bind (wpAny_holding ?_))
  have ki : k ≤ is1.length := by omega
  refine tail_store (a := k) e1 e2 pb (Heap.IsSliceOf.new ..) pl pu (by rw [List.size_toArray]; exact ki) (by rw [List.size_toArray, List.size_toArray]; omega) ?_
  have I5 := I4.lset (f := fun zs => zs.extract 0 k ++ is2.toArray ++ zs.extract is1.toArray.size zs.size) (ys := xs.take k ++ ys) (its' := is1.take k ++ is2) (t' := s3.toks) hp e1 (tail_cut is1 is2 k) (Vals.append (v1.take _) v2) (by rw [List.length_append, List.length_take]; omega)
  exact wpAny_release ⟨σ, _, I5, q⟩
end
end My

set_option maxRecDepth 100000
set_option maxHeartbeats 400000
namespace K8
open PySem PySem.Spec PyProof.Rows L2 GxR Gd TL My
theorem eqDK {X : Cx} {K : PySem.W.Frag} (h : X.K = K) (hu : X.A.units + 64 < cLine) : OpR X (compareOp .Eq) (rEqD K) := h ▸ op_eqD hu
theorem low_mem (c : Nat) : decide (c ∈ (Str.ofString "abcdefghijklmnopqrstuvwxyz").cps.toList) = lc c := by
  have e : (Str.ofString "abcdefghijklmnopqrstuvwxyz").cps.toList = (List.range 26).map (97 + ·) := by decide +kernel
  rw [e, Bool.eq_iff_iff, decide_eq_true_eq, List.mem_map]
  unfold lc
  simp only [Bool.and_eq_true, decide_eq_true_eq, List.mem_range]
  constructor
  · rintro ⟨a, ha, rfl⟩
    omega
  · rintro ⟨h1, h2⟩
    exact ⟨c - 97, by omega, by omega⟩
theorem all_filter : ∀ l : List Nat, l.all lc = decide (l.filter (fun c => !lc c) = [])
  | [] => rfl
  | c :: r => by
    cases h : lc c with
    | true =>
      rw [List.all_cons, h, Bool.true_and, all_filter r, List.filter_cons_of_neg (by simp [h])]
    | false =>
      rw [List.all_cons, h, Bool.false_and, List.filter_cons_of_pos (by simp [h])]
      simp
theorem sm_shaped {d : PyData} {k m : Nat} (h : Sm d k m) (hk : k ≤ 64) : SeqAt.shaped d = true := by
  unfold SeqAt.shaped
  rw [h.lay, Bool.true_and, decide_eq_true_eq]
  exact Nat.le_trans h.dep hk
theorem chars_dp {K : PySem.W.Frag} {H : Hp} : ∀ l : List Nat, DpAll K H (l.map fun c => V.str ⟨#[c]⟩) (l.map fun c => PyData.str ⟨#[c]⟩)
  | [] => .nil
  | c :: r => .cons (.str _) (chars_dp r)
theorem eqv_nil : ∀ l : List Nat, PyData.eqv (.list (l.map fun c => PyData.str ⟨#[c]⟩)) (.list []) = decide (l = [])
  | [] => rfl
  | c :: r => rfl
theorem nm_len (z : Str) : nm (.str z) = (decide (1 ≤ z.length) && decide (z.length ≤ 6) && z.cps.toList.all lc) := rfl
theorem small_line {n : Nat} (h : n ≤ 1000000) : n ≤ sizeLine := Nat.le_trans h (by rw [sizeLine_eq]; decide)
section
variable {P : Program} {w : World} {K : PySem.W.Frag} {mg : Str → Option Value} {base : Heap}
abbrev s_law_is_name : Stmt := top 47
theorem sc_law_is_name : FnScope ["_law_thing", "_law_letters", "_law_sign"] ["_law_thing"] (defScope s_law_is_name) := ⟨rfl, rfl, rfl, by decide +kernel, rfl, by decide +kernel, by decide +kernel⟩
abbrev s_law_whole : Stmt := top 48
theorem sc_law_whole : FnScope ["_law_thing", "_law_low", "_law_high"] ["_law_thing", "_law_low", "_law_high"] (defScope s_law_whole) := ⟨rfl, rfl, rfl, by decide +kernel, rfl, by decide +kernel, by decide +kernel⟩
abbrev s_law_is_row : Stmt := top 49
theorem sc_law_is_row : FnScope ["_law_thing", "_law_size"] ["_law_thing", "_law_size"] (defScope s_law_is_row) := ⟨rfl, rfl, rfl, by decide +kernel, rfl, by decide +kernel, by decide +kernel⟩
abbrev s_law_places_due : Stmt := top 50
theorem sc_law_places_due : FnScope ["_law_places", "_law_names_here", "_law_thing"] ["_law_places"] (defScope s_law_places_due) := ⟨rfl, rfl, rfl, by decide +kernel, rfl, by decide +kernel, by decide +kernel⟩
abbrev s_law_due : Stmt := top 51
theorem sc_law_due : FnScope ["_law_places", "_law_stretches", "_law_longs", "_law_due_here", "_law_thing", "_law_low"] ["_law_places", "_law_stretches", "_law_longs"] (defScope s_law_due) := ⟨rfl, rfl, rfl, by decide +kernel, rfl, by decide +kernel, by decide +kernel⟩
def spLawName : Sp := fun vs H Q _ => ∃ v, vs = [v] ∧ Th H v ∧ ∀ H', Same H H' → Q (.bl (nm v)) H'
theorem ok_law_is_name {f : Addr} {fd : FuncData} (F : Fun K "_law_is_name" "_law_is_name" s_law_is_name f fd) (T : Txt mg) :
    FnOk P w K mg base CX0 2 f fd ["_law_thing"] spLawName := by
  refine F.ok sc_law_is_name (fun vs H Q E h => ?_) (fun cdv A outer s H vs Q E hr h => ?_)
  · obtain ⟨v, rfl, _⟩ := h
    rfl
  · obtain ⟨v, rfl, th, k⟩ := h
    have hu := hr.units
    refine ⟨_, pss_cons (ps_set (i := 1) sc_law_is_name.nd rfl (Or.inr rfl) pe_str)
      (pss_one (ps_ret (pe_and (pe_callB call_isi (by rfl) T.isinstance_ (by decide +kernel) (pa_cons (pv 0) (pa_cons (pe_bltn (v := .ty "str") (by rfl) T.str_ (by decide +kernel) rfl) pa_nil))) (pe_and (pe_chain op_lt op_lt pe_int (pe_callB call_len_str (by rfl) T.len_ PySem.boot_len (pa_cons (pv 0) pa_nil)) pe_int) (pe_one (pe_cmpR (eqDK (K := K) rfl hu) (pe_lc (own := [("_law_sign", 2)]) (g := gName 2) rfl sc_law_is_name.nd (pi_str (pv 0)) (blkOk_by (own := [("_law_sign", 2)]) (N := ["_law_thing", "_law_letters", "_law_sign"]) (sc := defScope s_law_is_name) (by decide +kernel)) (fun _ _ _ _ _ => (pg_name (i := 2) sc_law_is_name.nd rfl (Or.inl rfl))) (fun _ _ _ _ _ => pts_one (pt_cmpR op_notIn_str (pv 2) (pv 1) rfl)) (fun _ _ _ _ _ => (pv 2))) (pe_lst pa_nil) (nomark _))))))), ?_⟩
    have no : (nm v = false) → Q (.bl false) H := fun e => by
      have := k H (Same.refl H)
      rw [e] at this
      exact this
    obtain ⟨t, ty, cs⟩ := th.ty (K := K)
    rcases cs with ⟨i, rfl, rfl⟩ | ⟨b, rfl, rfl⟩ | ⟨z, rfl, ⟨zl, zg⟩, rfl⟩ | ⟨n1, n2, n3, ht⟩
    · exact ⟨_, rfl, _, _, _, _, false, rfl, .ty "str", ty, (by rfl), _, rfl, iteF (no rfl)⟩
    · exact ⟨_, rfl, _, _, _, _, false, rfl, .ty "str", ty, (by rfl), _, rfl, iteF (no rfl)⟩
    · refine ⟨_, rfl, _, _, _, _, true, rfl, .ty "str", ty, (by rfl), _, rfl, iteT ?_⟩
      refine ⟨_, rfl, z, rfl, small_line zl, _, _, rfl, rfl, ?_⟩
      refine ⟨_, rfl, ite2 (fun c0 => ?_) (fun c0 => ⟨_, rfl, iteF (no (by rw [nm_len]; have : ¬ ((0 : Int) < z.length) := fun h => c0 (decide_eq_true h); rw [decide_eq_false (p := 1 ≤ z.length) (by omega), Bool.false_and, Bool.false_and]))⟩)⟩
      refine ⟨_, _, rfl, rfl, _, rfl, ite2 (fun c1 => ?_) (fun c1 => (no (by rw [nm_len]; have : ¬ ((z.length : Int) < 7) := fun h => c1 (decide_eq_true h); rw [decide_eq_false (p := z.length ≤ 6) (by omega), Bool.and_false, Bool.false_and])))⟩
      have l0 : 1 ≤ z.length := by have := of_decide_eq_true c0; omega
      have l6 : z.length ≤ 6 := by have := of_decide_eq_true c1; omega
      refine ⟨_, rfl, z, rfl, fun D hD => lc_it walk_str (fun i H' => ∃ cs : List Nat, H' D = some (.lst (cs.map fun c => V.str ⟨#[c]⟩)) ∧ cs = (z.cps.toList.take i).filter (fun c => !lc c) ∧ Same H H') ?_ ?_ ?_ ?_⟩
      · exact ⟨[], upd_same, rfl, same_alloc hD⟩
      · intros; trivial
      · rintro i x H1 H2 hi ⟨cs, e1, e2, s1⟩ ⟨rfl, c, hc, rfl⟩
        refine ⟨rfl, _, rfl, _, rfl, _, _, rfl, rfl, _, rfl, ?_⟩
        rw [StrLaws.found_one, low_mem]
        have hc' : z.cps.toList[i]? = some c := by rw [Array.getElem?_toList]; exact hc
        cases hl : lc c with
        | true => exact ⟨cs, e1, by rw [take_at hc', List.filter_append, e2]; simp [hl], s1⟩
        | false =>
          refine ⟨_, rfl, _, e1, ?_, cs ++ [c], ?_, by rw [take_at hc', List.filter_append, e2]; simp [hl], ?_⟩
          · rw [List.length_map, e2]
            have h1 := List.length_filter_le (fun c => !lc c) (z.cps.toList.take i)
            have h2 := List.length_take_le i z.cps.toList
            have h3 : i < z.length := hi
            exact lt_line _ (by omega)
          · rw [upd_same, List.map_append]
            rfl
          · exact fun c o h => by
              rw [upd_ne (ne_of_none h hD)]
              exact s1 _ _ h
      · rintro H1 ⟨cs, e1, e2, s1⟩
        refine ⟨Nat.zero_le _, fun L hL => ?_⟩
        have hc6 : cs.length ≤ 6 := by
          rw [e2]
          refine Nat.le_trans (List.length_filter_le _ _) (Nat.le_trans (List.length_take_le _ _) ?_)
          exact l6
        refine ⟨.list (cs.map fun c => .str ⟨#[c]⟩), .list [], .lst (SqL.of (same_alloc hL _ _ e1)) (chars_dp cs), .lst (SqL.of upd_same) .nil, ?_, rfl, ?_⟩
        · refine sm_shaped (k := 1) (m := 100) ((sm_list (k := 0) (m := 6) fun d hd => ?_).mono (by decide) (by rw [List.length_map]; omega)) (by decide)
          obtain ⟨c, hc, rfl⟩ := List.mem_map.mp hd
          rw [e2] at hc
          have hz := zg c (List.mem_of_mem_take (List.mem_filter.mp hc).1)
          exact sm_str (fun d hd => by
            obtain rfl : d = c := List.mem_singleton.mp hd
            exact hz) (by show 1 ≤ 6; decide)
        · have ek : nm (.str z) = decide (cs = []) := by
            rw [nm_len, decide_eq_true l0, decide_eq_true l6, Bool.true_and, Bool.true_and, e2, List.take_of_length_le (by exact Nat.le_refl _)]
            exact all_filter _
          have q := k (upd H1 L (.lst [])) (s1.trans (same_alloc hL))
          rw [ek] at q
          rw [eqv_nil]
          exact q
    · have e : nm v = false := by
        cases v with
        | str z => exact absurd rfl (n3 z)
        | _ => rfl
      rcases ht with rfl | rfl | rfl | rfl
      · exact ⟨_, rfl, _, _, _, _, false, rfl, .ty "str", ty, (by rfl), _, rfl, iteF (no e)⟩
      · exact ⟨_, rfl, _, _, _, _, false, rfl, .ty "str", ty, (by rfl), _, rfl, iteF (no e)⟩
      · exact ⟨_, rfl, _, _, _, _, false, rfl, .ty "str", ty, (by rfl), _, rfl, iteF (no e)⟩
      · exact ⟨_, rfl, _, _, _, _, false, rfl, .ty "str", ty, (by rfl), _, rfl, iteF (no e)⟩
def spLawWhole : Sp := fun vs H Q _ => ∃ (v : V) (lo hi : Int), vs = [v, .int lo, .int hi] ∧ Th H v ∧ Q (.bl (wh lo hi v)) H
theorem ok_law_whole {f : Addr} {fd : FuncData} (F : Fun K "_law_whole" "_law_whole" s_law_whole f fd) (T : Txt mg) :
    FnOk P w K mg base CX0 1 f fd ["_law_thing", "_law_low", "_law_high"] spLawWhole := by
  refine F.ok sc_law_whole (fun vs H Q E h => ?_) (fun cdv A outer s H vs Q E hr h => ?_)
  · obtain ⟨v, lo, hi, rfl, _⟩ := h
    rfl
  · obtain ⟨v, lo, hi, rfl, th, k⟩ := h
    refine ⟨_, pss_one (ps_ret (pe_and (pe_callB call_isi (by rfl) T.isinstance_ (by decide +kernel) (pa_cons (pv 0) (pa_cons (pe_bltn (v := .ty "int") (by rfl) T.int_ (by decide +kernel) rfl) pa_nil))) (pe_and (pe_not (pe_callB call_isi (by rfl) T.isinstance_ (by decide +kernel) (pa_cons (pv 0) (pa_cons (pe_bltn (v := .ty "bool") (by rfl) T.bool_ (by decide +kernel) rfl) pa_nil)))) (pe_one (pe_chain op_le op_le (pv 1) (pv 0) (pv 2)))))), ?_⟩
    obtain ⟨t, ty, cs⟩ := th.ty (K := K)
    rcases cs with ⟨i, rfl, rfl⟩ | ⟨b, rfl, rfl⟩ | ⟨z, rfl, _, rfl⟩ | ⟨n1, n2, n3, ht⟩
    · refine ⟨_, rfl, _, _, _, _, true, rfl, .ty "int", ty, (by rfl), _, rfl, iteT ?_⟩
      refine ⟨_, rfl, _, _, _, _, false, rfl, .ty "bool", ty, (by rfl), _, rfl, _, rfl, iteT ?_⟩
      refine ⟨_, rfl, _, rfl, _, _, rfl, rfl, _, rfl, ?_⟩
      refine ite2 (fun c => ?_) (fun c => ?_)
      · refine ⟨_, rfl, _, _, rfl, rfl, ?_⟩
        have e : (decide (i ≤ hi)) = wh lo hi (.int i) := by simp [wh, of_decide_eq_true c]
        show Q (.bl (decide (i ≤ hi))) H
        rw [e]; exact k
      · have e : false = wh lo hi (.int i) := by simp at c; simp [wh]; omega
        rw [e]; exact k
    · refine ⟨_, rfl, _, _, _, _, true, rfl, .ty "int", ty, (by rfl), _, rfl, iteT ?_⟩
      refine ⟨_, rfl, _, _, _, _, true, rfl, .ty "bool", ty, (by rfl), _, rfl, _, rfl, iteF ?_⟩
      exact k
    · exact ⟨_, rfl, _, _, _, _, false, rfl, .ty "int", ty, (by rfl), _, rfl, iteF k⟩
    · have e : wh lo hi v = false := by
        cases v with
        | int i => exact absurd rfl (n1 i)
        | _ => rfl
      rw [e] at k
      rcases ht with rfl | rfl | rfl | rfl
      · exact ⟨_, rfl, _, _, _, _, false, rfl, .ty "int", ty, (by rfl), _, rfl, iteF k⟩
      · exact ⟨_, rfl, _, _, _, _, false, rfl, .ty "int", ty, (by rfl), _, rfl, iteF k⟩
      · exact ⟨_, rfl, _, _, _, _, false, rfl, .ty "int", ty, (by rfl), _, rfl, iteF k⟩
      · exact ⟨_, rfl, _, _, _, _, false, rfl, .ty "int", ty, (by rfl), _, rfl, iteF k⟩
def spLawRow : Sp := fun vs H Q _ => ∃ (v : V) (n : Int), vs = [v, .int n] ∧ Th H v ∧ Q (.bl (ist H n v)) H
theorem ok_law_is_row {f : Addr} {fd : FuncData} (F : Fun K "_law_is_row" "_law_is_row" s_law_is_row f fd) (T : Txt mg) :
    FnOk P w K mg base CX0 1 f fd ["_law_thing", "_law_size"] spLawRow := by
  refine F.ok sc_law_is_row (fun vs H Q E h => ?_) (fun cdv A outer s H vs Q E hr h => ?_)
  · obtain ⟨v, n, rfl, _⟩ := h
    rfl
  · obtain ⟨v, n, rfl, th, k⟩ := h
    refine ⟨_, pss_one (ps_ret (pe_and (pe_callB call_isi (by rfl) T.isinstance_ (by decide +kernel) (pa_cons (pv 0) (pa_cons (pe_bltn (v := .ty "tuple") (by rfl) T.tuple_ (by decide +kernel) rfl) pa_nil))) (pe_one (pe_cmpR op_eq (pe_callB call_len_seq (by rfl) T.len_ PySem.boot_len (pa_cons (pv 0) pa_nil)) (pv 1) (nomark _))))), ?_⟩
    have no : ist H n v = false → Q (.bl false) H := fun h => by rw [h] at k; exact k
    cases th with
    | non => exact ⟨_, rfl, _, _, _, _, false, rfl, .ty "tuple", .base .non, (by rfl), _, rfl, iteF (no rfl)⟩
    | bl b => exact ⟨_, rfl, _, _, _, _, false, rfl, .ty "tuple", .base (.bl b), (by rfl), _, rfl, iteF (no rfl)⟩
    | int i => exact ⟨_, rfl, _, _, _, _, false, rfl, .ty "tuple", .base (.int i), (by rfl), _, rfl, iteF (no rfl)⟩
    | str z h g => exact ⟨_, rfl, _, _, _, _, false, rfl, .ty "tuple", .base (.str z), (by rfl), _, rfl, iteF (no rfl)⟩
    | dic a h => exact ⟨_, rfl, _, _, _, _, false, rfl, .ty "tuple", .base (.dK h), (by rfl), _, rfl, iteF (no (by unfold ist; rw [tup_dic h]))⟩
    | lst a xs h => exact ⟨_, rfl, _, _, _, _, false, rfl, .ty "tuple", .base (.lst h), (by rfl), _, rfl, iteF (no (by unfold ist; rw [tup_lst h]))⟩
    | tup a xs h =>
      have ei : ist H n (.ref a) = decide ((xs.length : Int) = n) := by unfold ist; rw [tup_tup h]
      rw [ei] at k
      refine ⟨_, rfl, _, _, _, _, true, rfl, .ty "tuple", .base (.tup h), (by rfl), _, rfl, iteT ?_⟩
      refine ⟨_, rfl, a, xs, rfl, .inr (SqT.of h), _, rfl, rfl, ?_⟩
      have e : decide (V.int (xs.length : Int) = V.int n) = decide ((xs.length : Int) = n) := by simp
      show Q (.bl (decide (V.int (xs.length : Int) = V.int n))) H
      rw [e]
      exact k
end
end K8

set_option maxRecDepth 100000
set_option maxHeartbeats 400000
namespace K8
open PySem PySem.Spec PyProof.Rows L2 GxR Gd TL My
def DueV (H : Hp) (u : V) (d : Due) : Prop := match d with
  | none => u = .non
  | some (t, x) => ∃ p, u = .ref p ∧ H p = some (.tup [.str (Str.ofString t.s), x])
theorem isSeq_read {K : PySem.W.Frag} {σ : L2.St} {H : Hp} {i : Nat} {v : V} {Q : VK} (hv : σ[i]? = some (some v)) (th : Th H v) (k : ∀ H', Same H H' → Q (.bl (seqOf H v).isSome) H') :
    tCB (rIsiT K) (tCons (tVar i) (tCons (tTup (tCons (tC (V.ty "list")) (tCons (tC (V.ty "tuple")) tNil))) tNil)) σ H Q := by
  refine ⟨_, hv, (by show 2 ≤ sizeLine; decide), fun t ht => ?_⟩
  have e := same_alloc (o := .tup [.ty "list", .ty "tuple"]) ht
  have q := k _ e
  cases th with
  | non => exact ⟨_, t, _, _, [.type "list", .type "tuple"], false, rfl, upd_same, .cons (.ty _) (.cons (.ty _) .nil), .base .non, (by rfl), q⟩
  | bl b => exact ⟨_, t, _, _, [.type "list", .type "tuple"], false, rfl, upd_same, .cons (.ty _) (.cons (.ty _) .nil), .base (.bl b), (by rfl), q⟩
  | int i => exact ⟨_, t, _, _, [.type "list", .type "tuple"], false, rfl, upd_same, .cons (.ty _) (.cons (.ty _) .nil), .base (.int i), (by rfl), q⟩
  | str z h g => exact ⟨_, t, _, _, [.type "list", .type "tuple"], false, rfl, upd_same, .cons (.ty _) (.cons (.ty _) .nil), .base (.str z), (by rfl), q⟩
  | dic a h =>
    rw [seq_dic h] at q
    exact ⟨_, t, _, _, [.type "list", .type "tuple"], false, rfl, upd_same, .cons (.ty _) (.cons (.ty _) .nil), .base (.dK (e _ _ h)), (by rfl), q⟩
  | lst a xs h =>
    rw [seq_lst h] at q
    exact ⟨_, t, _, _, [.type "list", .type "tuple"], true, rfl, upd_same, .cons (.ty _) (.cons (.ty _) .nil), .base (.lst (e _ _ h)), (by rfl), q⟩
  | tup a xs h =>
    rw [seq_tup h] at q
    exact ⟨_, t, _, _, [.type "list", .type "tuple"], true, rfl, upd_same, .cons (.ty _) (.cons (.ty _) .nil), .base (.tup (e _ _ h)), (by rfl), q⟩
theorem nameOf_at {H : Hp} {v q : V} {z : Str} (h : tupOf H v = some [.str z, q]) : nameOf H v = z := by
  unfold nameOf
  rw [h]
theorem ist_nt {H H' : Hp} (e : Nt H H') {v : V} (th : Th H v) (n : Int) : ist H' n v = ist H n v := by
  unfold ist
  rw [tup_nt e th]
theorem pl1_no {H : Hp} {as : List Str} {v : V} (h : ist H 2 v = false) : pl1 H as v = some (.places, v) := by
  unfold pl1
  unfold ist at h
  split
  · rename_i n q e
    rw [e] at h
    cases h
  · rfl
theorem due_some {H H' : Hp} {p : Addr} {t : Tag} {x : V} (h : H p = none) (e : H' = upd H p (.tup [.str (Str.ofString t.s), x])) : DueV H' (.ref p) (some (t, x)) := ⟨p, rfl, by rw [e, upd_same]⟩
section
variable {P : Program} {w : World} {K : PySem.W.Frag} {mg : Str → Option Value} {base : Heap} {f1 f2 f3 : Addr} {fd1 fd2 fd3 : FuncData}
def spPlacesDue : Sp := fun vs H Q _ => ∃ v, vs = [v] ∧ Deep H v ∧ ∀ H' u, Same H H' → DueV H' u (placesD H v) → Q u H'
theorem ok_law_places_due {f : Addr} {fd : FuncData} (F : Fun K "_law_places_due" "_law_places_due" s_law_places_due f fd) (T : Txt mg)
    (Nlaw_is_row : Fn K mg "_law_is_row" s_law_is_row ["_law_thing", "_law_size"] f1 fd1) (Glaw_is_row : FnOk P w K mg base CX0 1 f1 fd1 ["_law_thing", "_law_size"] spLawRow)
    (Nlaw_is_name : Fn K mg "_law_is_name" s_law_is_name ["_law_thing"] f2 fd2) (Glaw_is_name : FnOk P w K mg base CX0 2 f2 fd2 ["_law_thing"] spLawName)
    (Nlaw_whole : Fn K mg "_law_whole" s_law_whole ["_law_thing", "_law_low", "_law_high"] f3 fd3) (Glaw_whole : FnOk P w K mg base CX0 1 f3 fd3 ["_law_thing", "_law_low", "_law_high"] spLawWhole) :
    FnOk P w K mg base CX0 3 f fd ["_law_places"] spPlacesDue := by
  refine F.ok sc_law_places_due (fun vs H Q E h => ?_) (fun cdv A outer s H vs Q E hr h => ?_)
  · obtain ⟨v, rfl, _⟩ := h
    rfl
  · obtain ⟨v, rfl, dp, k⟩ := h
    cases hi : isl H 2 6 v with
    | false =>
      have e : placesD H v = some (.places, v) := by
        unfold placesD
        rw [hi, if_neg Bool.false_ne_true]
      rw [e] at k
      refine ⟨_, pss_cons (ps_if (PW.pt (pw_or (pt_not (pt_val (pe_callB call_isiT (by rfl) T.isinstance_ (by decide +kernel) (pa_cons (pv 0) (pa_cons (pe_tup (pa_cons (pe_bltn (v := .ty "list") (by rfl) T.list_ (by decide +kernel) rfl) (pa_cons (pe_bltn (v := .ty "tuple") (by rfl) T.tuple_ (by decide +kernel) rfl) pa_nil))) pa_nil))))) (pw_or1 (pt_not (pt_chain op_le op_le pe_int (pe_callB call_len_seq (by rfl) T.len_ PySem.boot_len (pa_cons (pv 0) pa_nil)) pe_int))))) (pss_one (ps_ret (pe_tup (pa_cons pe_str (pa_cons (pv 0) pa_nil))))) pss_nil)
      (pss_cons (ps_set (i := 1) sc_law_places_due.nd rfl (Or.inl rfl) (pe_lst pa_nil))
      (pss_cons (ps_for PassesOwn.never rfl (pi_list (pv 0)) (pg_name (i := 2) sc_law_places_due.nd rfl (Or.inl rfl)) (pss_cons (ps_if (pt_not (pt_val (pe_call Glaw_is_row (hr.mono (by decide)) (by rfl) Nlaw_is_row.g Nlaw_is_row.kp Nlaw_is_row.b .nil pass0 (pa_cons (pv 2) (pa_cons pe_int pa_nil))))) (pss_one (ps_ret (pe_tup (pa_cons pe_str (pa_cons (pv 2) pa_nil))))) pss_nil)
          (pss_cons (ps_if (pt_not (pt_val (pe_call Glaw_is_name (hr.mono (by decide)) (by rfl) Nlaw_is_name.g Nlaw_is_name.kp Nlaw_is_name.b .nil pass0 (pa_cons (pe_ix ix_tup (pv 2) pe_int (fun _ _ => rfl)) pa_nil)))) (pss_one (ps_ret (pe_tup (pa_cons pe_str (pa_cons (pe_ix ix_tup (pv 2) pe_int (fun _ _ => rfl)) pa_nil))))) pss_nil)
          (pss_cons (ps_if (pt_cmpR op_in_seq (pe_ix ix_tup (pv 2) pe_int (fun _ _ => rfl)) (pv 1) rfl) (pss_one (ps_ret (pe_tup (pa_cons pe_str (pa_cons (pe_ix ix_tup (pv 2) pe_int (fun _ _ => rfl)) pa_nil))))) pss_nil)
          (pss_cons (ps_if (pt_not (pt_val (pe_call Glaw_whole (hr.mono (by decide)) (by rfl) Nlaw_whole.g Nlaw_whole.kp Nlaw_whole.b .nil pass0 (pa_cons (pe_ix ix_tup (pv 2) pe_int (fun _ _ => rfl)) (pa_cons pe_int (pa_cons pe_int pa_nil)))))) (pss_one (ps_ret (pe_tup (pa_cons pe_str (pa_cons (pe_ix ix_tup (pv 2) pe_int (fun _ _ => rfl)) pa_nil))))) pss_nil)
          (pss_one (ps_expr (pe_bm PySem.F.plainAttrs_list PySem.F.slot_list_append PySem.F.type_list_append mt_append (pv 1) (pa_cons (pe_ix ix_tup (pv 2) pe_int (fun _ _ => rfl)) pa_nil)))))))))
      (pss_one (ps_ret pe_non)))), ?_⟩
      refine isSeq_read (i := 0) rfl dp.1 (fun H1 s1 => ?_)
      cases hq : seqOf H v with
      | none => exact ⟨_, rfl, iteT ⟨_, rfl, (by show 2 ≤ sizeLine; decide), fun p hp => k _ _ (s1.trans (same_alloc hp)) ⟨p, rfl, upd_same⟩⟩⟩
      | some xs =>
        obtain ⟨a, rfl, ha⟩ := seq_some hq
        have ha1 : SqX K H1 a xs := ha.elim (fun h => .inl (SqL.of (s1 _ _ h))) fun h => .inr (SqT.of (s1 _ _ h))
        unfold isl at hi
        rw [hq] at hi
        refine ⟨_, rfl, iteF ?_⟩
        refine ⟨_, rfl, a, xs, rfl, ha1, _, _, rfl, rfl, _, rfl, ?_⟩
        refine ite2 (fun c => ?_) (fun c => ?_)
        · have c2 : decide ((2 : Int) ≤ (xs.length : Int)) = true := c
          have hi' : (decide ((2 : Int) ≤ (xs.length : Int)) && decide ((xs.length : Int) ≤ 6)) = false := hi
          rw [c2, Bool.true_and] at hi'
          refine ⟨_, _, rfl, rfl, _, rfl, ?_⟩
          rw [hi']
          exact iteT ⟨_, rfl, (by show 2 ≤ sizeLine; decide), fun p hp => k _ _ (s1.trans (same_alloc hp)) ⟨p, rfl, upd_same⟩⟩
        · exact ⟨_, rfl, iteT ⟨_, rfl, (by show 2 ≤ sizeLine; decide), fun p hp => k _ _ (s1.trans (same_alloc hp)) ⟨p, rfl, upd_same⟩⟩⟩
    | true =>
      have e : placesD H v = plD H [] ((seqOf H v).getD []) := by
        unfold placesD
        rw [hi, if_pos rfl]
      obtain ⟨a, xs, rfl, hq, ha, l2, l6⟩ := isl_true hi
      rw [e, hq] at k
      replace k : ∀ H' u, Same H H' → DueV H' u (plD H [] xs) → Q u H' := k
      rcases ha with ha | ha
      · skip
        refine ⟨_, pss_cons (ps_if (PW.pt (pw_or (pt_not (pt_val (pe_callB call_isiT (by rfl) T.isinstance_ (by decide +kernel) (pa_cons (pv 0) (pa_cons (pe_tup (pa_cons (pe_bltn (v := .ty "list") (by rfl) T.list_ (by decide +kernel) rfl) (pa_cons (pe_bltn (v := .ty "tuple") (by rfl) T.tuple_ (by decide +kernel) rfl) pa_nil))) pa_nil))))) (pw_or1 (pt_not (pt_chain op_le op_le pe_int (pe_callB call_len_seq (by rfl) T.len_ PySem.boot_len (pa_cons (pv 0) pa_nil)) pe_int))))) (pss_one (ps_ret (pe_tup (pa_cons pe_str (pa_cons (pv 0) pa_nil))))) pss_nil)
      (pss_cons (ps_set (i := 1) sc_law_places_due.nd rfl (Or.inl rfl) (pe_lst pa_nil))
      (pss_cons (ps_for PassesOwn.never rfl (pi_list (pv 0)) (pg_name (i := 2) sc_law_places_due.nd rfl (Or.inl rfl)) (pss_cons (ps_if (pt_not (pt_val (pe_call Glaw_is_row (hr.mono (by decide)) (by rfl) Nlaw_is_row.g Nlaw_is_row.kp Nlaw_is_row.b .nil pass0 (pa_cons (pv 2) (pa_cons pe_int pa_nil))))) (pss_one (ps_ret (pe_tup (pa_cons pe_str (pa_cons (pv 2) pa_nil))))) pss_nil)
          (pss_cons (ps_if (pt_not (pt_val (pe_call Glaw_is_name (hr.mono (by decide)) (by rfl) Nlaw_is_name.g Nlaw_is_name.kp Nlaw_is_name.b .nil pass0 (pa_cons (pe_ix ix_tup (pv 2) pe_int (fun _ _ => rfl)) pa_nil)))) (pss_one (ps_ret (pe_tup (pa_cons pe_str (pa_cons (pe_ix ix_tup (pv 2) pe_int (fun _ _ => rfl)) pa_nil))))) pss_nil)
          (pss_cons (ps_if (pt_cmpR op_in_seq (pe_ix ix_tup (pv 2) pe_int (fun _ _ => rfl)) (pv 1) rfl) (pss_one (ps_ret (pe_tup (pa_cons pe_str (pa_cons (pe_ix ix_tup (pv 2) pe_int (fun _ _ => rfl)) pa_nil))))) pss_nil)
          (pss_cons (ps_if (pt_not (pt_val (pe_call Glaw_whole (hr.mono (by decide)) (by rfl) Nlaw_whole.g Nlaw_whole.kp Nlaw_whole.b .nil pass0 (pa_cons (pe_ix ix_tup (pv 2) pe_int (fun _ _ => rfl)) (pa_cons pe_int (pa_cons pe_int pa_nil)))))) (pss_one (ps_ret (pe_tup (pa_cons pe_str (pa_cons (pe_ix ix_tup (pv 2) pe_int (fun _ _ => rfl)) pa_nil))))) pss_nil)
          (pss_one (ps_expr (pe_bm PySem.F.plainAttrs_list PySem.F.slot_list_append PySem.F.type_list_append mt_append (pv 1) (pa_cons (pe_ix ix_tup (pv 2) pe_int (fun _ _ => rfl)) pa_nil)))))))))
      (pss_one (ps_ret pe_non)))), ?_⟩
        refine isSeq_read (i := 0) rfl dp.1 (fun H1 s1 => ?_)
        rw [hq]
        refine ⟨_, rfl, iteF ?_⟩
        refine ⟨_, rfl, a, xs, rfl, .inl (SqL.of (s1 _ _ ha)), _, _, rfl, rfl, _, rfl, ?_⟩
        rw [decide_eq_true l2]
        refine iteT ⟨_, _, rfl, rfl, _, rfl, ?_⟩
        rw [decide_eq_true l6]
        refine iteF ⟨Nat.zero_le _, fun L hL => ?_⟩
        have sA := s1.trans (same_alloc (o := .lst []) hL)
        have hLn : H L = none := s1.free hL
        refine ⟨_, rfl, a, rfl, ⟨_, SqL.of (sA _ _ ha)⟩, for_list (K := K) (a := a) (xs := xs) (fun i σ H' => ∃ (v : Option V) (as : List Str), σ = [some (.ref a), some (.ref L), v] ∧ H' L = some (.lst (as.map V.str)) ∧ as.length = i ∧ plD H as (xs.drop i) = plD H [] xs ∧ Same H H')
          ⟨_, [], rfl, upd_same, rfl, rfl, sA⟩ (fun i σ H' _ ⟨_, _, _, _, _, _, q⟩ => SqL.of (q _ _ ha)) ?_ ?_⟩
        · rintro i x σ H2 hx ⟨v, as, rfl, eL, el, ep, S⟩
          obtain ⟨thx, kx⟩ := dp.2 xs hq x (List.mem_of_getElem? hx)
          rw [drop_at hx] at ep
          have hi := (List.getElem?_eq_some_iff.mp hx).1
          have n2 := same_nt S
          refine ⟨_, rfl, x, 2, rfl, th_nt n2 thx, ?_⟩
          rw [ist_nt n2 thx]
          cases h2 : ist H 2 x with
          | false =>
            have e : pl1 H as x = some (.places, x) := pl1_no h2
            rw [pl1_stop e] at ep
            rw [← ep] at k
            exact ⟨_, rfl, iteT ⟨_, rfl, (by show 2 ≤ sizeLine; decide), fun p hp => k _ _ (S.trans (same_alloc hp)) ⟨p, rfl, upd_same⟩⟩⟩
          | true =>
            obtain ⟨ys, hx2, hl2⟩ := ist_true (n := 2) h2
            match ys, hl2 with
            | [n, q], _ =>
              have e : pl1 H as x = if nm n = true then (if n ∈ as.map V.str then some (.twice, n) else if wh 1 3 q = true then none else some (.number, q)) else some (.name, n) := by
                unfold pl1
                rw [hx2]
              have thn := kx _ (seq_of_tup hx2) n (by simp)
              have thq := kx _ (seq_of_tup hx2) q (by simp)
              have en : ∀ z, n = .str z → nameOf H x = z := fun z e => nameOf_at (q := q) (by rw [hx2, e])
              obtain ⟨t, rfl, ht⟩ := tup_some hx2
              have ht2 := S _ _ ht
              refine ⟨_, rfl, iteF ?_⟩
              refine ⟨_, rfl, t, _, 0, n, rfl, rfl, SqT.of ht2, rfl, n, rfl, th_nt n2 thn, fun H3 s3 => ?_⟩
              have S3 := S.trans s3
              have ht3 := s3 _ _ ht2
              have eL3 := s3 _ _ eL
              cases hn : nm n with
              | false =>
                rw [hn, if_neg Bool.false_ne_true] at e
                rw [pl1_stop e] at ep
                rw [← ep] at k
                exact ⟨_, rfl, iteT ⟨_, rfl, t, _, 0, n, rfl, rfl, SqT.of ht3, rfl, (by show 2 ≤ sizeLine; decide), fun p hp => k _ _ (S3.trans (same_alloc hp)) ⟨p, rfl, upd_same⟩⟩⟩
              | true =>
                rw [hn, if_pos rfl] at e
                obtain ⟨z, rfl, hz⟩ := nm_str hn
                refine ⟨_, rfl, iteF ?_⟩
                refine ⟨_, rfl, t, _, 0, .str z, rfl, rfl, SqT.of ht3, rfl, _, rfl, L, _, rfl, .inl (SqL.of eL3), rfl, flat_strs as, _, rfl, ?_⟩
                show if (if false = true then !inV (.str z) (as.map V.str) else inV (.str z) (as.map V.str)) = true then _ else _
                rw [if_neg Bool.false_ne_true, inV_mem]
                by_cases hm : V.str z ∈ as.map V.str
                · rw [if_pos hm] at e
                  rw [pl1_stop e] at ep
                  rw [← ep] at k
                  rw [decide_eq_true hm]
                  exact iteT ⟨_, rfl, t, _, 0, .str z, rfl, rfl, SqT.of ht3, rfl, (by show 2 ≤ sizeLine; decide), fun p hp => k _ _ (S3.trans (same_alloc hp)) ⟨p, rfl, upd_same⟩⟩
                · rw [if_neg hm] at e
                  rw [decide_eq_false hm]
                  refine iteF ?_
                  refine ⟨_, rfl, t, _, 1, q, rfl, rfl, SqT.of ht3, rfl, q, 1, 3, rfl, th_nt (n2.trans (same_nt s3)) thq, ?_⟩
                  cases hw : wh 1 3 q with
                  | false =>
                    rw [hw, if_neg Bool.false_ne_true] at e
                    rw [pl1_stop e] at ep
                    rw [← ep] at k
                    exact ⟨_, rfl, iteT ⟨_, rfl, t, _, 1, q, rfl, rfl, SqT.of ht3, rfl, (by show 2 ≤ sizeLine; decide), fun p hp => k _ _ (S3.trans (same_alloc hp)) ⟨p, rfl, upd_same⟩⟩⟩
                  | true =>
                    rw [hw, if_pos rfl] at e
                    rw [pl1_snoc e, en z rfl] at ep
                    refine ⟨_, rfl, iteF ?_⟩
                    refine ⟨_, rfl, .inl ⟨rfl, _, SqL.of eL3⟩, _, rfl, t, _, 0, .str z, rfl, rfl, SqT.of ht3, rfl, L, _, _, rfl, rfl, eL3, ?_, ?_⟩
                    · rw [List.length_map, el]
                      exact small1000 (by omega)
                    · refine ⟨_, as ++ [z], rfl, ?_, by rw [List.length_append, el]; rfl, ep, ?_⟩
                      · rw [upd_same, List.map_append]
                        rfl
                      · exact fun c o h => by
                          rw [upd_ne (ne_of_none h hLn)]
                          exact S3 _ _ h
        · rintro σ H2 ⟨v, as, rfl, eL, el, ep, S⟩
          rw [List.drop_length] at ep
          rw [← ep] at k
          exact k H2 _ S rfl
      · skip
        refine ⟨_, pss_cons (ps_if (PW.pt (pw_or (pt_not (pt_val (pe_callB call_isiT (by rfl) T.isinstance_ (by decide +kernel) (pa_cons (pv 0) (pa_cons (pe_tup (pa_cons (pe_bltn (v := .ty "list") (by rfl) T.list_ (by decide +kernel) rfl) (pa_cons (pe_bltn (v := .ty "tuple") (by rfl) T.tuple_ (by decide +kernel) rfl) pa_nil))) pa_nil))))) (pw_or1 (pt_not (pt_chain op_le op_le pe_int (pe_callB call_len_seq (by rfl) T.len_ PySem.boot_len (pa_cons (pv 0) pa_nil)) pe_int))))) (pss_one (ps_ret (pe_tup (pa_cons pe_str (pa_cons (pv 0) pa_nil))))) pss_nil)
      (pss_cons (ps_set (i := 1) sc_law_places_due.nd rfl (Or.inl rfl) (pe_lst pa_nil))
      (pss_cons (ps_for PassesOwn.never rfl (pi_tup (pv 0)) (pg_name (i := 2) sc_law_places_due.nd rfl (Or.inl rfl)) (pss_cons (ps_if (pt_not (pt_val (pe_call Glaw_is_row (hr.mono (by decide)) (by rfl) Nlaw_is_row.g Nlaw_is_row.kp Nlaw_is_row.b .nil pass0 (pa_cons (pv 2) (pa_cons pe_int pa_nil))))) (pss_one (ps_ret (pe_tup (pa_cons pe_str (pa_cons (pv 2) pa_nil))))) pss_nil)
          (pss_cons (ps_if (pt_not (pt_val (pe_call Glaw_is_name (hr.mono (by decide)) (by rfl) Nlaw_is_name.g Nlaw_is_name.kp Nlaw_is_name.b .nil pass0 (pa_cons (pe_ix ix_tup (pv 2) pe_int (fun _ _ => rfl)) pa_nil)))) (pss_one (ps_ret (pe_tup (pa_cons pe_str (pa_cons (pe_ix ix_tup (pv 2) pe_int (fun _ _ => rfl)) pa_nil))))) pss_nil)
          (pss_cons (ps_if (pt_cmpR op_in_seq (pe_ix ix_tup (pv 2) pe_int (fun _ _ => rfl)) (pv 1) rfl) (pss_one (ps_ret (pe_tup (pa_cons pe_str (pa_cons (pe_ix ix_tup (pv 2) pe_int (fun _ _ => rfl)) pa_nil))))) pss_nil)
          (pss_cons (ps_if (pt_not (pt_val (pe_call Glaw_whole (hr.mono (by decide)) (by rfl) Nlaw_whole.g Nlaw_whole.kp Nlaw_whole.b .nil pass0 (pa_cons (pe_ix ix_tup (pv 2) pe_int (fun _ _ => rfl)) (pa_cons pe_int (pa_cons pe_int pa_nil)))))) (pss_one (ps_ret (pe_tup (pa_cons pe_str (pa_cons (pe_ix ix_tup (pv 2) pe_int (fun _ _ => rfl)) pa_nil))))) pss_nil)
          (pss_one (ps_expr (pe_bm PySem.F.plainAttrs_list PySem.F.slot_list_append PySem.F.type_list_append mt_append (pv 1) (pa_cons (pe_ix ix_tup (pv 2) pe_int (fun _ _ => rfl)) pa_nil)))))))))
      (pss_one (ps_ret pe_non)))), ?_⟩
        refine isSeq_read (i := 0) rfl dp.1 (fun H1 s1 => ?_)
        rw [hq]
        refine ⟨_, rfl, iteF ?_⟩
        refine ⟨_, rfl, a, xs, rfl, .inr (SqT.of (s1 _ _ ha)), _, _, rfl, rfl, _, rfl, ?_⟩
        rw [decide_eq_true l2]
        refine iteT ⟨_, _, rfl, rfl, _, rfl, ?_⟩
        rw [decide_eq_true l6]
        refine iteF ⟨Nat.zero_le _, fun L hL => ?_⟩
        have sA := s1.trans (same_alloc (o := .lst []) hL)
        have hLn : H L = none := s1.free hL
        refine ⟨_, rfl, a, rfl, ⟨_, SqT.of (sA _ _ ha)⟩, for_tup (K := K) (a := a) (xs := xs) (fun i σ H' => ∃ (v : Option V) (as : List Str), σ = [some (.ref a), some (.ref L), v] ∧ H' L = some (.lst (as.map V.str)) ∧ as.length = i ∧ plD H as (xs.drop i) = plD H [] xs ∧ Same H H')
          ⟨_, [], rfl, upd_same, rfl, rfl, sA⟩ (fun i σ H' _ ⟨_, _, _, _, _, _, q⟩ => SqT.of (q _ _ ha)) ?_ ?_⟩
        · rintro i x σ H2 hx ⟨v, as, rfl, eL, el, ep, S⟩
          obtain ⟨thx, kx⟩ := dp.2 xs hq x (List.mem_of_getElem? hx)
          rw [drop_at hx] at ep
          have hi := (List.getElem?_eq_some_iff.mp hx).1
          have n2 := same_nt S
          refine ⟨_, rfl, x, 2, rfl, th_nt n2 thx, ?_⟩
          rw [ist_nt n2 thx]
          cases h2 : ist H 2 x with
          | false =>
            have e : pl1 H as x = some (.places, x) := pl1_no h2
            rw [pl1_stop e] at ep
            rw [← ep] at k
            exact ⟨_, rfl, iteT ⟨_, rfl, (by show 2 ≤ sizeLine; decide), fun p hp => k _ _ (S.trans (same_alloc hp)) ⟨p, rfl, upd_same⟩⟩⟩
          | true =>
            obtain ⟨ys, hx2, hl2⟩ := ist_true (n := 2) h2
            match ys, hl2 with
            | [n, q], _ =>
              have e : pl1 H as x = if nm n = true then (if n ∈ as.map V.str then some (.twice, n) else if wh 1 3 q = true then none else some (.number, q)) else some (.name, n) := by
                unfold pl1
                rw [hx2]
              have thn := kx _ (seq_of_tup hx2) n (by simp)
              have thq := kx _ (seq_of_tup hx2) q (by simp)
              have en : ∀ z, n = .str z → nameOf H x = z := fun z e => nameOf_at (q := q) (by rw [hx2, e])
              obtain ⟨t, rfl, ht⟩ := tup_some hx2
              have ht2 := S _ _ ht
              refine ⟨_, rfl, iteF ?_⟩
              refine ⟨_, rfl, t, _, 0, n, rfl, rfl, SqT.of ht2, rfl, n, rfl, th_nt n2 thn, fun H3 s3 => ?_⟩
              have S3 := S.trans s3
              have ht3 := s3 _ _ ht2
              have eL3 := s3 _ _ eL
              cases hn : nm n with
              | false =>
                rw [hn, if_neg Bool.false_ne_true] at e
                rw [pl1_stop e] at ep
                rw [← ep] at k
                exact ⟨_, rfl, iteT ⟨_, rfl, t, _, 0, n, rfl, rfl, SqT.of ht3, rfl, (by show 2 ≤ sizeLine; decide), fun p hp => k _ _ (S3.trans (same_alloc hp)) ⟨p, rfl, upd_same⟩⟩⟩
              | true =>
                rw [hn, if_pos rfl] at e
                obtain ⟨z, rfl, hz⟩ := nm_str hn
                refine ⟨_, rfl, iteF ?_⟩
                refine ⟨_, rfl, t, _, 0, .str z, rfl, rfl, SqT.of ht3, rfl, _, rfl, L, _, rfl, .inl (SqL.of eL3), rfl, flat_strs as, _, rfl, ?_⟩
                show if (if false = true then !inV (.str z) (as.map V.str) else inV (.str z) (as.map V.str)) = true then _ else _
                rw [if_neg Bool.false_ne_true, inV_mem]
                by_cases hm : V.str z ∈ as.map V.str
                · rw [if_pos hm] at e
                  rw [pl1_stop e] at ep
                  rw [← ep] at k
                  rw [decide_eq_true hm]
                  exact iteT ⟨_, rfl, t, _, 0, .str z, rfl, rfl, SqT.of ht3, rfl, (by show 2 ≤ sizeLine; decide), fun p hp => k _ _ (S3.trans (same_alloc hp)) ⟨p, rfl, upd_same⟩⟩
                · rw [if_neg hm] at e
                  rw [decide_eq_false hm]
                  refine iteF ?_
                  refine ⟨_, rfl, t, _, 1, q, rfl, rfl, SqT.of ht3, rfl, q, 1, 3, rfl, th_nt (n2.trans (same_nt s3)) thq, ?_⟩
                  cases hw : wh 1 3 q with
                  | false =>
                    rw [hw, if_neg Bool.false_ne_true] at e
                    rw [pl1_stop e] at ep
                    rw [← ep] at k
                    exact ⟨_, rfl, iteT ⟨_, rfl, t, _, 1, q, rfl, rfl, SqT.of ht3, rfl, (by show 2 ≤ sizeLine; decide), fun p hp => k _ _ (S3.trans (same_alloc hp)) ⟨p, rfl, upd_same⟩⟩⟩
                  | true =>
                    rw [hw, if_pos rfl] at e
                    rw [pl1_snoc e, en z rfl] at ep
                    refine ⟨_, rfl, iteF ?_⟩
                    refine ⟨_, rfl, .inl ⟨rfl, _, SqL.of eL3⟩, _, rfl, t, _, 0, .str z, rfl, rfl, SqT.of ht3, rfl, L, _, _, rfl, rfl, eL3, ?_, ?_⟩
                    · rw [List.length_map, el]
                      exact small1000 (by omega)
                    · refine ⟨_, as ++ [z], rfl, ?_, by rw [List.length_append, el]; rfl, ep, ?_⟩
                      · rw [upd_same, List.map_append]
                        rfl
                      · exact fun c o h => by
                          rw [upd_ne (ne_of_none h hLn)]
                          exact S3 _ _ h
        · rintro σ H2 ⟨v, as, rfl, eL, el, ep, S⟩
          rw [List.drop_length] at ep
          rw [← ep] at k
          exact k H2 _ S rfl
end
end K8

set_option maxRecDepth 100000
set_option maxHeartbeats 1000000
/-! A for over a list or a tuple, one proof for both. -/
namespace My
open PySem PySem.Spec PyProof.Rows L2 GxR Gd TL
def OneOf (K : PySem.W.Frag) (a : Addr) (H : Hp) (J : It) : Prop := (J = Itl K a ∧ ∃ xs, SqL K H a xs) ∨ (J = Itt K a ∧ ∃ xs, SqT K H a xs)
def iSeq (K : PySem.W.Frag) (t : TE) : TI := fun σ H R => t σ H fun v G => ∃ a J, v = .ref a ∧ OneOf K a G J ∧ R J G
theorem pi_seq {X : Cx} {tg l : Expr} {t : TE} (h : PE X l t) : PI X tg l (iSeq X.K t) := by
  constructor
  intro pins s σ H R I q
  apply thn (h.run pins s σ H _ I q)
  rintro v s1 ⟨x, G, IG, r, a, J, rfl, one, q⟩
  have fresh := Nat.le_refl s1.heap.objs.size
  have f0 : ∀ b ∈ [s1.heap.objs.size], s1.heap.objs.size ≤ b ∧ G b = none := fun b m => by
    rw [List.mem_singleton.mp m]
    exact ⟨fresh, IG.hok.fresh fresh⟩
  cases r
  rcases one with ⟨rfl, xs, hx⟩ | ⟨rfl, xs, hx⟩
  · obtain ⟨_, _, p, _⟩ := IG.list hx
    apply wpAny_pyIter_list p.isList
    exact ⟨_, [_], _, _, G, rfl, IG.kept (t' := s1.toks) (fun b o e => Heap.get?_push_of_some _ e), turn_list a _, ⟨_, Heap.get?_push_size _ rfl, rfl, rfl⟩, fun b m => IG.fpOk (f0 b m).1 (f0 b m).2, q⟩
  · obtain ⟨_, _, p, _⟩ := IG.tuple hx
    apply wpAny_pyIter_tuple (show s1.heap.IsTuple a _ from p)
    exact ⟨_, [_], _, _, G, rfl, IG.kept (t' := s1.toks) (fun b o e => Heap.get?_push_of_some _ e), turn_tuple a _, ⟨_, Heap.get?_push_size _ rfl, rfl, rfl⟩, fun b m => IG.fpOk (f0 b m).1 (f0 b m).2, q⟩
theorem walk_seq {K : PySem.W.Frag} {H : Hp} {a : Addr} {xs : List V} (h : H a = some (.lst xs) ∨ H a = some (.tup xs)) : ∃ J, (∀ G : Hp, G a = H a → OneOf K a G J) ∧ Walk J xs.length (fun G => G a = H a) (YAt xs) := by
  rcases h with h | h
  · exact ⟨_, fun G e => .inl ⟨rfl, xs, SqL.of (e.trans h)⟩, (walk_list (K := K) (a := a) (xs := xs)).mono (fun G e => SqL.of (e.trans h)) fun _ _ _ _ _ _ y => y⟩
  · exact ⟨_, fun G e => .inr ⟨rfl, xs, SqT.of (e.trans h)⟩, (walk_tup (K := K) (a := a) (xs := xs)).mono (fun G e => SqT.of (e.trans h)) fun _ _ _ _ _ _ y => y⟩
theorem same_at {H H' : Hp} {a : Addr} {xs : List V} (s : Same H H') (h : H a = some (.lst xs) ∨ H a = some (.tup xs)) : H' a = H a := by
  rcases h with h | h <;> rw [h, s _ _ h]
end My

set_option maxRecDepth 100000
set_option maxHeartbeats 400000
namespace K8
open PySem PySem.Spec PyProof.Rows L2 GxR Gd TL My
theorem ifT {A B : Prop} {b : Bool} (h : b = true) (k : A) : if b = true then A else B := by rw [if_pos h]; exact k
theorem ifF {A B : Prop} {b : Bool} (h : b = false) (k : B) : if b = true then A else B := by rw [if_neg (by rw [h]; exact Bool.false_ne_true)]; exact k
def isS : V → Bool
  | .str _ => true
  | _ => false
theorem rIsi_str {σ : L2.St} {K : PySem.W.Frag} {H : Hp} {n : V} {Q : VK} (th : Th H n) (k : Q (.bl (isS n)) H) : tCons (tC (V.ty "str")) tNil σ H (fun xs H2 => rIsi K (n :: xs) H2 Q) := by
  show rIsi K [n, .ty "str"] H Q
  cases th with
  | non => exact ⟨_, _, _, _, false, rfl, .ty "str", .base .non, (by rfl), k⟩
  | bl b => exact ⟨_, _, _, _, false, rfl, .ty "str", .base (.bl b), (by rfl), k⟩
  | int i => exact ⟨_, _, _, _, false, rfl, .ty "str", .base (.int i), (by rfl), k⟩
  | str z h g => exact ⟨_, _, _, _, true, rfl, .ty "str", .base (.str z), (by rfl), k⟩
  | dic a h => exact ⟨_, _, _, _, false, rfl, .ty "str", .base (.dK h), (by rfl), k⟩
  | lst a xs h => exact ⟨_, _, _, _, false, rfl, .ty "str", .base (.lst h), (by rfl), k⟩
  | tup a xs h => exact ⟨_, _, _, _, false, rfl, .ty "str", .base (.tup h), (by rfl), k⟩
theorem isS_no {n : V} (h : isS n = false) (z : Str) : n ≠ .str z := fun e => by rw [e] at h; cases h
theorem isS_yes {n : V} (h : isS n = true) : ∃ z, n = .str z := by
  cases n with
  | str z => exact ⟨z, rfl⟩
  | _ => cases h
theorem st1_no {H : Hp} {v : V} (h : ist H 2 v = false) : st1 H v = false := by
  unfold st1
  unfold ist at h
  split
  · rename_i n q e
    rw [e] at h
    cases h
  · rfl
theorem st1_at {H : Hp} {v n q : V} (h : tupOf H v = some [n, q]) : st1 H v = ((decide (n = .str "staff") || decide (n = .str "ticket")) && wh 0 1 q) := by
  unfold st1
  rw [h]
theorem lo1_no {H : Hp} {v : V} {low tp : Int} (h : ist H 3 v = false) : lo1 H low tp v = false := by
  unfold lo1
  unfold ist at h
  split
  · rename_i n q l e
    rw [e] at h
    cases h
  · rfl
theorem lo1_at {H : Hp} {v f l h : V} {low tp : Int} (e : tupOf H v = some [f, l, h]) : lo1 H low tp v = (wh low tp f && wh (intOf f + 2) tp l && wh 0 1 h) := by
  unfold lo1
  rw [e]
theorem lastLo_at {H : Hp} {v f l h : V} (e : tupOf H v = some [f, l, h]) : lastLo H v = intOf l := by
  unfold lastLo
  rw [e]
theorem at_X {K : PySem.W.Frag} {H : Hp} {a : Addr} {xs : List V} (h : H a = some (.lst xs) ∨ H a = some (.tup xs)) : SqL K H a xs ∨ SqT K H a xs := h.elim (fun h => .inl (SqL.of h)) fun h => .inr (SqT.of h)
theorem at_same {H H' : Hp} {a : Addr} {xs : List V} (s : Same H H') (h : H a = some (.lst xs) ∨ H a = some (.tup xs)) : H' a = some (.lst xs) ∨ H' a = some (.tup xs) := h.elim (fun h => .inl (s _ _ h)) fun h => .inr (s _ _ h)
section
variable {P : Program} {w : World} {K : PySem.W.Frag} {mg : Str → Option Value} {base : Heap} {f1 f2 f3 : Addr} {fd1 fd2 fd3 : FuncData}
def spLawDue : Sp := fun vs H Q _ => ∃ v1 v2 v3, vs = [v1, v2, v3] ∧ Deep H v1 ∧ Deep H v2 ∧ Deep H v3 ∧ ∀ H' u, Same H H' → DueV H' u (dueD H v1 v2 v3) → Q u H'
theorem ok_law_due {f : Addr} {fd : FuncData} (F : Fun K "_law_due" "_law_due" s_law_due f fd) (T : Txt mg)
    (Nlaw_is_row : Fn K mg "_law_is_row" s_law_is_row ["_law_thing", "_law_size"] f1 fd1) (Glaw_is_row : FnOk P w K mg base CX0 1 f1 fd1 ["_law_thing", "_law_size"] spLawRow)
    (Nlaw_places_due : Fn K mg "_law_places_due" s_law_places_due ["_law_places"] f2 fd2) (Glaw_places_due : FnOk P w K mg base CX0 3 f2 fd2 ["_law_places"] spPlacesDue)
    (Nlaw_whole : Fn K mg "_law_whole" s_law_whole ["_law_thing", "_law_low", "_law_high"] f3 fd3) (Glaw_whole : FnOk P w K mg base CX0 1 f3 fd3 ["_law_thing", "_law_low", "_law_high"] spLawWhole) :
    FnOk P w K mg base CX0 4 f fd ["_law_places", "_law_stretches", "_law_longs"] spLawDue := by
  refine F.ok sc_law_due (fun vs H Q E h => ?_) (fun cdv A outer s H vs Q E hr h => ?_)
  · obtain ⟨v1, v2, v3, rfl, _⟩ := h
    rfl
  · obtain ⟨v1, v2, v3, rfl, d1, d2, d3, k⟩ := h
    refine ⟨_, pss_cons (ps_set (i := 3) sc_law_due.nd rfl (Or.inl rfl) (pe_call Glaw_places_due (hr.mono (by decide)) (by rfl) Nlaw_places_due.g Nlaw_places_due.kp Nlaw_places_due.b .nil pass0 (pa_cons (pv 0) pa_nil)))
      (pss_cons (ps_if (pt_cmpR op_notN (pv 3) pe_non (nomark _)) (pss_one (ps_ret (pv 3))) pss_nil)
      (pss_cons (ps_if (PW.pt (pw_or (pt_not (pt_val (pe_callB call_isiT (by rfl) T.isinstance_ (by decide +kernel) (pa_cons (pv 1) (pa_cons (pe_tup (pa_cons (pe_bltn (v := .ty "list") (by rfl) T.list_ (by decide +kernel) rfl) (pa_cons (pe_bltn (v := .ty "tuple") (by rfl) T.tuple_ (by decide +kernel) rfl) pa_nil))) pa_nil))))) (pw_or1 (pt_cmpR op_ne (pe_callB call_len_seq (by rfl) T.len_ PySem.boot_len (pa_cons (pv 1) pa_nil)) (pe_op op_sub (pe_callB call_len_seq (by rfl) T.len_ PySem.boot_len (pa_cons (pv 0) pa_nil)) pe_int) (nomark _))))) (pss_one (ps_ret (pe_tup (pa_cons pe_str (pa_cons (pv 1) pa_nil))))) pss_nil)
      (pss_cons (ps_for PassesOwn.never rfl (pi_seq (pv 1)) (pg_name (i := 4) sc_law_due.nd rfl (Or.inl rfl)) (pss_cons (ps_if (PW.pt (pw_or (pt_not (pt_val (pe_call Glaw_is_row (hr.mono (by decide)) (by rfl) Nlaw_is_row.g Nlaw_is_row.kp Nlaw_is_row.b .nil pass0 (pa_cons (pv 4) (pa_cons pe_int pa_nil))))) (pw_or (pt_not (pt_val (pe_callB call_isi (by rfl) T.isinstance_ (by decide +kernel) (pa_cons (pe_ix ix_tup (pv 4) pe_int (fun _ _ => rfl)) (pa_cons (pe_bltn (v := .ty "str") (by rfl) T.str_ (by decide +kernel) rfl) pa_nil))))) (pw_or1 (pt_cmpR op_notIn_seq (pe_ix ix_tup (pv 4) pe_int (fun _ _ => rfl)) (pe_lst (pa_cons pe_str (pa_cons pe_str pa_nil))) rfl))))) (pss_one (ps_ret (pe_tup (pa_cons pe_str (pa_cons (pv 4) pa_nil))))) pss_nil)
          (pss_one (ps_if (pt_not (pt_val (pe_call Glaw_whole (hr.mono (by decide)) (by rfl) Nlaw_whole.g Nlaw_whole.kp Nlaw_whole.b .nil pass0 (pa_cons (pe_ix ix_tup (pv 4) pe_int (fun _ _ => rfl)) (pa_cons pe_int (pa_cons pe_int pa_nil)))))) (pss_one (ps_ret (pe_tup (pa_cons pe_str (pa_cons (pv 4) pa_nil))))) pss_nil))))
      (pss_cons (ps_if (PW.pt (pw_and (pt_cmpR op_notN (pv 2) pe_non (nomark _)) (pw_and1 (PW.pt (pw_or (pt_not (pt_val (pe_callB call_isiT (by rfl) T.isinstance_ (by decide +kernel) (pa_cons (pv 2) (pa_cons (pe_tup (pa_cons (pe_bltn (v := .ty "list") (by rfl) T.list_ (by decide +kernel) rfl) (pa_cons (pe_bltn (v := .ty "tuple") (by rfl) T.tuple_ (by decide +kernel) rfl) pa_nil))) pa_nil))))) (pw_or1 (pt_cmpR op_gt (pe_callB call_len_seq (by rfl) T.len_ PySem.boot_len (pa_cons (pv 2) pa_nil)) pe_int (nomark _)))))))) (pss_one (ps_ret (pe_tup (pa_cons pe_str (pa_cons (pv 2) pa_nil))))) pss_nil)
      (pss_cons (ps_set (i := 5) sc_law_due.nd rfl (Or.inl rfl) pe_int)
      (pss_cons (ps_for PassesOwn.never rfl (pi_seq (pe_ifExp (pt_cmpR op_notN (pv 2) pe_non (nomark _)) (pv 2) (pe_lst pa_nil))) (pg_name (i := 4) sc_law_due.nd rfl (Or.inl rfl)) (pss_cons (ps_if (PW.pt (pw_or (pt_not (pt_val (pe_call Glaw_is_row (hr.mono (by decide)) (by rfl) Nlaw_is_row.g Nlaw_is_row.kp Nlaw_is_row.b .nil pass0 (pa_cons (pv 4) (pa_cons pe_int pa_nil))))) (pw_or1 (pt_not (pt_val (pe_call Glaw_whole (hr.mono (by decide)) (by rfl) Nlaw_whole.g Nlaw_whole.kp Nlaw_whole.b .nil pass0 (pa_cons (pe_ix ix_tup (pv 4) pe_int (fun _ _ => rfl)) (pa_cons (pv 5) (pa_cons (pe_op op_sub (pe_callB call_len_seq (by rfl) T.len_ PySem.boot_len (pa_cons (pv 0) pa_nil)) pe_int) pa_nil))))))))) (pss_one (ps_ret (pe_tup (pa_cons pe_str (pa_cons (pv 4) pa_nil))))) pss_nil)
          (pss_cons (ps_if (PW.pt (pw_or (pt_not (pt_val (pe_call Glaw_whole (hr.mono (by decide)) (by rfl) Nlaw_whole.g Nlaw_whole.kp Nlaw_whole.b .nil pass0 (pa_cons (pe_ix ix_tup (pv 4) pe_int (fun _ _ => rfl)) (pa_cons (pe_op op_add (pe_ix ix_tup (pv 4) pe_int (fun _ _ => rfl)) pe_int) (pa_cons (pe_op op_sub (pe_callB call_len_seq (by rfl) T.len_ PySem.boot_len (pa_cons (pv 0) pa_nil)) pe_int) pa_nil)))))) (pw_or1 (pt_not (pt_val (pe_call Glaw_whole (hr.mono (by decide)) (by rfl) Nlaw_whole.g Nlaw_whole.kp Nlaw_whole.b .nil pass0 (pa_cons (pe_ix ix_tup (pv 4) pe_int (fun _ _ => rfl)) (pa_cons pe_int (pa_cons pe_int pa_nil))))))))) (pss_one (ps_ret (pe_tup (pa_cons pe_str (pa_cons (pv 4) pa_nil))))) pss_nil)
          (pss_one (ps_set (i := 5) sc_law_due.nd rfl (Or.inl rfl) (pe_ix ix_tup (pv 4) pe_int (fun _ _ => rfl)))))))
      (pss_one (ps_ret pe_non)))))))), ?_⟩
    refine ⟨_, rfl, v1, rfl, d1, fun H1 u s1 du => ?_⟩
    cases hp : placesD H v1 with
    | some d =>
      rw [hp] at du
      obtain ⟨t, x⟩ := d
      obtain ⟨p, rfl, hp'⟩ := du
      refine ⟨_, rfl, rfl, _, rfl, ifT (by rw [decide_eq_false (by simp)]; rfl) ⟨_, rfl, k _ _ s1 ?_⟩⟩
      unfold dueD
      rw [hp]
      exact ⟨p, rfl, hp'⟩
    | none =>
      rw [hp] at du
      obtain rfl : u = .non := du
      refine ⟨_, rfl, rfl, _, rfl, iteF ?_⟩
      have hi : isl H 2 6 v1 = true := by
        cases q : isl H 2 6 v1 with
        | true => rfl
        | false =>
          unfold placesD at hp
          rw [q, if_neg Bool.false_ne_true] at hp
          cases hp
      obtain ⟨a1, xs1, rfl, hq1, ha1, l2, l6⟩ := isl_true hi
      have em : manyOf H (.ref a1) = (xs1.length : Int) := by
        unfold manyOf
        rw [hq1]
        rfl
      have due2 : dueD H (.ref a1) v2 v3 = match stretchesD H ((xs1.length : Int) - 1) v2 with
          | some d => some d
          | none => if v3 = .non then none else longsD H ((xs1.length : Int) - 1) v3 := by
        unfold dueD
        rw [hp, em]
        try exact rfl
      rw [due2] at k
      clear due2 hp em hi
      refine isSeq_read (i := 1) rfl (d2.nt (same_nt s1)).1 (fun H2 s2 => ?_)
      rw [seq_nt (same_nt s1) d2.1]
      have S2 := s1.trans s2
      cases hq2 : seqOf H v2 with
      | none =>
        have e : stretchesD H ((xs1.length : Int) - 1) v2 = some (.stretches, v2) := by
          unfold stretchesD isl
          rw [hq2, if_neg Bool.false_ne_true]
        rw [e] at k
        exact ⟨_, rfl, iteT ⟨_, rfl, (by show 2 ≤ sizeLine; decide), fun p hp => k _ _ (S2.trans (same_alloc hp)) ⟨p, rfl, upd_same⟩⟩⟩
      | some xs2 =>
        obtain ⟨a2, rfl, ha2⟩ := seq_some hq2
        refine ⟨_, rfl, iteF ⟨_, rfl, a2, xs2, rfl, at_X (at_same S2 ha2), _, rfl, a1, xs1, rfl, at_X (at_same S2 ha1), _, _, rfl, rfl, rfl, _, rfl, ?_⟩⟩
        by_cases hl : (xs2.length : Int) = (xs1.length : Int) - 1
        · have e : stretchesD H ((xs1.length : Int) - 1) (.ref a2) = stD H xs2 := by
            unfold stretchesD isl
            rw [hq2]
            show (if (decide ((xs1.length : Int) - 1 ≤ (xs2.length : Int)) && decide ((xs2.length : Int) ≤ (xs1.length : Int) - 1)) = true then _ else _) = _
            rw [decide_eq_true (by omega), decide_eq_true (by omega), Bool.and_self, if_pos rfl]
            rfl
          rw [e] at k
          refine ifF (by rw [hl, decide_eq_true rfl]; rfl) ?_
          obtain ⟨J, hJ, wk⟩ := walk_seq (K := K) (at_same S2 ha2)
          refine ⟨_, rfl, a2, J, rfl, hJ _ rfl, for_it wk (fun i σ H' => ∃ v : Option V, σ = [some (.ref a1), some (.ref a2), some v3, some .non, v, none] ∧ stD H (xs2.drop i) = stD H xs2 ∧ Same H H' ∧ Same H2 H')
            ⟨_, rfl, rfl, S2, Same.refl _⟩ (fun i σ H' _ ⟨_, _, _, _, q⟩ => same_at q (at_same S2 ha2)) ?_ ?_⟩
          · rintro i x σ H3 H3' hi ⟨v, rfl, ep, S3, T3⟩ ⟨rfl, hx⟩
            obtain ⟨thx, kx⟩ := d2.2 xs2 hq2 x (List.mem_of_getElem? hx)
            rw [drop_at hx] at ep
            have n3 := same_nt S3
            refine ⟨_, rfl, x, 2, rfl, th_nt n3 thx, ?_⟩
            rw [ist_nt n3 thx]
            cases h2 : ist H 2 x with
            | false =>
              rw [st_stop (st1_no h2)] at ep
              rw [← ep] at k
              exact ⟨_, rfl, iteT ⟨_, rfl, (by show 2 ≤ sizeLine; decide), fun p hp => k _ _ (S3.trans (same_alloc hp)) ⟨p, rfl, upd_same⟩⟩⟩
            | true =>
              obtain ⟨ys, hx2, hl2⟩ := ist_true (n := 2) h2
              match ys, hl2 with
              | [n, q], _ =>
                have thn := th_nt n3 (kx _ (seq_of_tup hx2) n (by simp))
                have thq := kx _ (seq_of_tup hx2) q (by simp)
                have e := st1_at hx2
                obtain ⟨t, rfl, ht⟩ := tup_some hx2
                have ht3 := S3 _ _ ht
                refine ⟨_, rfl, iteF ⟨_, rfl, t, _, 0, n, rfl, rfl, SqT.of ht3, rfl, rIsi_str thn ?_⟩⟩
                cases hs : isS n with
                | false =>
                  rw [decide_eq_false (isS_no hs _), decide_eq_false (isS_no hs _), Bool.or_false, Bool.false_and] at e
                  rw [st_stop e] at ep
                  rw [← ep] at k
                  exact ⟨_, rfl, iteT ⟨_, rfl, (by show 2 ≤ sizeLine; decide), fun p hp => k _ _ (S3.trans (same_alloc hp)) ⟨p, rfl, upd_same⟩⟩⟩
                | true =>
                  obtain ⟨z, rfl⟩ := isS_yes hs
                  refine ⟨_, rfl, iteF ⟨_, rfl, t, _, 0, .str z, rfl, rfl, SqT.of ht3, rfl, (by show 2 ≤ sizeLine; decide), fun L hL => ⟨L, _, rfl, .inl (SqL.of upd_same), rfl, rfl, _, rfl, ?_⟩⟩⟩
                  have s4 : Same H3' (upd H3' L (.lst [.str "staff", .str "ticket"])) := same_alloc hL
                  have S4 := S3.trans s4
                  have T4 := T3.trans s4
                  have ht4 := s4 _ _ ht3
                  generalize upd H3' L (.lst [.str "staff", .str "ticket"]) = H4 at s4 S4 T4 ht4 ⊢
                  show if (if true = true then !inV (.str z) [.str "staff", .str "ticket"] else inV (.str z) [.str "staff", .str "ticket"]) = true then _ else _
                  rw [if_pos rfl, flat_in2 rfl]
                  cases hb : (decide (V.str z = .str "staff") || decide (V.str z = .str "ticket")) with
                  | false =>
                    rw [hb, Bool.false_and] at e
                    rw [st_stop e] at ep
                    rw [← ep] at k
                    exact iteT ⟨_, rfl, (by show 2 ≤ sizeLine; decide), fun p hp => k _ _ (S4.trans (same_alloc hp)) ⟨p, rfl, upd_same⟩⟩
                  | true =>
                    rw [hb, Bool.true_and] at e
                    refine iteF ⟨_, rfl, t, _, 1, q, rfl, rfl, SqT.of ht4, rfl, q, 0, 1, rfl, th_nt (same_nt S4) thq, ?_⟩
                    cases hw : wh 0 1 q with
                    | false =>
                      rw [hw] at e
                      rw [st_stop e] at ep
                      rw [← ep] at k
                      exact ⟨_, rfl, iteT ⟨_, rfl, (by show 2 ≤ sizeLine; decide), fun p hp => k _ _ (S4.trans (same_alloc hp)) ⟨p, rfl, upd_same⟩⟩⟩
                    | true =>
                      rw [hw] at e
                      rw [st_go e] at ep
                      exact ⟨_, rfl, iteF ⟨_, rfl, ep, S4, T4⟩⟩
          · rintro σ H3 ⟨v, rfl, ep, S3, _⟩
            rw [List.drop_length] at ep
            rw [← ep] at k
            replace k : ∀ H' u, Same H H' → DueV H' u (if v3 = .non then none else longsD H ((xs1.length : Int) - 1) v3) → Q u H' := k
            clear e ep s1 s2 S2 wk hJ J
            by_cases hn : v3 = .non
            · rw [if_pos hn] at k
              refine ⟨_, rfl, rfl, _, rfl, ifF (by rw [decide_eq_true hn]; rfl) ?_⟩
              refine ⟨_, rfl, rfl, _, rfl, ifF (by rw [decide_eq_true hn]; rfl) ⟨Nat.zero_le _, fun a3 hL => ?_⟩⟩
              have S6 := S3.trans (same_alloc (o := .lst []) hL)
              obtain ⟨xs3, hxs⟩ : ∃ xs3 : List V, xs3 = [] := ⟨_, rfl⟩
              have ha3 : upd H3 a3 (.lst []) a3 = some (.lst xs3) ∨ upd H3 a3 (.lst []) a3 = some (.tup xs3) := .inl (by rw [hxs, upd_same])
              have all3 : ∀ x ∈ xs3, Th H x ∧ Kids H x := fun x hx => by rw [hxs] at hx; cases hx
              have k0 := k
              replace k : ∀ H' u, Same H H' → DueV H' u (loD H ((xs1.length : Int) - 1) 0 xs3) → Q u H' := by rw [hxs]; exact k0
              generalize upd H3 a3 (.lst []) = H6 at S6 ha3 ⊢
              obtain ⟨J, hJ, wk⟩ := walk_seq (K := K) ha3
              refine ⟨a3, J, rfl, hJ _ rfl, for_it wk (fun i σ H' => ∃ (v : Option V) (low : Int), σ = [some (.ref a1), some (.ref a2), some v3, some .non, v, some (.int low)] ∧ loD H ((xs1.length : Int) - 1) low (xs3.drop i) = loD H ((xs1.length : Int) - 1) 0 xs3 ∧ Same H H' ∧ Same H6 H')
                ⟨_, _, rfl, rfl, S6, Same.refl _⟩ (fun i σ H' _ ⟨_, _, _, _, _, q⟩ => same_at q ha3) ?_ ?_⟩
              · rintro i x σ H7 H7' hi ⟨v, low, rfl, ep, S7, T7⟩ ⟨rfl, hx⟩
                obtain ⟨thx, kx⟩ := all3 x (List.mem_of_getElem? hx)
                rw [drop_at hx] at ep
                have n7 := same_nt S7
                refine ⟨_, rfl, x, 3, rfl, th_nt n7 thx, ?_⟩
                rw [ist_nt n7 thx]
                cases h3 : ist H 3 x with
                | false =>
                  rw [lo_stop (lo1_no h3)] at ep
                  rw [← ep] at k
                  exact ⟨_, rfl, iteT ⟨_, rfl, (by show 2 ≤ sizeLine; decide), fun p hp => k _ _ (S7.trans (same_alloc hp)) ⟨p, rfl, upd_same⟩⟩⟩
                | true =>
                  obtain ⟨ys, hx3, hl3⟩ := ist_true (n := 3) h3
                  match ys, hl3 with
                  | [fi, la, h], _ =>
                    have th1 := th_nt n7 (kx _ (seq_of_tup hx3) fi (by simp))
                    have th2 := th_nt n7 (kx _ (seq_of_tup hx3) la (by simp))
                    have th3 := th_nt n7 (kx _ (seq_of_tup hx3) h (by simp))
                    have e1 := lo1_at (low := low) (tp := (xs1.length : Int) - 1) hx3
                    have e2 := lastLo_at hx3
                    obtain ⟨t, rfl, ht⟩ := tup_some hx3
                    have ht7 := S7 _ _ ht
                    have ha17 := at_X (K := K) (at_same S7 ha1)
                    refine ⟨_, rfl, iteF ⟨_, rfl, t, _, 0, fi, rfl, rfl, SqT.of ht7, rfl, _, rfl, _, rfl, a1, xs1, rfl, ha17, _, _, rfl, rfl, fi, low, (xs1.length : Int) - 1, rfl, th1, ?_⟩⟩
                    cases w1 : wh low ((xs1.length : Int) - 1) fi with
                    | false =>
                      rw [w1, Bool.false_and, Bool.false_and] at e1
                      rw [lo_stop e1] at ep
                      rw [← ep] at k
                      exact ⟨_, rfl, iteT ⟨_, rfl, (by show 2 ≤ sizeLine; decide), fun p hp => k _ _ (S7.trans (same_alloc hp)) ⟨p, rfl, upd_same⟩⟩⟩
                    | true =>
                      rw [w1, Bool.true_and] at e1
                      obtain ⟨i1, rfl⟩ := wh_int w1
                      refine ⟨_, rfl, iteF ?_⟩
                      refine ⟨_, rfl, t, _, 1, la, rfl, rfl, SqT.of ht7, rfl, _, rfl, t, _, 0, .int i1, rfl, rfl, SqT.of ht7, rfl, _, _, rfl, rfl, _, rfl, a1, xs1, rfl, ha17, _, _, rfl, rfl, la, i1 + 2, (xs1.length : Int) - 1, rfl, th2, ?_⟩
                      have e1' : lo1 H low ((xs1.length : Int) - 1) (.ref t) = (wh (i1 + 2) ((xs1.length : Int) - 1) la && wh 0 1 h) := e1
                      cases w2 : wh (i1 + 2) ((xs1.length : Int) - 1) la with
                      | false =>
                        rw [w2, Bool.false_and] at e1'
                        rw [lo_stop e1'] at ep
                        rw [← ep] at k
                        exact ⟨_, rfl, iteT ⟨_, rfl, (by show 2 ≤ sizeLine; decide), fun p hp => k _ _ (S7.trans (same_alloc hp)) ⟨p, rfl, upd_same⟩⟩⟩
                      | true =>
                        rw [w2, Bool.true_and] at e1'
                        obtain ⟨i2, rfl⟩ := wh_int w2
                        refine ⟨_, rfl, iteF ⟨_, rfl, t, _, 2, h, rfl, rfl, SqT.of ht7, rfl, h, 0, 1, rfl, th3, ?_⟩⟩
                        cases w3 : wh 0 1 h with
                        | false =>
                          rw [w3] at e1'
                          rw [lo_stop e1'] at ep
                          rw [← ep] at k
                          exact ⟨_, rfl, iteT ⟨_, rfl, (by show 2 ≤ sizeLine; decide), fun p hp => k _ _ (S7.trans (same_alloc hp)) ⟨p, rfl, upd_same⟩⟩⟩
                        | true =>
                          rw [w3] at e1'
                          rw [lo_go e1', e2] at ep
                          exact ⟨_, rfl, iteF ⟨_, rfl, t, _, 1, .int i2, rfl, rfl, SqT.of ht7, rfl, _, i2, rfl, ep, S7, T7⟩⟩
              · rintro σ H7 ⟨v, low, rfl, ep, S7, _⟩
                rw [List.drop_length] at ep
                rw [← ep] at k
                exact k H7 _ S7 rfl
            · rw [if_neg hn] at k
              refine ⟨_, rfl, rfl, _, rfl, ifT (by rw [decide_eq_false hn]; rfl) ?_⟩
              refine isSeq_read (i := 2) rfl (d3.nt (same_nt S3)).1 (fun H6 s6 => ?_)
              rw [seq_nt (same_nt S3) d3.1]
              have S6 := S3.trans s6
              cases hq3 : seqOf H v3 with
              | none =>
                have e : longsD H ((xs1.length : Int) - 1) v3 = some (.longs, v3) := by
                  unfold longsD isl
                  rw [hq3, if_neg Bool.false_ne_true]
                rw [e] at k
                exact ⟨_, rfl, iteT ⟨_, rfl, (by show 2 ≤ sizeLine; decide), fun p hp => k _ _ (S6.trans (same_alloc hp)) ⟨p, rfl, upd_same⟩⟩⟩
              | some xs3 =>
                obtain ⟨a3, rfl, hb3⟩ := seq_some hq3
                refine ⟨_, rfl, iteF ⟨_, rfl, a3, xs3, rfl, at_X (at_same S6 hb3), _, _, rfl, rfl, _, rfl, ?_⟩⟩
                refine ite2 (fun c => ?_) (fun c => ?_)
                · have c' : (2 : Int) < (xs3.length : Int) := of_decide_eq_true c
                  have e : longsD H ((xs1.length : Int) - 1) (.ref a3) = some (.longs, .ref a3) := by
                    unfold longsD isl
                    rw [hq3]
                    show (if (decide ((0 : Int) ≤ (xs3.length : Int)) && decide ((xs3.length : Int) ≤ 2)) = true then _ else _) = _
                    rw [decide_eq_false (p := (xs3.length : Int) ≤ 2) (by omega), Bool.and_false, if_neg Bool.false_ne_true]
                  rw [e] at k
                  exact ⟨_, rfl, (by show 2 ≤ sizeLine; decide), fun p hp => k _ _ (S6.trans (same_alloc hp)) ⟨p, rfl, upd_same⟩⟩
                · have c' : ¬ (2 : Int) < (xs3.length : Int) := fun h => c (decide_eq_true h)
                  have e : longsD H ((xs1.length : Int) - 1) (.ref a3) = loD H ((xs1.length : Int) - 1) 0 xs3 := by
                    unfold longsD isl
                    rw [hq3]
                    show (if (decide ((0 : Int) ≤ (xs3.length : Int)) && decide ((xs3.length : Int) ≤ 2)) = true then _ else _) = _
                    rw [decide_eq_true (by omega), decide_eq_true (by omega), Bool.and_self, if_pos rfl]
                    rfl
                  rw [e] at k
                  refine ⟨_, rfl, rfl, _, rfl, ifT (by rw [decide_eq_false hn]; rfl) ⟨_, rfl, ?_⟩⟩
                  have ha3 := at_same S6 hb3
                  have all3 := d3.2 xs3 hq3
                  obtain ⟨J, hJ, wk⟩ := walk_seq (K := K) ha3
                  refine ⟨a3, J, rfl, hJ _ rfl, for_it wk (fun i σ H' => ∃ (v : Option V) (low : Int), σ = [some (.ref a1), some (.ref a2), some (.ref a3), some .non, v, some (.int low)] ∧ loD H ((xs1.length : Int) - 1) low (xs3.drop i) = loD H ((xs1.length : Int) - 1) 0 xs3 ∧ Same H H' ∧ Same H6 H')
                    ⟨_, _, rfl, rfl, S6, Same.refl _⟩ (fun i σ H' _ ⟨_, _, _, _, _, q⟩ => same_at q ha3) ?_ ?_⟩
                  · rintro i x σ H7 H7' hi ⟨v, low, rfl, ep, S7, T7⟩ ⟨rfl, hx⟩
                    obtain ⟨thx, kx⟩ := all3 x (List.mem_of_getElem? hx)
                    rw [drop_at hx] at ep
                    have n7 := same_nt S7
                    refine ⟨_, rfl, x, 3, rfl, th_nt n7 thx, ?_⟩
                    rw [ist_nt n7 thx]
                    cases h3 : ist H 3 x with
                    | false =>
                      rw [lo_stop (lo1_no h3)] at ep
                      rw [← ep] at k
                      exact ⟨_, rfl, iteT ⟨_, rfl, (by show 2 ≤ sizeLine; decide), fun p hp => k _ _ (S7.trans (same_alloc hp)) ⟨p, rfl, upd_same⟩⟩⟩
                    | true =>
                      obtain ⟨ys, hx3, hl3⟩ := ist_true (n := 3) h3
                      match ys, hl3 with
                      | [fi, la, h], _ =>
                        have th1 := th_nt n7 (kx _ (seq_of_tup hx3) fi (by simp))
                        have th2 := th_nt n7 (kx _ (seq_of_tup hx3) la (by simp))
                        have th3 := th_nt n7 (kx _ (seq_of_tup hx3) h (by simp))
                        have e1 := lo1_at (low := low) (tp := (xs1.length : Int) - 1) hx3
                        have e2 := lastLo_at hx3
                        obtain ⟨t, rfl, ht⟩ := tup_some hx3
                        have ht7 := S7 _ _ ht
                        have ha17 := at_X (K := K) (at_same S7 ha1)
                        refine ⟨_, rfl, iteF ⟨_, rfl, t, _, 0, fi, rfl, rfl, SqT.of ht7, rfl, _, rfl, _, rfl, a1, xs1, rfl, ha17, _, _, rfl, rfl, fi, low, (xs1.length : Int) - 1, rfl, th1, ?_⟩⟩
                        cases w1 : wh low ((xs1.length : Int) - 1) fi with
                        | false =>
                          rw [w1, Bool.false_and, Bool.false_and] at e1
                          rw [lo_stop e1] at ep
                          rw [← ep] at k
                          exact ⟨_, rfl, iteT ⟨_, rfl, (by show 2 ≤ sizeLine; decide), fun p hp => k _ _ (S7.trans (same_alloc hp)) ⟨p, rfl, upd_same⟩⟩⟩
                        | true =>
                          rw [w1, Bool.true_and] at e1
                          obtain ⟨i1, rfl⟩ := wh_int w1
                          refine ⟨_, rfl, iteF ?_⟩
                          refine ⟨_, rfl, t, _, 1, la, rfl, rfl, SqT.of ht7, rfl, _, rfl, t, _, 0, .int i1, rfl, rfl, SqT.of ht7, rfl, _, _, rfl, rfl, _, rfl, a1, xs1, rfl, ha17, _, _, rfl, rfl, la, i1 + 2, (xs1.length : Int) - 1, rfl, th2, ?_⟩
                          have e1' : lo1 H low ((xs1.length : Int) - 1) (.ref t) = (wh (i1 + 2) ((xs1.length : Int) - 1) la && wh 0 1 h) := e1
                          cases w2 : wh (i1 + 2) ((xs1.length : Int) - 1) la with
                          | false =>
                            rw [w2, Bool.false_and] at e1'
                            rw [lo_stop e1'] at ep
                            rw [← ep] at k
                            exact ⟨_, rfl, iteT ⟨_, rfl, (by show 2 ≤ sizeLine; decide), fun p hp => k _ _ (S7.trans (same_alloc hp)) ⟨p, rfl, upd_same⟩⟩⟩
                          | true =>
                            rw [w2, Bool.true_and] at e1'
                            obtain ⟨i2, rfl⟩ := wh_int w2
                            refine ⟨_, rfl, iteF ⟨_, rfl, t, _, 2, h, rfl, rfl, SqT.of ht7, rfl, h, 0, 1, rfl, th3, ?_⟩⟩
                            cases w3 : wh 0 1 h with
                            | false =>
                              rw [w3] at e1'
                              rw [lo_stop e1'] at ep
                              rw [← ep] at k
                              exact ⟨_, rfl, iteT ⟨_, rfl, (by show 2 ≤ sizeLine; decide), fun p hp => k _ _ (S7.trans (same_alloc hp)) ⟨p, rfl, upd_same⟩⟩⟩
                            | true =>
                              rw [w3] at e1'
                              rw [lo_go e1', e2] at ep
                              exact ⟨_, rfl, iteF ⟨_, rfl, t, _, 1, .int i2, rfl, rfl, SqT.of ht7, rfl, _, i2, rfl, ep, S7, T7⟩⟩
                  · rintro σ H7 ⟨v, low, rfl, ep, S7, _⟩
                    rw [List.drop_length] at ep
                    rw [← ep] at k
                    exact k H7 _ S7 rfl
        · have e : stretchesD H ((xs1.length : Int) - 1) (.ref a2) = some (.stretches, .ref a2) := by
            unfold stretchesD isl
            rw [hq2]
            show (if (decide ((xs1.length : Int) - 1 ≤ (xs2.length : Int)) && decide ((xs2.length : Int) ≤ (xs1.length : Int) - 1)) = true then _ else _) = _
            rw [if_neg]
            intro h
            rw [Bool.and_eq_true, decide_eq_true_eq, decide_eq_true_eq] at h
            omega
          rw [e] at k
          exact ifT (by rw [decide_eq_false (by simpa using hl)]; rfl) ⟨_, rfl, (by show 2 ≤ sizeLine; decide), fun p hp => k _ _ (S2.trans (same_alloc hp)) ⟨p, rfl, upd_same⟩⟩
end
end K8

set_option maxRecDepth 100000
set_option maxHeartbeats 400000
/-! the numbers from a to b - 1, as values and as data -/
namespace My
open PySem PySem.Spec PyProof.Rows L2 GxR Gd TL
theorem rgV_snoc {f i : Int} (h : f ≤ i) : rgV f (i + 1) = rgV f i ++ [.int i] := by
  unfold rgV
  rw [show (i + 1 - f).toNat = (i - f).toNat + 1 by omega, List.range_succ, List.map_append]
  congr 1
  show [V.int (f + ((i - f).toNat : Nat))] = _
  rw [show f + ((i - f).toNat : Int) = i by omega]
theorem rgV_nil {f l : Int} (h : l ≤ f) : rgV f l = [] := by
  unfold rgV
  rw [show (l - f).toNat = 0 by omega]
  rfl
/-- how far a row has come that takes just the numbers from f to l - 1 -/
def upTo (f l : Int) (i : Nat) : Int := min l (max f (i : Int))
theorem upTo_in {f l : Int} {i : Nat} (h1 : f ≤ (i : Int)) (h2 : (i : Int) < l) : rgV f (upTo f l (i + 1)) = rgV f (upTo f l i) ++ [.int (i : Nat)] := by
  have e1 : upTo f l (i + 1) = (i : Int) + 1 := by unfold upTo; push_cast; omega
  have e2 : upTo f l i = (i : Int) := by unfold upTo; omega
  rw [e1, e2]
  exact rgV_snoc h1
theorem upTo_out {f l : Int} {i : Nat} (h : ¬ (f ≤ (i : Int) ∧ (i : Int) < l)) : upTo f l (i + 1) = upTo f l i := by
  unfold upTo
  push_cast
  omega
theorem upTo_all {f l : Int} {n : Nat} (h1 : f ≤ l) (h2 : l ≤ (n : Int)) : upTo f l n = l := by unfold upTo; omega
theorem upTo_0 {f l : Int} (h1 : 0 ≤ f) : rgV f (upTo f l 0) = [] := rgV_nil (by unfold upTo; omega)
def rgD (a b : Int) : List PyData := (List.range (b - a).toNat).map fun i => PyData.int (a + (i : Nat))
theorem rg_dp {K : PySem.W.Frag} {H : Hp} (a b : Int) : DpAll K H (rgV a b) (rgD a b) := by
  unfold rgV rgD
  generalize List.range (b - a).toNat = r
  induction r with
  | nil => exact .nil
  | cons i r ih => exact .cons (.int _) ih
theorem rg_sm {a b : Int} (h0 : 0 ≤ a) (h1 : b ≤ 1000) : Sm (.list (rgD a b)) 1 ((rgD a b).length * 21) := sm_list (k := 0) (m := 20) fun d hd => by
  unfold rgD at hd
  obtain ⟨i, hi, rfl⟩ := List.mem_map.mp hd
  have := List.mem_range.mp hi
  exact sm_int (by omega)
theorem rgD_len (a b : Int) : (rgD a b).length = (b - a).toNat := by unfold rgD; rw [List.length_map, List.length_range]
theorem rgV_len (a b : Int) : (rgV a b).length = (b - a).toNat := by unfold rgV; rw [List.length_map, List.length_range]
end My

set_option maxRecDepth 100000
set_option maxHeartbeats 400000
/-! Names wiped behind a comprehension. -/
namespace My
open PySem PySem.Spec PyProof.Rows L2 GxR Gd TL
theorem wipe_set_out {σ : L2.St} {i : Nat} {x : Option V} : ∀ {vs : List Nat}, i ∉ vs → wipe (σ.set i x) vs = (wipe σ vs).set i x
  | [], _ => rfl
  | v :: vs, h => by
    simp only [List.mem_cons, not_or] at h
    show (wipe (σ.set i x) vs).set v none = ((wipe σ vs).set v none).set i x
    rw [wipe_set_out h.2, List.set_comm _ _ h.1]
theorem wipe_set {σ : L2.St} {i : Nat} {x : Option V} : ∀ {vs : List Nat}, i ∈ vs → wipe (σ.set i x) vs = wipe σ vs
  | [], h => by cases h
  | v :: vs, h => by
    show (wipe (σ.set i x) vs).set v none = (wipe σ vs).set v none
    by_cases q : i ∈ vs
    · rw [wipe_set q]
    · have e : i = v := by
        rcases List.mem_cons.mp h with e | e
        · exact e
        · exact absurd e q
      subst e
      rw [wipe_set_out q, List.set_set]
theorem wipe_wipe {σ : L2.St} : ∀ {us vs : List Nat}, (∀ u ∈ us, u ∈ vs) → wipe (wipe σ us) vs = wipe σ vs
  | [], _, _ => rfl
  | u :: us, vs, h => by
    show wipe ((wipe σ us).set u none) vs = _
    rw [wipe_set (h u (by simp)), wipe_wipe fun x hx => h x (by simp [hx])]
theorem wipe1 {σ : L2.St} {vs : List Nat} {i : Nat} {a : Option V} (hi : i ∈ vs) : wipe ((wipe σ vs).set i a) vs = wipe σ vs := by
  rw [wipe_set hi, wipe_wipe fun _ h => h]
theorem wipe2 {σ : L2.St} {vs : List Nat} {i j : Nat} {a b : Option V} (hi : i ∈ vs) (hj : j ∈ vs) : wipe (((wipe σ vs).set i a).set j b) vs = wipe σ vs := by
  rw [wipe_set hj, wipe_set hi, wipe_wipe fun _ h => h]
theorem wipe3 {σ : L2.St} {vs : List Nat} {i j k : Nat} {a b c : Option V} (hi : i ∈ vs) (hj : j ∈ vs) (hk : k ∈ vs) : wipe ((((wipe σ vs).set i a).set j b).set k c) vs = wipe σ vs := by
  rw [wipe_set hk, wipe_set hj, wipe_set hi, wipe_wipe fun _ h => h]
theorem wipe4 {σ : L2.St} {vs : List Nat} {i j k l : Nat} {a b c d : Option V} (hi : i ∈ vs) (hj : j ∈ vs) (hk : k ∈ vs) (hl : l ∈ vs) : wipe (((((wipe σ vs).set i a).set j b).set k c).set l d) vs = wipe σ vs := by
  rw [wipe_set hl, wipe_set hk, wipe_set hj, wipe_set hi, wipe_wipe fun _ h => h]
end My

set_option maxRecDepth 100000
set_option maxHeartbeats 400000
namespace K8
open PySem PySem.Spec PyProof.Rows L2 GxR Gd TL My
theorem hide_put1 {L : Addr} {H : Hp} {o : HO} : Nt (hide L H) (hide L (upd H L o)) := fun c u _ h => by
  obtain ⟨q, h⟩ := hide_some h
  rw [hide_ne q, upd_ne q]
  exact h
theorem longs_le {top : Int} : ∀ {low : Int} {lo : List (Int × Int × Int)}, longsOk top low lo → ∀ p ∈ lo, low ≤ p.1 ∧ p.1 + 2 ≤ p.2.1 ∧ p.2.1 ≤ top ∧ 0 ≤ p.2.2 ∧ p.2.2 ≤ 1
  | _, [], _, p, hp => by cases hp
  | low, (f, l, h) :: r, ⟨a, b, c, d, e, q⟩, p, hp => by
    rcases List.mem_cons.mp hp with rfl | hp
    · exact ⟨a, b, c, d, e⟩
    · obtain ⟨x1, x2⟩ := longs_le q p hp
      exact ⟨by omega, x2⟩
theorem length_app (a b : Str) : (a ++ b).length = a.length + b.length := by rw [← tl_len, tl_append, List.length_append, tl_len, tl_len]
theorem ixT {X : Cx} {K : PySem.W.Frag} (h : X.K = K) : IxR X (rIxT K) := h ▸ ix_tup
theorem bx_ne {b c : Addr} {n : Int} {H : Hp} {o : HO} (bx : Bx b n H) (h : H c = some o) (m : ∀ xs, o ≠ .lst xs) : c ≠ b := fun e => by
  obtain ⟨_, _, _, q, _⟩ := bx
  rw [e, q] at h
  exact m _ (Option.some.inj h).symm
theorem tupOfK {X : Cx} {K : PySem.W.Frag} (h : X.K = K) : CallR X (.type "tuple") (fun xs H Q => ∃ p ys, xs = [V.ref p] ∧ ((SqL K H p ys ∧ ∀ l, H l = none → Q (.ref l) (upd H l (.tup ys))) ∨ (SqT K H p ys ∧ Q (.ref p) H))) := h ▸ call_tuple_of
theorem three_line : 3 ≤ sizeLine := by decide
theorem home01 {h : Int} (h0 : 0 ≤ h) (h1 : h ≤ 1) : (if decide (V.int h = V.int 0) = true then (1 : Int) else 0) = 1 - h := by
  by_cases e : h = 0
  · subst e; rfl
  · rw [decide_eq_false (fun q => e (V.int.inj q))]
    have : h = 1 := by omega
    subst this; rfl
theorem rev_at {α : Type} {xs : List α} {i : Nat} {x : α} (h : i < xs.length) (e : xs[xs.length - 1 - i]? = some x) : xs.reverse[i]? = some x := by
  rw [List.getElem?_reverse h]
  exact e
theorem long01 {wd : Wd} (ok : wd.Ok) {p : Int × Int × Int} (h : p ∈ wd.lo) : 0 ≤ p.2.2 ∧ p.2.2 ≤ 1 := by
  obtain ⟨_, _, _, a, b⟩ := longs_le ok.lo p h
  exact ⟨a, b⟩
theorem two_line : 2 ≤ sizeLine := by decide
theorem one_line : 1 ≤ sizeLine := by decide
theorem drop_atG {α : Type} {xs : List α} {i : Nat} {x : α} (h : xs[i]? = some x) : xs.drop i = x :: xs.drop (i + 1) := by
  obtain ⟨hi, e⟩ := List.getElem?_eq_some_iff.mp h
  rw [← e]
  exact List.drop_eq_getElem_cons hi
theorem wipe_length {σ : L2.St} : ∀ vs : List Nat, (wipe σ vs).length = σ.length
  | [] => rfl
  | v :: r => by
    show ((wipe σ r).set v none).length = _
    rw [List.length_set, wipe_length r]
theorem strs_dp {K : PySem.W.Frag} {H : Hp} : ∀ l : List Str, DpAll K H (l.map V.str) (l.map PyData.str)
  | [] => .nil
  | z :: r => .cons (.str z) (strs_dp r)
theorem pair_at {K : PySem.W.Frag} {H : Hp} {xs : List V} {ps : List (Str × Int)} (h : DpAll K H xs (ps.map dP)) {i : Nat} {p : Str × Int} (e : ps[i]? = some p) : ∃ t, xs[i]? = some (.ref t) ∧ SqT K H t [.str p.1, .int p.2] := by
  obtain ⟨x, h1, h2⟩ := dpAll_at h (i := i) (d := dP p) (by rw [List.getElem?_map, e]; rfl)
  obtain ⟨t, y1, y2, rfl, ht, q1, q2⟩ := dp_two h2
  obtain rfl := dp_str q1
  obtain rfl := dp_int q2
  exact ⟨t, h1, ht⟩
theorem lf_places (p1 p2 p3 d : Addr) : (lf p1 p2 p3 d).lookup (Str.ofString "_places") = some (V.ref p1) := by rw [lf_get, if_neg (by decide +kernel), if_neg (by decide +kernel), if_neg (by decide +kernel), if_pos rfl]
theorem lf_stretches (p1 p2 p3 d : Addr) : (lf p1 p2 p3 d).lookup (Str.ofString "_stretches") = some (V.ref p2) := by rw [lf_get, if_neg (by decide +kernel), if_neg (by decide +kernel), if_pos rfl]
/-! ### rows of a line as texts -/
theorem tl_inj1 {a b : Str} (h : tl a = tl b) : a = b := by
  have := map_tl_inj (l := [a]) (m := [b]) (by simp [h])
  exact (List.cons.inj this).1
def numS (r : Int) : Str := Str.ofString (toString r)
def sideS (h : Int) : Str := if h = 0 then Str.ofString "low" else Str.ofString "high"
def nameAt (ps : List (Str × Int)) (i : Int) : Str := ((ps[i.toNat]?).map (·.1)).getD Str.empty
def wP (p : Str × Int) : List Str := [Str.ofString "place", p.1, numS p.2]
def wS (p : Str × Int) : List Str := [Str.ofString "stretch", p.1, sideS p.2]
def wL (ps : List (Str × Int)) (p : Int × Int × Int) : List Str := [Str.ofString "long", nameAt ps p.1, nameAt ps p.2.1, sideS p.2.2]
def rowW (l : List Str) : Str := PySem.Txt.join (Str.ofString " ") l
def rowsW (wd : Wd) : List (List Str) := wd.ps.map wP ++ wd.st.map wS ++ wd.lo.map (wL wd.ps)
def rowsT (wd : Wd) : List Str := (rowsW wd).map rowW
def textT (wd : Wd) : Str := PySem.Txt.join (Str.ofString "\n") (rowsT wd)
/-- a word: neither a blank nor the end of a row in it, and short -/
def Wrd (z : Str) : Prop := z.length ≤ 8 ∧ ∀ c ∈ tl z, c ≠ 32 ∧ c ≠ 10
theorem name_wrd {z : Str} (h : NameOk z) : Wrd z := ⟨by have := h.2.1; omega, fun c hc => by
  have := List.all_eq_true.mp h.2.2 c hc
  unfold lc at this
  simp at this
  omega⟩
theorem wrd_num {r : Int} (h1 : 1 ≤ r) (h3 : r ≤ 3) : Wrd (numS r) := by
  have : r = 1 ∨ r = 2 ∨ r = 3 := by omega
  rcases this with rfl | rfl | rfl <;> exact ⟨by decide +kernel, by decide +kernel⟩
theorem wrd_side (h : Int) : Wrd (sideS h) := by
  unfold sideS
  split <;> exact ⟨by decide +kernel, by decide +kernel⟩
theorem wrd_kind {z : Str} (h : z = "staff" ∨ z = "ticket") : Wrd z := by
  rcases h with rfl | rfl <;> exact ⟨by decide +kernel, by decide +kernel⟩
theorem wrd_lit : Wrd (Str.ofString "place") ∧ Wrd (Str.ofString "stretch") ∧ Wrd (Str.ofString "long") := by
  refine ⟨⟨?_, ?_⟩, ⟨?_, ?_⟩, ⟨?_, ?_⟩⟩ <;> decide +kernel
/-- the number of a long stretch's end, in the line -/
theorem longs_in {wd : Wd} (ok : wd.Ok) {p : Int × Int × Int} (hp : p ∈ wd.lo) : ∃ (a c : Nat) (h : Int), p = ((a : Int), (c : Int), h) ∧ a < wd.ps.length ∧ c < wd.ps.length ∧ a < c ∧ 0 ≤ h ∧ h ≤ 1 := by
  obtain ⟨f, l, h⟩ := p
  obtain ⟨h1, h2, h3, h4, h5⟩ := longs_le ok.lo _ hp
  have p2 := ok.p2
  simp only at h1 h2 h3 h4 h5
  refine ⟨f.toNat, l.toNat, h, ?_, ?_, ?_, ?_, h4, h5⟩
  · rw [Int.toNat_of_nonneg (by omega), Int.toNat_of_nonneg (by omega)]
  all_goals omega
theorem nameAt_at {ps : List (Str × Int)} {i : Nat} {p : Str × Int} (h : ps[i]? = some p) : nameAt ps (i : Int) = p.1 := by
  unfold nameAt
  rw [Int.toNat_natCast, h]
  rfl
theorem nameAt_wrd {wd : Wd} (ok : wd.Ok) {i : Nat} (h : i < wd.ps.length) : Wrd (nameAt wd.ps i) := by
  rw [nameAt_at (List.getElem?_eq_getElem h)]
  exact name_wrd (ok.nm _ (List.getElem_mem h)).1
theorem rows_wrd {wd : Wd} (ok : wd.Ok) : ∀ l ∈ rowsW wd, l ≠ [] ∧ l.length ≤ 4 ∧ ∀ z ∈ l, Wrd z := by
  obtain ⟨l1, l2, l3⟩ := wrd_lit
  intro l hl
  unfold rowsW at hl
  rcases List.mem_append.mp hl with hl | hl
  · rcases List.mem_append.mp hl with hl | hl
    · obtain ⟨p, hp, rfl⟩ := List.mem_map.mp hl
      obtain ⟨n1, n2, n3⟩ := ok.nm p hp
      refine ⟨by simp [wP], by simp [wP], fun z hz => ?_⟩
      simp only [wP, List.mem_cons, List.not_mem_nil, or_false] at hz
      rcases hz with rfl | rfl | rfl
      · exact l1
      · exact name_wrd n1
      · exact wrd_num n2 n3
    · obtain ⟨p, hp, rfl⟩ := List.mem_map.mp hl
      obtain ⟨n1, n2, n3⟩ := ok.st p hp
      refine ⟨by simp [wS], by simp [wS], fun z hz => ?_⟩
      simp only [wS, List.mem_cons, List.not_mem_nil, or_false] at hz
      rcases hz with rfl | rfl | rfl
      · exact l2
      · exact wrd_kind n1
      · exact wrd_side _
  · obtain ⟨p, hp, rfl⟩ := List.mem_map.mp hl
    obtain ⟨a, c, h, rfl, ha, hc, _, _, _⟩ := longs_in ok hp
    refine ⟨by simp [wL], by simp [wL], fun z hz => ?_⟩
    simp only [wL, List.mem_cons, List.not_mem_nil, or_false] at hz
    rcases hz with rfl | rfl | rfl | rfl
    · exact l3
    · exact nameAt_wrd ok ha
    · exact nameAt_wrd ok hc
    · exact wrd_side _
theorem joinL_mem {S : List Nat} {c : Nat} : ∀ {ps : List (List Nat)}, c ∈ joinL S ps → c ∈ S ∨ ∃ p ∈ ps, c ∈ p
  | [], h => by cases h
  | [p], h => .inr ⟨p, List.mem_singleton.mpr rfl, h⟩
  | p :: q :: r, h => by
    have h' : c ∈ p ++ (S ++ joinL S (q :: r)) := h
    rcases List.mem_append.mp h' with h | h
    · exact .inr ⟨p, List.mem_cons_self .., h⟩
    · rcases List.mem_append.mp h with h | h
      · exact .inl h
      · rcases joinL_mem h with h | ⟨z, hz, hc⟩
        · exact .inl h
        · exact .inr ⟨z, List.mem_cons_of_mem _ hz, hc⟩
theorem joinL_len {S : List Nat} {m : Nat} : ∀ {ps : List (List Nat)}, (∀ p ∈ ps, p.length ≤ m) → (joinL S ps).length ≤ ps.length * (m + S.length)
  | [], _ => by simp [joinL]
  | [p], h => by
    have := h p (List.mem_singleton.mpr rfl)
    show p.length ≤ _
    simp only [List.length_cons, List.length_nil, Nat.zero_add, Nat.one_mul]
    omega
  | p :: q :: r, h => by
    have a := h p (List.mem_cons_self ..)
    have b := joinL_len (S := S) (ps := q :: r) (m := m) fun z hz => h z (List.mem_cons_of_mem _ hz)
    show (p ++ (S ++ joinL S (q :: r))).length ≤ _
    rw [List.length_append, List.length_append, List.length_cons (a := p), Nat.add_mul, Nat.one_mul]
    omega
theorem tl_blank : tl (Str.ofString " ") = [32] := by decide +kernel
theorem tl_nl : tl (Str.ofString "\n") = [10] := by decide +kernel
theorem tl_row (l : List Str) : tl (rowW l) = joinL [32] (l.map tl) := by
  unfold rowW
  rw [join_eq, tl_join, tl_blank]
theorem row_split {l : List Str} (ne : l ≠ []) (h : ∀ z ∈ l, Wrd z) : PySem.Txt.split (rowW l) (Str.ofString " ") = l :=
  split_join (S := []) tl_blank (by decide +kernel) ne fun p hp hc => (((h p hp).2 _ hc).1) rfl
theorem row_len {l : List Str} (h4 : l.length ≤ 4) (h : ∀ z ∈ l, Wrd z) : (rowW l).length ≤ 36 := by
  rw [← tl_len, tl_row]
  have a := joinL_len (S := [32]) (ps := l.map tl) (m := 8) fun p hp => by
    obtain ⟨z, hz, rfl⟩ := List.mem_map.mp hp
    rw [tl_len]
    exact (h z hz).1
  rw [List.length_map] at a
  have : l.length * (8 + [32].length) ≤ 4 * 9 := Nat.mul_le_mul h4 (by decide)
  omega
theorem row_nl {l : List Str} (h : ∀ z ∈ l, Wrd z) : 10 ∉ tl (rowW l) := fun hc => by
  rw [tl_row] at hc
  rcases joinL_mem hc with hc | ⟨p, hp, hc⟩
  · exact absurd (List.mem_singleton.mp hc) (by decide)
  · obtain ⟨z, hz, rfl⟩ := List.mem_map.mp hp
    exact ((h z hz).2 _ hc).2 rfl
theorem rowsW_len {wd : Wd} (ok : wd.Ok) : 2 ≤ (rowsW wd).length ∧ (rowsW wd).length ≤ 14 := by
  have p2 := ok.p2
  have p6 := ok.p6
  have sl := ok.sl
  have ll := ok.ll
  unfold rowsW
  rw [List.length_append, List.length_append, List.length_map, List.length_map, List.length_map]
  omega
theorem rowsT_len (wd : Wd) : (rowsT wd).length = (rowsW wd).length := List.length_map ..
theorem text_split {wd : Wd} (ok : wd.Ok) : PySem.Txt.split (textT wd) (Str.ofString "\n") = rowsT wd :=
  split_join (S := []) tl_nl (by decide +kernel) (fun e => by have := (rowsW_len ok).1; rw [← rowsT_len, e] at this; simp at this) fun p hp => by
    obtain ⟨l, hl, rfl⟩ := List.mem_map.mp hp
    exact row_nl (rows_wrd ok l hl).2.2
theorem rowsT_row {wd : Wd} (ok : wd.Ok) : ∀ z ∈ rowsT wd, z.length ≤ 36 := fun z hz => by
  obtain ⟨l, hl, rfl⟩ := List.mem_map.mp hz
  exact row_len (rows_wrd ok l hl).2.1 (rows_wrd ok l hl).2.2
theorem text_len {wd : Wd} (ok : wd.Ok) : (textT wd).length ≤ 1000 := by
  unfold textT
  rw [← tl_len, join_eq, tl_join, tl_nl]
  have a := joinL_len (S := [10]) (ps := (rowsT wd).map tl) (m := 36) fun p hp => by
    obtain ⟨z, hz, rfl⟩ := List.mem_map.mp hp
    rw [tl_len]
    exact rowsT_row ok z hz
  rw [List.length_map, rowsT_len] at a
  have : (rowsW wd).length * (36 + [10].length) ≤ 14 * 37 := Nat.mul_le_mul (rowsW_len ok).2 (by decide)
  omega
theorem text_ne {wd : Wd} (ok : wd.Ok) : textT wd ≠ Str.empty := fun e => by
  have := text_split ok
  rw [e] at this
  have h2 : PySem.Txt.split Str.empty (Str.ofString "\n") = [Str.empty] := split_join (S := []) tl_nl (by decide +kernel) (parts := [Str.empty]) (by simp) (by decide)
  rw [h2] at this
  have := congrArg List.length this
  rw [rowsT_len] at this
  have := (rowsW_len ok).1
  simp at *
  omega
theorem sum_le {l : List Str} {m : Nat} (h : ∀ z ∈ l, z.length ≤ m) : (l.map (·.length)).sum ≤ l.length * m := by
  induction l with
  | nil => simp
  | cons a r ih =>
    have h1 := h a (List.mem_cons_self ..)
    have h2 := ih fun z hz => h z (List.mem_cons_of_mem _ hz)
    rw [List.map_cons, List.sum_cons, List.length_cons, Nat.add_mul, Nat.one_mul]
    omega
theorem rows_fit {wd : Wd} (ok : wd.Ok) : ((rowsT wd).map (·.length)).sum + (rowsT wd).length * (Str.ofString "\n").length ≤ 16777216 := by
  have a := sum_le (rowsT_row ok)
  have b := (rowsW_len ok).2
  rw [← rowsT_len] at b
  have c : (Str.ofString "\n").length = 1 := by decide +kernel
  rw [c]
  have : (rowsT wd).length * 36 ≤ 14 * 36 := Nat.mul_le_mul b (by decide)
  omega
section
variable {P : Program} {w : World} {K : PySem.W.Frag} {mg : Str → Option Value} {base : Heap}
abbrev s_told : Stmt := inClass (top 28) 17
theorem sc_told : FnScope ["self"] ["self"] (defScope s_told) := ⟨rfl, rfl, rfl, by decide +kernel, rfl, by decide +kernel, by decide +kernel⟩
def spTold (K : PySem.W.Frag) (C : Addr) : Sp := fun vs H Q _ => ∃ (x : Addr) (wd : Wd), vs = [.ref x] ∧ LineAt K C wd H x ∧ ∀ t H', Same H H' → Dp K H' (.ref t) (.tuple [.tuple (wd.ps.map dP), .tuple (wd.st.map dP), .tuple (wd.lo.map dL)]) → Q (.ref t) H'
theorem ok_told {f C : Addr} {fd : FuncData} (F : Fun K "told" "Line.told" s_told f fd) (T : Txt mg) (TC : ClsT K C) : FnOk P w K mg base CX0 1 f fd ["self"] (spTold K C) := by
  refine F.ok sc_told (fun vs H Q E h => ?_) (fun cdv A outer s H vs Q E hr h => ?_)
  · obtain ⟨x, wd, rfl, _⟩ := h
    rfl
  · obtain ⟨x, wd, rfl, ⟨dx, p1, p2, p3, d, xs1, xs2, xs3, hx, hp1, hd1, hp2, hd2, hp3, hd3, hN⟩, k⟩ := h
    refine ⟨_, pss_one (ps_ret (pe_tup (pa_cons (pe_fld (pv 0) rfl) (pa_cons (pe_fld (pv 0) rfl) (pa_cons (pe_fld (pv 0) rfl) pa_nil))))), ?_⟩
    refine ⟨_, rfl, x, C, dx, _, _, rfl, hx, TC.cl, TC.n1, lf_places _ _ _ _, _, rfl, x, C, dx, _, _, rfl, hx, TC.cl, TC.n2, lf_stretches _ _ _ _, _, rfl, x, C, dx, _, _, rfl, hx, TC.cl, TC.n3, lf_longs _ _ _ _, (by show 3 ≤ sizeLine; decide), fun t ht => ?_⟩
    have e := same_nt (same_alloc (o := .tup [.ref p1, .ref p2, .ref p3]) ht)
    exact k t _ (same_alloc ht) (.tup (SqT.of upd_same) (.cons (.tup (e.seqT hp1) (dpAll_nt e hd1)) (.cons (.tup (e.seqT hp2) (dpAll_nt e hd2)) (.cons (.tup (e.seqT hp3) (dpAll_nt e hd3)) .nil))))
end
end K8

set_option maxRecDepth 100000
set_option maxHeartbeats 400000
namespace K8
open PySem PySem.Spec PyProof.Rows L2 GxR Gd TL My
theorem rowP_cat (p : Str × Int) : Str.ofString "place " ++ p.1 ++ Str.ofString " " ++ numS p.2 = rowW (wP p) := by
  refine tl_inj1 ?_
  rw [tl_append, tl_append, tl_append, tl_row, show tl (Str.ofString "place ") = tl (Str.ofString "place") ++ [32] by decide +kernel, tl_blank]
  simp [wP, joinL]
theorem rowS_cat (p : Str × Int) : Str.ofString "stretch " ++ p.1 ++ Str.ofString " " ++ sideS p.2 = rowW (wS p) := by
  refine tl_inj1 ?_
  rw [tl_append, tl_append, tl_append, tl_row, show tl (Str.ofString "stretch ") = tl (Str.ofString "stretch") ++ [32] by decide +kernel, tl_blank]
  simp [wS, joinL]
theorem rowL_cat (ps : List (Str × Int)) (p : Int × Int × Int) : Str.ofString "long " ++ nameAt ps p.1 ++ Str.ofString " " ++ nameAt ps p.2.1 ++ Str.ofString " " ++ sideS p.2.2 = rowW (wL ps p) := by
  refine tl_inj1 ?_
  rw [tl_append, tl_append, tl_append, tl_append, tl_append, tl_row, show tl (Str.ofString "long ") = tl (Str.ofString "long") ++ [32] by decide +kernel, tl_blank]
  simp [wL, joinL]
theorem empty_app (a : Str) : Str.empty ++ a = a := tl_inj1 (by rw [tl_append]; rfl)
theorem side_at {h : Int} (h0 : 0 ≤ h) (h1 : h ≤ 1) : atI [V.str (Str.ofString "low"), V.str (Str.ofString "high")] h = some (.str (sideS h)) := by
  have : h = 0 ∨ h = 1 := by omega
  rcases this with rfl | rfl <;> rfl
theorem pe_joinK {X : Cx} {K : PySem.W.Frag} {o e : Expr} {to te : TE} (h : X.K = K) {apos pos : Pos} (ho : PE X o to) (he : PE X e te) (hs : starEach [e] X.env = [(false, eval e X.env)] := by rfl) (hbase : attributeBase o "join" X.env (eval o X.env) = eval o X.env := by rfl) (hline : (apos.endLine == pos.line) = true := by rfl) :
    PE X (.Call (.Attribute o "join" apos) [e] [] pos) (tM1 (fun x xs H Q => ∃ a p, ∃ ys : List Str, x = .str a ∧ xs = [.ref p] ∧ (SqL K H p (ys.map V.str) ∨ SqT K H p (ys.map V.str)) ∧ (ys.map (·.length)).sum + ys.length * a.length ≤ 16777216 ∧ Q (.str (PySem.Txt.join a ys)) H) to te) :=
  h ▸ pe_join ho he hs hbase hline
theorem KB.same {D : Addr} {H H' : Hp} (n : H D = none) (k : KB D H H') : Same H H' := fun c o h => k c o (ne_of_none h n) h
theorem same_none {H H' : Hp} {t : Addr} (s : Same H H') (h : H' t = none) : H t = none := by
  cases e : H t with
  | none => rfl
  | some o => rw [s _ _ e] at h; cases h
theorem fit {n : Nat} (h : n ≤ 1000) : n ≤ sizeLine := small_line (by omega)
theorem len_place : (Str.ofString "place ").length = 6 := by decide +kernel
theorem len_stretch : (Str.ofString "stretch ").length = 8 := by decide +kernel
theorem len_long : (Str.ofString "long ").length = 5 := by decide +kernel
theorem len_blank : (Str.ofString " ").length = 1 := by decide +kernel
theorem log_small {r : Int} (h1 : 1 ≤ r) (h3 : r ≤ 3) : r.natAbs.log2 < 1920 := by
  have : r = 1 ∨ r = 2 ∨ r = 3 := by omega
  rcases this with rfl | rfl | rfl <;> decide +kernel
/-- a comprehension that makes texts, by any walk over values -/
theorem strs_it {J : It} {G : Hp → Prop} {xs : List V} {out : List Str} (w : Walk J xs.length G (YAt xs)) {g : TG} {te : TE} {vs : List Nat} {σ : L2.St} {H : Hp} {D : Addr} {Qd : Hp → Prop} (hl : out.length = xs.length) (h20 : out.length ≤ 100) (hD : H D = none)
    (hG : ∀ H', KB D H H' → G H')
    (hs : ∀ (i : Nat) (v : V) (H' : Hp) (C : VK) (B : Hp → Prop), xs[i]? = some v → KB D H H' → (∀ z H4, out[i]? = some z → Same H' H4 → C (.str z) H4) → g v (wipe σ vs) H' fun σ2 H2 => wipe σ2 vs = wipe σ vs ∧ tYes σ2 H2 fun b H3 => if b = true then te σ2 H3 C else B H3)
    (hd : ∀ H', KB D H H' → H' D = some (.lst (out.map V.str)) → Qd H') :
    ∃ W : Nat → Nat → Hp → Prop, (∃ m, W 0 m (upd H D (.lst []))) ∧ ∀ i m H, W i m H →
    (J.stop i H ∧ Qd H) ∨ (J.go i H ∧ ∃ Nx : Hp → Prop, (∀ H', Nx H' → ∃ m', m' < m ∧ W (i + 1) m' H') ∧ ∀ x H', J.yld i H x H' → g x (wipe σ vs) H' fun σ2 H2 => wipe σ2 vs = wipe σ vs ∧ tYes σ2 H2 fun b H3 =>
      if b = true then te σ2 H3 fun y H4 => ∃ acc, H4 D = some (.lst acc) ∧ acc.length < sizeLine ∧ Nx (upd H4 D (.lst (acc ++ [y]))) else Nx H3) := by
  refine lc_it w (fun i H' => KB D H H' ∧ H' D = some (.lst ((out.take i).map V.str))) ⟨KB.alloc hD, upd_same⟩ (fun i H' _ h => hG H' h.1) ?_ ?_
  · rintro i v H' H'' hi ⟨kb, e⟩ ⟨rfl, hv⟩
    refine hs i v H'' _ _ hv kb fun z H4 hz s => ⟨_, s _ _ e, ?_, fun c o n h => by rw [upd_ne n]; exact s _ _ (kb c o n h), ?_⟩
    · rw [List.length_map, List.length_take]
      exact lt_line _ (by omega)
    · rw [take_at hz, List.map_append]
      exact upd_same
  · rintro H' ⟨kb, e⟩
    rw [← hl, List.take_of_length_le (Nat.le_refl _)] at e
    exact hd H' kb e
section
variable {P : Program} {w : World} {K : PySem.W.Frag} {mg : Str → Option Value} {base : Heap}
abbrev s_law_rows : Stmt := top 52
theorem sc_law_rows : FnScope ["_law_world_here", "_law_places", "_law_stretches", "_law_longs", "_law_names_here", "_law_rows_here", "_law_name", "_law_roads", "_law_kind", "_law_home", "_law_low", "_law_high"] ["_law_world_here"] (defScope s_law_rows) := ⟨rfl, rfl, rfl, by decide +kernel, rfl, by decide +kernel, by decide +kernel⟩
def spLawRows (K : PySem.W.Frag) : Sp := fun vs H Q _ => ∃ (v : V) (wd : Wd), vs = [v] ∧ Dp K H v wd.data ∧ wd.Ok ∧ ∀ t H', H t = none → Same H H' → H' t = some (.lst ((rowsT wd).map V.str)) → Q (.ref t) H'
theorem ok_law_rows {f : Addr} {fd : FuncData} (F : Fun K "_law_rows" "_law_rows" s_law_rows f fd) (T : Txt mg) : FnOk P w K mg base CX0 1 f fd ["_law_world_here"] (spLawRows K) := by
  refine F.ok sc_law_rows (fun vs H Q E h => ?_) (fun cdv A outer s H vs Q E hr h => ?_)
  · obtain ⟨v, wd, rfl, _⟩ := h
    rfl
  · obtain ⟨v, wd, rfl, hD, ok, k⟩ := h
    obtain ⟨wa, vp, vs_, vl, vu, rfl, hw, hp, hs, hl, hu⟩ := dp_four hD
    obtain ⟨ap, xp, rfl, hap, dap⟩ := dp_list hp
    obtain ⟨as_, xs, rfl, has, das⟩ := dp_list hs
    obtain ⟨al, xl, rfl, hal, dal⟩ := dp_list hl
    have p6 := ok.p6
    have sl := ok.sl
    have ll := ok.ll
    refine ⟨_, pss_cons (ps_asg (pe_slice sl_list (pv 0) po_none (po_some pe_int)) (pg_unl (by rfl) (pgs_cons (pg_name (i := 1) sc_law_rows.nd rfl (Or.inl rfl)) (pgs_cons (pg_name (i := 2) sc_law_rows.nd rfl (Or.inl rfl)) (pgs_cons (pg_name (i := 3) sc_law_rows.nd rfl (Or.inl rfl)) pgs_nil)))))
      (pss_cons (ps_set (i := 4) sc_law_rows.nd rfl (Or.inr rfl) (pe_lc (own := [("_law_name", 6), ("_law_roads", 7)]) (g := gTup K 2 (gCons (gName 6) (gCons (gName 7) gNil))) (tt := tYes) rfl sc_law_rows.nd (pi_list (pv 1)) (blkOk_by (own := [("_law_name", 6), ("_law_roads", 7)]) (N := ["_law_world_here", "_law_places", "_law_stretches", "_law_longs", "_law_names_here", "_law_rows_here", "_law_name", "_law_roads", "_law_kind", "_law_home", "_law_low", "_law_high"]) (sc := defScope s_law_rows) (by decide +kernel)) (fun _ _ _ _ _ => (pg_tup (by rfl) (pgs_cons (pg_name (i := 6) sc_law_rows.nd rfl (Or.inl rfl)) (pgs_cons (pg_name (i := 7) sc_law_rows.nd rfl (Or.inl rfl)) pgs_nil)))) (fun _ _ _ _ _ => pts_nil) (fun _ _ _ _ _ => (pv 6))))
      (pss_cons (ps_setLc (i := 5) (own := [("_law_name", 6), ("_law_roads", 7)]) (g := gTup K 2 (gCons (gName 6) (gCons (gName 7) gNil))) (tt := tYes) rfl sc_law_rows.nd rfl rfl (sw_true rfl rfl rfl (by decide +kernel)) (pi_list (pv 1)) (blkOk_by (own := [("_law_name", 6), ("_law_roads", 7)]) (N := ["_law_world_here", "_law_places", "_law_stretches", "_law_longs", "_law_names_here", "_law_rows_here", "_law_name", "_law_roads", "_law_kind", "_law_home", "_law_low", "_law_high"]) (sc := defScope s_law_rows) (by decide +kernel)) (fun _ _ _ _ _ => (pg_tup (by rfl) (pgs_cons (pg_name (i := 6) sc_law_rows.nd rfl (Or.inl rfl)) (pgs_cons (pg_name (i := 7) sc_law_rows.nd rfl (Or.inl rfl)) pgs_nil)))) (fun _ _ _ _ _ => pts_nil) (fun _ _ _ _ _ => (pe_op op_add_str (pe_op op_add_str (pe_op op_add_str pe_str (pv 6)) pe_str) (pe_callTy call_str_int (by rfl) T.str_ (by decide +kernel) (pa_cons (pv 7) pa_nil)))))
      (pss_cons (ps_set (i := 5) sc_law_rows.nd rfl (Or.inl rfl) (pe_op op_cat (pv 5) (pe_lc (own := [("_law_kind", 8), ("_law_home", 9)]) (g := gTup K 2 (gCons (gName 8) (gCons (gName 9) gNil))) (tt := tYes) rfl sc_law_rows.nd (pi_list (pv 2)) (blkOk_by (own := [("_law_kind", 8), ("_law_home", 9)]) (N := ["_law_world_here", "_law_places", "_law_stretches", "_law_longs", "_law_names_here", "_law_rows_here", "_law_name", "_law_roads", "_law_kind", "_law_home", "_law_low", "_law_high"]) (sc := defScope s_law_rows) (by decide +kernel)) (fun _ _ _ _ _ => (pg_tup (by rfl) (pgs_cons (pg_name (i := 8) sc_law_rows.nd rfl (Or.inl rfl)) (pgs_cons (pg_name (i := 9) sc_law_rows.nd rfl (Or.inl rfl)) pgs_nil)))) (fun _ _ _ _ _ => pts_nil) (fun _ _ _ _ _ => (pe_op op_add_str (pe_op op_add_str (pe_op op_add_str pe_str (pv 8)) pe_str) (pe_ix (ixL (K := K) rfl) (pe_lst (pa_cons pe_str (pa_cons pe_str pa_nil))) (pv 9) (fun _ _ => rfl)))))))
      (pss_one (ps_ret (pe_op op_cat (pv 5) (pe_lc (own := [("_law_low", 10), ("_law_high", 11), ("_law_home", 9)]) (g := gTup K 3 (gCons (gName 10) (gCons (gName 11) (gCons (gName 9) gNil)))) (tt := tYes) rfl sc_law_rows.nd (pi_list (pv 3)) (blkOk_by (own := [("_law_low", 10), ("_law_high", 11), ("_law_home", 9)]) (N := ["_law_world_here", "_law_places", "_law_stretches", "_law_longs", "_law_names_here", "_law_rows_here", "_law_name", "_law_roads", "_law_kind", "_law_home", "_law_low", "_law_high"]) (sc := defScope s_law_rows) (by decide +kernel)) (fun _ _ _ _ _ => (pg_tup (by rfl) (pgs_cons (pg_name (i := 10) sc_law_rows.nd rfl (Or.inl rfl)) (pgs_cons (pg_name (i := 11) sc_law_rows.nd rfl (Or.inl rfl)) (pgs_cons (pg_name (i := 9) sc_law_rows.nd rfl (Or.inl rfl)) pgs_nil))))) (fun _ _ _ _ _ => pts_nil) (fun _ _ _ _ _ => (pe_joinK (K := K) rfl pe_str (pe_lst (pa_cons pe_str (pa_cons (pe_ix (ixL (K := K) rfl) (pv 4) (pv 10) (fun _ _ => rfl)) (pa_cons (pe_ix (ixL (K := K) rfl) (pv 4) (pv 11) (fun _ _ => rfl)) (pa_cons (pe_ix (ixL (K := K) rfl) (pe_lst (pa_cons pe_str (pa_cons pe_str pa_nil))) (pv 9) (fun _ _ => rfl)) pa_nil)))))))))))))), ?_⟩
    generalize hσ : L2.start _ _ = σ0
    obtain rfl : σ0 = [some (.ref wa), none, none, none, none, none, none, none, none, none, none, none] := hσ.symm.trans rfl
    simp only [List.set_cons_succ, List.set_cons_zero]
    have lp : xp.length = wd.ps.length := by rw [dpAll_len dap, List.length_map]
    have ls : xs.length = wd.st.length := by rw [dpAll_len das, List.length_map]
    have lL : xl.length = wd.lo.length := by rw [dpAll_len dal, List.length_map]
    refine ⟨_, rfl, 3, rfl, wa, _, rfl, hw, fun pn hpn => ?_⟩
    have s1 : Same H (upd H pn (.lst (cutV [V.ref ap, .ref as_, .ref al, vu] none (some 3)))) := same_alloc hpn
    have e1 : (upd H pn (.lst (cutV [V.ref ap, .ref as_, .ref al, vu] none (some 3)))) pn = some (.lst [.ref ap, .ref as_, .ref al]) := upd_same
    generalize upd H pn (.lst (cutV [V.ref ap, .ref as_, .ref al, vu] none (some 3))) = H1 at s1 e1 ⊢
    refine ⟨pn, _, rfl, SqL.of e1, rfl, _, _, rfl, _, _, rfl, _, _, rfl, rfl, ?_⟩
    simp only [List.set_cons_succ, List.set_cons_zero]
    have n1 := same_nt s1
    refine ⟨_, rfl, ap, rfl, ⟨_, n1.seq hap⟩, fun D hD => strs_it (walk_list (K := K) (xs := xp)) (out := wd.ps.map (·.1)) (by rw [List.length_map, lp]) (by rw [List.length_map]; omega) hD (fun H' kb => (KB.seq' hD kb).seq (n1.seq hap)) ?_ ?_⟩
    · rintro i v H' C B hv kb k
      obtain ⟨d, hd1, hd2⟩ := dpAll_get dap hv
      obtain ⟨p, hp, rfl⟩ := get_map hd1
      obtain ⟨t, y1, y2, rfl, ht, r1, r2⟩ := dp_two hd2
      obtain rfl := dp_str r1
      obtain rfl := dp_int r2
      refine ⟨t, _, rfl, (KB.seq' hD kb).seqT (n1.seqT ht), rfl, _, _, rfl, _, _, rfl, rfl, wipe2 (by simp) (by simp), lcY ⟨_, rfl, k p.1 _ ?_ (Same.refl _)⟩⟩
      rw [List.getElem?_map, hp]
      rfl
    · intro H2 kb eN
      have s2 := s1.trans (KB.same hD kb)
      clear kb s1 e1 n1
      have n2 := same_nt s2
      simp only [List.set_cons_succ, List.set_cons_zero]
      refine ⟨_, rfl, ap, rfl, ⟨_, n2.seq hap⟩, fun D2 hD2 => strs_it (walk_list (K := K) (xs := xp)) (out := (wd.ps.map wP).map rowW) (by rw [List.length_map, List.length_map, lp]) (by rw [List.length_map, List.length_map]; omega) hD2 (fun H' kb => (KB.seq' hD2 kb).seq (n2.seq hap)) ?_ ?_⟩
      · rintro i v H' C B hv kb k
        obtain ⟨d, hd1, hd2⟩ := dpAll_get dap hv
        obtain ⟨p, hp, rfl⟩ := get_map hd1
        obtain ⟨t, y1, y2, rfl, ht, r1, r2⟩ := dp_two hd2
        obtain rfl := dp_str r1
        obtain rfl := dp_int r2
        obtain ⟨w1, w2, w3⟩ := ok.nm p (List.mem_of_getElem? hp)
        have a1 := (name_wrd w1).1
        have a2 := (wrd_num w2 w3).1
        refine ⟨t, _, rfl, (KB.seq' hD2 kb).seqT (n2.seqT ht), rfl, _, _, rfl, _, _, rfl, rfl, wipe2 (by simp) (by simp), lcY ?_⟩
        refine ⟨_, rfl, _, _, rfl, rfl, fit (by rw [len_place]; omega), _, _, rfl, rfl, fit (by rw [length_app, len_place, len_blank]; omega), _, rfl, _, rfl, log_small w2 w3, _, _, rfl, rfl, fit (by rw [length_app, length_app, len_place, len_blank]; show _ + (numS p.2).length ≤ 1000; omega), k _ _ ?_ (Same.refl _)⟩
        rw [List.getElem?_map, List.getElem?_map, hp]
        exact congrArg some (rowP_cat p).symm
      · intro H3 kb eR
        have s3 := s2.trans (KB.same hD2 kb)
        have eN3 := KB.same hD2 kb _ _ eN
        clear kb s2 n2 eN
        have n3 := same_nt s3
        simp only [List.set_cons_succ, List.set_cons_zero]
        refine ⟨_, rfl, _, rfl, as_, rfl, ⟨_, n3.seq has⟩, fun D3 hD3 => strs_it (walk_list (K := K) (xs := xs)) (out := (wd.st.map wS).map rowW) (by rw [List.length_map, List.length_map, ls]) (by rw [List.length_map, List.length_map]; omega) hD3 (fun H' kb => (KB.seq' hD3 kb).seq (n3.seq has)) ?_ ?_⟩
        · rintro i v H' C B hv kb k
          obtain ⟨d, hd1, hd2⟩ := dpAll_get das hv
          obtain ⟨p, hp, rfl⟩ := get_map hd1
          obtain ⟨t, y1, y2, rfl, ht, r1, r2⟩ := dp_two hd2
          obtain rfl := dp_str r1
          obtain rfl := dp_int r2
          obtain ⟨w1, w2, w3⟩ := ok.st p (List.mem_of_getElem? hp)
          have a1 := (wrd_kind w1).1
          have a2 := (wrd_side p.2).1
          refine ⟨t, _, rfl, (KB.seq' hD3 kb).seqT (n3.seqT ht), rfl, _, _, rfl, _, _, rfl, rfl, wipe2 (by simp) (by simp), lcY ?_⟩
          refine ⟨_, rfl, _, _, rfl, rfl, fit (by rw [len_stretch]; omega), _, _, rfl, rfl, fit (by rw [length_app, len_stretch, len_blank]; omega), two_line, fun q hq => ?_⟩
          refine ⟨_, rfl, q, _, p.2, _, rfl, rfl, SqL.of upd_same, side_at w2 w3, _, _, rfl, rfl, fit (by rw [length_app, length_app, len_stretch, len_blank]; omega), k _ _ ?_ (same_alloc hq)⟩
          rw [List.getElem?_map, List.getElem?_map, hp]
          exact congrArg some (rowS_cat p).symm
        · intro H4 kb eS
          have s4 := s3.trans (KB.same hD3 kb)
          have eN4 := KB.same hD3 kb _ _ eN3
          have eR4 := KB.same hD3 kb _ _ eR
          clear kb s3 n3 eN3 eR
          refine ⟨_, _, _, _, rfl, rfl, eR4, eS, fit (by simp only [List.length_map]; omega), fun p5 hp5 => ?_⟩
          rw [← List.map_append]
          have s5 := s4.trans (same_alloc (o := .lst (((wd.ps.map wP).map rowW ++ (wd.st.map wS).map rowW).map V.str)) hp5)
          have eN5 := same_alloc (o := .lst (((wd.ps.map wP).map rowW ++ (wd.st.map wS).map rowW).map V.str)) hp5 _ _ eN4
          have eT : (upd H4 p5 (.lst (((wd.ps.map wP).map rowW ++ (wd.st.map wS).map rowW).map V.str))) p5 = _ := upd_same
          generalize upd H4 p5 (.lst (((wd.ps.map wP).map rowW ++ (wd.st.map wS).map rowW).map V.str)) = H5 at s5 eN5 eT ⊢
          have n5 := same_nt s5
          simp only [List.set_cons_succ, List.set_cons_zero]
          refine ⟨_, rfl, _, rfl, al, rfl, ⟨_, n5.seq hal⟩, fun D6 hD6 => strs_it (walk_list (K := K) (xs := xl)) (out := (wd.lo.map (wL wd.ps)).map rowW) (by rw [List.length_map, List.length_map, lL]) (by rw [List.length_map, List.length_map]; omega) hD6 (fun H' kb => (KB.seq' hD6 kb).seq (n5.seq hal)) ?_ ?_⟩
          · rintro i v H' C B hv kb k
            obtain ⟨d, hd1, hd2⟩ := dpAll_get dal hv
            obtain ⟨p, hp, rfl⟩ := get_map hd1
            obtain ⟨t, y1, y2, y3, rfl, ht, r1, r2, r3⟩ := dp_three hd2
            obtain rfl := dp_int r1
            obtain rfl := dp_int r2
            obtain rfl := dp_int r3
            obtain ⟨a, c, h, rfl, ha, hc, _, h0, h1⟩ := longs_in ok (List.mem_of_getElem? hp)
            have wa1 := (nameAt_wrd ok ha).1
            have wc1 := (nameAt_wrd ok hc).1
            have a2 := (wrd_side h).1
            have sD := KB.same hD6 kb
            have nth : ∀ {i : Nat}, i < wd.ps.length → atI (((wd.ps.map (·.1)).map V.str)) (i : Int) = some (.str (nameAt wd.ps i)) := fun {i} hi => by
              refine atI_nat ?_
              rw [List.getElem?_map, List.getElem?_map, nameAt_at (List.getElem?_eq_getElem hi), List.getElem?_eq_getElem hi]
              rfl
            refine ⟨t, _, rfl, (KB.seq' hD6 kb).seqT (n5.seqT ht), rfl, _, _, rfl, _, _, rfl, _, _, rfl, rfl, wipe3 (by simp) (by simp) (by simp), lcY ?_⟩
            refine ⟨⟨_, rfl⟩, _, rfl, _, rfl, D, _, a, _, rfl, rfl, SqL.of (sD _ _ eN5), nth ha, _, rfl, _, rfl, D, _, c, _, rfl, rfl, SqL.of (sD _ _ eN5), nth hc, two_line, fun q hq => ?_⟩
            refine ⟨_, rfl, q, _, h, _, rfl, rfl, SqL.of upd_same, side_at h0 h1, fit (by simp), fun q2 hq2 => ?_⟩
            refine ⟨_, q2, wL wd.ps (a, c, h), rfl, rfl, .inl (SqL.of upd_same), ?_, k _ _ ?_ ((same_alloc hq).trans (same_alloc hq2))⟩
            · have e4 : (Str.ofString "long").length = 4 := by decide +kernel
              simp only [wL, List.map_cons, List.map_nil, List.sum_cons, List.sum_nil, List.length_cons, List.length_nil, e4, len_blank]
              omega
            · rw [List.getElem?_map, List.getElem?_map, hp]
              rfl
          · intro H7 kb eL
            have s7 := s5.trans (KB.same hD6 kb)
            have e7 := KB.same hD6 kb _ _ eT
            refine ⟨_, _, _, _, rfl, rfl, e7, eL, fit (by simp only [List.length_map, List.length_append]; omega), fun t ht => k t _ (same_none s7 ht) (s7.trans (same_alloc ht)) ?_⟩
            rw [upd_same]
            unfold rowsT rowsW
            simp only [List.map_append]
end
end K8

set_option maxRecDepth 100000
set_option maxHeartbeats 4000000
/-! enumerate(a list, start=k) -/
namespace My
open PySem PySem.Spec PyProof.Rows L2
theorem callWith_typeK {M : Model} {A : Around} {E : Value → Shared → Prop} {s : Shared} {pos : Pos} {T : String} {first : List Value} {args : List (Bool × Sem Value)} {keywords : List (Option Str × Sem Value)} {Q : Value → Shared → Prop}
    (hplain : args.any (·.1) = false) (hkw : keywords.any (·.1.isNone) = false)
    (h : wpAny M A (evalArgs (.type T) true args keywords) (fun a s₁ => wpAny M A (call (.type T) (first ++ a.pos) a.kw) Q E s₁) E s) :
    wpAny M A (callWith pos (.type T) first args keywords) Q E s := by
  unfold callWith
  refine wpAny_bind (wpAny_holding (wpAny_mono h (fun a s₁ h₁ => wpAny_bind (wpAny_standAt ?_)) fun _ _ x => x))
  simp only [hplain, hkw, Bool.or_false]
  refine wpAny_bind (wpAny_pure ?_)
  exact wpAny_bind (wpAny_mono h₁ (fun r s₂ hr => wpAny_bind (wpAny_holding (wpAny_point (wpAny_pure hr)))) fun _ _ x => x)
theorem callWith_typeKw {M : Model} {A : Around} {E : Value → Shared → Prop} {s : Shared} {env : Env} {pos : Pos} {T : String} {e : Expr} {rest : List Expr} {kws : List Keyword} {Q : Value → Shared → Prop}
    (h : wpAny M A (spliced (backTo pos (starEach (e :: rest) env))) (fun vs s₁ => wpAny M A (evalAll ((backToKw pos (keywordEach kws env)).map (·.2)))
      (fun kvs s₂ => wpAny M A (call (.type T) vs (((backToKw pos (keywordEach kws env)).filterMap (·.1)).zip kvs)) Q E s₂) E s₁) E s)
    (he : backTo pos (starEach (e :: rest) env) = (false, eval e env) :: backTo pos (starEach rest env) := by rfl)
    (hplain : (backTo pos (starEach (e :: rest) env)).any (·.1) = false := by rfl)
    (hall : (backToKw pos (keywordEach kws env)).all (·.1.isSome) = true := by rfl)
    (hkw : (backToKw pos (keywordEach kws env)).any (·.1.isNone) = false := by rfl) :
    wpAny M A (callWith pos (.type T) [] (backTo pos (starEach (e :: rest) env)) (backToKw pos (keywordEach kws env))) Q E s := by
  refine callWith_typeK hplain hkw ?_
  rw [he] at h ⊢
  exact evalArgs_kwB hall h
/-- the list at a, each item in a new pair with its number, counted from k0 -/
def IteS (K : PySem.W.Frag) (k0 : Int) (a : Addr) : It :=
  ⟨fun i H => ∃ (xs : List V) (x : V), SqL K H a xs ∧ xs[i]? = some x,
   fun i H v H' => ∃ T x, v = .ref T ∧ H T = none ∧ H' = upd H T (.tup [.int (k0 + (i : Nat)), x]) ∧ ∀ xs, SqL K H a xs → xs[i]? = some x,
   fun i H => ∃ xs : List V, SqL K H a xs ∧ xs.length ≤ i⟩
theorem turn_enumS {P : Program} {w : World} {K : PySem.W.Frag} {elts : List Expr} {kk : Nat} {tp : Pos} (k0 : Int) (a e it : Addr) :
    Turn P w K (.Tuple elts kk tp) (IteS K k0 a) [e, it] e (fun i h => (∃ old, IsEnum h e it (k0 + (i : Nat)) old) ∧ h.IsListIter it a i ∧ e ≠ it) := by
  have two : ∀ {b : Addr}, b ∈ [e, it] → b = e ∨ b = it := fun {b} hb => by simpa using hb
  constructor
  case mem => exact List.mem_cons_self
  case obj =>
    rintro i h ⟨⟨old, he⟩, ⟨o, ho, hc, hd⟩, hne⟩ b hb
    rcases two hb with rfl | rfl
    · exact ⟨_, he, fun v q => nomatch q⟩
    · exact ⟨o, ho, fun v q => by rw [hd] at q; cases q⟩
  case keep =>
    rintro i h h' ⟨⟨old, he⟩, ⟨o, ho, r⟩, hne⟩ k
    exact ⟨⟨old, k e List.mem_cons_self _ he⟩, ⟨o, k it (by simp) _ ho, r⟩, hne⟩
  case self =>
    rintro A i s Q E ⟨⟨_, he⟩, _⟩ hQ
    exact wpAny_pyIter_enum he hQ
  case item =>
    rintro X rfl rfl rfl hc i pins s σ H E I hf ⟨⟨old, he⟩, hit, hne⟩ ⟨xs, x, hq, hx⟩
    obtain ⟨its, rv, p, hz⟩ := I.list hq
    have pt : s.heap.IsList a its.toArray := p.isList
    obtain ⟨u, hu, ru⟩ := rv.get hx
    have hi : i < its.toArray.size := by
      have := (List.getElem?_eq_some_iff.mp hu).1
      simpa using this
    have ane : a ≠ it := by
      rintro rfl
      obtain ⟨o1, h1, h2, _⟩ := hit
      obtain ⟨o2, h3, h4, _⟩ := pt
      rw [h1] at h3
      cases h3
      rw [h2] at h4
      simp at h4
    have aee : a ≠ e := by
      rintro rfl
      obtain ⟨o2, h3, h4, _⟩ := pt
      have h1 : s.heap.get? a = some _ := he
      rw [h1] at h3
      cases h3
      simp at h4
    have le : e < s.heap.objs.size := Heap.lt_size he
    have li : it < s.heap.objs.size := by
      obtain ⟨_, q, _⟩ := hit
      exact Heap.lt_size q
    have D := Draws.list (prog := X.prog) (w := X.w) (A := X.A.in1) (show X.A.in1.handled = none from I.ok.hd hc) it a ane its.toArray
    refine wpAny_pyNext_enum_itemC D he ⟨hit, pt⟩ hi hne (fun z => ?_) fun y h' tk hy ho hst hT hsz hk => ?_
    · rcases List.mem_cons.mp z with z | z
      · exact hne z
      · exact aee (List.mem_singleton.mp z).symm
    · have ey : y = u := by
        have z : its.toArray[i]? = some u := by simpa using hu
        exact Option.some.inj (hy.symm.trans z)
      subst ey
      refine ⟨_, rfl, wpAny_letOwnedTupleGo_enum (s := { s with heap := h', toks := tk + 1 }) ho fun h2 he2 sb => ?_⟩
      have hT2 : h2.get? s.heap.objs.size = some { cls := .type "tuple", data := .seq #[.int (k0 + (i : Nat)) tk, y] } := (sb.2 _ (Nat.ne_of_gt le)).trans hT
      have new : ObjOk X.prog X.w (upd H s.heap.objs.size (.tup [.int (k0 + (i : Nat)), x])) h2 s.heap.objs.size (.tup [.int (k0 + (i : Nat)), x]) :=
        ⟨(by show 2 ≤ sizeLine; decide), [.int (k0 + (i : Nat)) tk, y], .cons ⟨_, rfl⟩ (.cons ru .nil), ⟨_, hT2, rfl, _, rfl⟩⟩
      have I1 := I.turnedNew (t' := tk + 1) (ch := [e, it]) (h' := h2) (fun b o hb q => (sb.2 b (fun z => hb (by simp [z]))).trans (hk b o (fun z => hb (by simp [z])) (fun z => hb (by simp [z])) q)) hf (Nat.le_refl _) new
      refine ⟨.ref s.heap.objs.size, _, I1, rfl, ⟨_, x, rfl, I.hok.fresh (Nat.le_refl _), rfl, fun ys hy => by rw [I.list_inj hy hq]; exact hx⟩, ⟨⟨y, ?_⟩, ?_, hne⟩, fun b hb => ?_⟩
      · have e1 : k0 + ((i + 1 : Nat) : Int) = k0 + (i : Int) + 1 := by omega
        rw [e1]
        exact he2
      · obtain ⟨o, q1, q2⟩ := hst.1
        exact ⟨o, (sb.2 it (Ne.symm hne)).trans q1, q2⟩
      · have lb : b < s.heap.objs.size := by
          rcases two hb with rfl | rfl
          · exact le
          · exact li
        rw [upd_ne (Nat.ne_of_lt lb)]
        exact (hf b hb).1
  case done =>
    rintro X rfl rfl rfl hc i pins s σ H E I hf ⟨⟨old, he⟩, hit, hne⟩ ⟨xs, hq, hx⟩
    obtain ⟨its, rv, p, hz⟩ := I.list hq
    have pt : s.heap.IsList a its.toArray := p.isList
    have ane : a ≠ it := by
      rintro rfl
      obtain ⟨o1, h1, h2, _⟩ := hit
      obtain ⟨o2, h3, h4, _⟩ := pt
      rw [h1] at h3
      cases h3
      rw [h2] at h4
      simp at h4
    obtain ⟨f0, f1, f2, f3, f4, f5⟩ := hf it (by simp)
    have hl := rv.length
    -- at the end the place is not told by Draws (it stands at any i ≥ the size): the library's end of a tuple's iterator
    have D : Draws X.prog X.w X.A.in1 it [it, a] i (fun _ _ => False) (fun j h => j = i ∧ h.IsListIter it a i ∧ h.IsList a its.toArray) := by
      constructor
      case live => rintro j h ⟨_, ⟨o, ho, _⟩, _⟩; exact ⟨o, ho⟩
      case frame => rintro j h h' ⟨ej, st1, st2⟩ hk; exact ⟨ej, st1.at fun o e => hk it (by simp) o e, st2.at fun o e => hk a (by simp) o e⟩
      case item => rintro j s Q E hj ⟨ej, _⟩ _; exact absurd hj (by omega)
      case done => rintro s Q E ⟨_, st1, st2⟩ hE; exact wpAny_nextOf_list_end (show X.A.in1.handled = none from I.ok.hd hc) st1 st2 (by simp; omega) hE
    exact wpAny_pyNext_enum_endD D he ⟨rfl, hit, pt⟩ fun h' eb => ⟨rfl, I.turned (t' := s.toks) (fun b o hb q => eb b o hb q) f0 f1 f3 f4 f5⟩
def iEnumS (K : PySem.W.Frag) (ta tk : TA) : TI := fun σ H R => ta σ H fun vs H1 => tk σ H1 fun zs H2 => ∃ a xs k0, vs = [.ref a] ∧ zs = [.int k0] ∧ -(2 ^ 63) ≤ k0 ∧ k0 < 2 ^ 63 ∧ SqL K H2 a xs ∧ R (IteS K k0 a) H2
theorem pi_enumS {X : Cx} {e ke : Expr} {ta tk : TA} {p pos tp kp : Pos} {elts : List Expr} {kk : Nat} (hg : Gl X "enumerate") (hm : X.mg "enumerate" = none) (ha : PA X [e] ta) (hk : PK X [⟨some "start", ke, kp⟩] tk)
    (he : backTo pos (starEach [e] X.env) = (false, eval e X.env) :: backTo pos (starEach [] X.env) := by rfl) (hpl : (backTo pos (starEach [e] X.env)).any (·.1) = false := by rfl) :
    PI X (.Tuple elts kk tp) (.Call (.Name "enumerate" p) [e] [⟨some "start", ke, kp⟩] pos) (iEnumS X.K ta tk) := by
  refine ⟨fun pins s σ H R I h => wpAny_Call_Name_kw (ld_blt I hg hm boot_enumerate (callWith_typeKw (thn (ha.run pos pins s σ H _ I h) ?_) he hpl))⟩
  rintro us s1 ⟨vs, H1, I1, r1, q1⟩
  refine thn (hk.run pos pins s1 σ H1 _ I1 q1) ?_
  rintro ws s2 ⟨zs, H2, I2, r2, a, xs, k0, rfl, rfl, b0, b1, hq, q⟩
  cases r1 with
  | cons r rr =>
    cases rr
    cases r
    cases r2 with
    | cons r rr =>
      cases rr
      obtain ⟨tt, rfl⟩ := r
      obtain ⟨its, rv, p, hz⟩ := I2.list hq
      have pt : s2.heap.IsList a its.toArray := p.isList
      show wpAny _ _ (call (.type "enumerate") [.ref a] [(Str.ofString "start", .int k0 tt)]) _ _ _
      refine enum_begins_start (begins_list a its.toArray) pt b0 b1 fun h' he hit hsz hk => wpAny_pyIter_enum he ?_
      have I3 : Inv X pins σ H2 { s2 with heap := h' } := I2.kept (t' := s2.toks) hk
      refine ⟨s2.heap.objs.size + 1, [s2.heap.objs.size + 1, s2.heap.objs.size], _, _, H2, rfl, I3, turn_enumS k0 a (s2.heap.objs.size + 1) s2.heap.objs.size, ⟨⟨.none, ?_⟩, ⟨_, hit, rfl, rfl⟩, Nat.succ_ne_self _⟩, fun b hb => ?_, q⟩
      · rw [show k0 + ((0 : Nat) : Int) = k0 by omega]
        exact he
      · have lb : s2.heap.objs.size ≤ b := by
          have e' : b = s2.heap.objs.size + 1 ∨ b = s2.heap.objs.size := by simpa using hb
          rcases e' with z | z
          · rw [z]; exact Nat.le_add_right _ _
          · rw [z]; exact Nat.le_refl _
        exact I2.fpOk lb (I2.hok.fresh lb)
theorem walk_enumS {K : PySem.W.Frag} {k0 : Int} {a : Addr} {xs : List V} : Walk (IteS K k0 a) xs.length (fun H => SqL K H a xs) (YPair (fun i => some (.int (k0 + (i : Nat)))) (fun i => xs[i]?)) := by
  refine ⟨fun i _ hi q => ⟨xs, xs[i], q, by simp [hi]⟩, fun _ q => ⟨xs, q, Nat.le_refl _⟩, ?_⟩
  rintro i H v H' _ q ⟨T, x, h1, h2, h3, h4⟩
  exact ⟨T, .int (k0 + (i : Nat)), x, h1, h2, h3, rfl, h4 xs q⟩
end My

set_option maxRecDepth 100000
set_option maxHeartbeats 400000
namespace K8
open PySem PySem.Spec PyProof.Rows L2 GxR Gd TL My
/-- a tuple of texts that stands in the program -/
def Cst (K : PySem.W.Frag) (a : Addr) (zs : List Str) : Prop := (∀ H : Hp, SqT K H a (zs.map V.str)) ∧ ∃ o, K.lookup a = some o ∧ o.cls = .type "tuple" ∧ o.dict = none
def sides : List Str := [Str.ofString "low", Str.ofString "high"]
def sorts : List Str := [Str.ofString "place", Str.ofString "stretch", Str.ofString "long"]
theorem len_empty : Str.empty.length = 0 := rfl
theorem kb_put {D : Addr} {H H' : Hp} {o : HO} (k : KB D H H') : KB D H (upd H' D o) := fun c u n h => by rw [upd_ne n]; exact k c u n h
theorem KB.of {D : Addr} {H H' : Hp} (s : Same H H') : KB D H H' := fun c o _ h => s c o h
/-- a call of a local name that holds one of three defs -/
def tCall3 (i : Nat) (f : Fin 3 → Addr) (sp : Fin 3 → Sp) (t : TA) : TE := fun σ H Q => ∃ j, σ[i]? = some (some (.ref (f j))) ∧ t σ H fun vs H1 => sp j vs H1 Q (fun _ _ _ => False)
theorem pe_call3 {X : Cx} {k i : Nat} {x : Str} {p pos : Pos} {e : Expr} {es : List Expr} {t : TA} {f : Fin 3 → Addr} {sp : Fin 3 → Sp} (A : ∀ j, Held X.prog X.w X.K X.mg X.base k (f j) (sp j)) (hr : Room k X.A) (hN : X.N[i]? = some x) (hv : Vis X.env.scope x) (ha : PA X (e :: es) t)
    (hdb : (x == ("__debug__" : Str)) = false := by decide) (hcd : (x == ("__classdict__" : Str)) = false := by decide)
    (he : starEach (e :: es) X.env = (false, eval e X.env) :: starEach es X.env := by rfl) (hpl : (backTo pos (starEach es X.env)).any (·.1) = false := by rfl) : PE X (.Call (.Name x p) (e :: es) [] pos) (tCall3 i f sp t) := by
  refine ⟨fun pins s σ H Q I h => ?_⟩
  obtain ⟨j, hs, ht⟩ := h
  refine (pe_callA (S := fun g => if g = f j then some (sp j) else none) (fun g sp' h => ?_) hr hN hv ha hdb hcd he hpl).run pins s σ H Q I ⟨f j, sp j, hs, if_pos rfl, ht⟩
  by_cases e : g = f j
  · subst e
    rw [if_pos rfl] at h
    obtain rfl := Option.some.inj h
    exact A j
  · rw [if_neg e] at h
    cases h
theorem fit2 {n : Nat} (h : n ≤ 1000000) : n ≤ sizeLine := small_line h
theorem len_ne {z : Str} (h : z ≠ Str.empty) : z.length ≠ 0 := fun e => h (tl_inj1 (by
  have : (tl z).length = 0 := by rw [tl_len]; exact e
  rw [List.length_eq_zero_iff.mp this]
  rfl))
def pick3 {α : Type} (a b c : α) : Fin 3 → α
  | 0 => a
  | 1 => b
  | 2 => c
/-! ### what a row says -/
inductive Row
  | P (z : Str) (d : Int) | S (z : Str) (h : Int) | L (a c : Str) (h : Int)
def srt : Row → Nat
  | .P _ _ => 0
  | .S _ _ => 1
  | .L _ _ _ => 2
def digS (z : Str) : Option Int := match z.cps.toList with
  | [c] => if 48 ≤ c ∧ c ≤ 57 then some ((c : Int) - 48) else none
  | _ => none
def sideI (z : Str) : Option Int := if z = Str.ofString "low" then some 0 else if z = Str.ofString "high" then some 1 else none
def parseP : List Str → Option Row
  | [_, a, b] => if nm (.str a) = true then (digS b).map (Row.P a) else none
  | _ => none
def parseS : List Str → Option Row
  | [_, a, b] => if a = Str.ofString "staff" ∨ a = Str.ofString "ticket" then (sideI b).map (Row.S a) else none
  | _ => none
def parseL : List Str → Option Row
  | [_, a, c, b] => if nm (.str a) = true ∧ nm (.str c) = true then (sideI b).map (Row.L a c) else none
  | _ => none
def parse : List Str → Option Row
  | [] => none
  | k :: r => if k = Str.ofString "place" then parseP (k :: r) else if k = Str.ofString "stretch" then parseS (k :: r) else if k = Str.ofString "long" then parseL (k :: r) else none
theorem side_sides (z : Str) : inV (.str z) (sides.map V.str) = (sideI z).isSome := by
  unfold sideI sides inV
  by_cases h1 : z = Str.ofString "low"
  · subst h1; decide +kernel
  · by_cases h2 : z = Str.ofString "high"
    · subst h2; decide +kernel
    · rw [if_neg h1, if_neg h2]
      simp [eqV, Ne.symm h1, Ne.symm h2]
theorem kind_in (z : Str) : inV (.str z) [.str "staff", .str "ticket"] = decide (z = Str.ofString "staff" ∨ z = Str.ofString "ticket") := by
  by_cases h1 : z = Str.ofString "staff"
  · subst h1; decide +kernel
  · by_cases h2 : z = Str.ofString "ticket"
    · subst h2; decide +kernel
    · unfold inV
      simp [eqV, h1, h2, Ne.symm h1, Ne.symm h2]
theorem dig_one {z : Str} (h : z.length ≠ 1) : digS z = none := by
  unfold digS
  have : z.cps.toList.length = z.length := by simp [Str.length]
  split
  · rename_i c e
    rw [e] at this
    exact absurd this.symm h
  · rfl
theorem dig_yes {z : Str} (h : z.length = 1) : (digS z).isSome = ((!decide (z.cps.toList < (Str.ofString "0").cps.toList)) && (!decide ((Str.ofString "9").cps.toList < z.cps.toList))) := by
  have e0 : (Str.ofString "0").cps.toList = [48] := by decide +kernel
  have e9 : (Str.ofString "9").cps.toList = [57] := by decide +kernel
  have : z.cps.toList.length = 1 := by simpa [Str.length] using h
  rw [e0, e9]
  unfold digS
  match e : z.cps.toList, this with
  | [c], _ =>
    simp only [List.cons_lt_cons_iff, List.not_lt_nil, and_false, or_false]
    by_cases q : 48 ≤ c ∧ c ≤ 57
    · rw [if_pos q]
      simp; omega
    · rw [if_neg q]
      simp; omega
end K8

set_option maxRecDepth 100000
set_option maxHeartbeats 400000
namespace K8
open PySem PySem.Spec PyProof.Rows L2 GxR Gd TL My
/-- a text that a law may ask of -/
def WOk (z : Str) : Prop := z.length ≤ 200000 ∧ Good z
theorem WOk.th {H : Hp} {z : Str} (h : WOk z) : Th H (.str z) := .str z (by have := h.1; omega) h.2
theorem WOk.line {z : Str} (h : WOk z) : z.length ≤ sizeLine := fit2 (by have := h.1; omega)
theorem len_no {l : List Str} {n : Nat} (h : l.length ≠ n) : decide (V.int (((l.map V.str).length : Nat) : Int) = V.int (n : Nat)) = false := decide_eq_false fun e => h (by
  have := V.int.inj e
  rw [List.length_map] at this
  omega)
theorem parseP_no {l : List Str} (h : l.length ≠ 3) : parseP l = none := by
  unfold parseP
  split
  · exact absurd rfl h
  · rfl
theorem parseS_no {l : List Str} (h : l.length ≠ 3) : parseS l = none := by
  unfold parseS
  split
  · exact absurd rfl h
  · rfl
theorem parseL_no {l : List Str} (h : l.length ≠ 4) : parseL l = none := by
  unfold parseL
  split
  · exact absurd rfl h
  · rfl
theorem three_of {l : List Str} (h : l.length = 3) : ∃ x y z, l = [x, y, z] := by
  match l, h with
  | [x, y, z], _ => exact ⟨x, y, z, rfl⟩
theorem four_of {l : List Str} (h : l.length = 4) : ∃ x y z u, l = [x, y, z, u] := by
  match l, h with
  | [x, y, z, u], _ => exact ⟨x, y, z, u, rfl⟩
section
variable {P : Program} {w : World} {K : PySem.W.Frag} {mg : Str → Option Value} {base : Heap} {aSIDES aSORTS : Addr}
abbrev s_is_place : Stmt := top 34
theorem sc_is_place : FnScope ["words"] ["words"] (defScope s_is_place) := ⟨rfl, rfl, rfl, by decide +kernel, rfl, by decide +kernel, by decide +kernel⟩
abbrev s_is_stretch_linetext : Stmt := top 35
theorem sc_is_stretch_linetext : FnScope ["words"] ["words"] (defScope s_is_stretch_linetext) := ⟨rfl, rfl, rfl, by decide +kernel, rfl, by decide +kernel, by decide +kernel⟩
abbrev s_is_long_linetext : Stmt := top 37
theorem sc_is_long_linetext : FnScope ["words"] ["words"] (defScope s_is_long_linetext) := ⟨rfl, rfl, rfl, by decide +kernel, rfl, by decide +kernel, by decide +kernel⟩
abbrev s_line_sort : Stmt := top 33
theorem sc_line_sort : FnScope ["row", "words", "sort", "forms", "has_form"] ["row"] (defScope s_line_sort) := ⟨rfl, rfl, rfl, by decide +kernel, rfl, by decide +kernel, by decide +kernel⟩
def spForm (K : PySem.W.Frag) (Pt : Addr) (g : List Str → Option Row) : Sp := fun vs H Q _ => ∃ (a : Addr) (l : List Str), vs = [.ref a] ∧ SqL K H a (l.map V.str) ∧ (∀ z ∈ l, WOk z) ∧ TabG H Pt ∧ ∀ H', KT Pt H H' → Q (.bl (g l).isSome) H'
theorem ok_is_place {f f1 Pt : Addr} {fd fd1 : FuncData} (F : Fun K "_is_place" "_is_place" s_is_place f fd) (T : Txt mg)
    (Nis_name : Fn K mg "is_name" sName ["thing"] f1 fd1) (Gis_name : FnOk P w K mg base CX0 2 f1 fd1 ["thing"] (spName Pt)) :
    FnOk P w K mg base CX0 3 f fd ["words"] (spForm K Pt parseP) := by
  refine F.ok sc_is_place (fun vs H Q E h => ?_) (fun cdv A outer s H vs Q E hr h => ?_)
  · obtain ⟨a, l, rfl, _⟩ := h
    rfl
  · obtain ⟨a, l, rfl, hl, wo, tb, k⟩ := h
    refine ⟨_, pss_one (ps_ret (pe_and (pe_cmpR op_eq (pe_callB call_len_seq (by rfl) T.len_ PySem.boot_len (pa_cons (pv 0) pa_nil)) pe_int (nomark _)) (pe_and (pe_call Gis_name (hr.mono (by decide)) (by rfl) Nis_name.g Nis_name.kp Nis_name.b .nil pass0 (pa_cons (pe_ix ix_list (pv 0) pe_int (fun _ _ => rfl)) pa_nil)) (pe_and (pe_cmpR op_eq (pe_callB call_len_str (by rfl) T.len_ PySem.boot_len (pa_cons (pe_ix ix_list (pv 0) pe_int (fun _ _ => rfl)) pa_nil)) pe_int (nomark _)) (pe_one (pe_chain op_le_str op_le_str pe_str (pe_ix ix_list (pv 0) pe_int (fun _ _ => rfl)) pe_str)))))), ?_⟩
    refine ⟨_, rfl, a, _, rfl, .inl hl, rfl, _, rfl, ?_⟩
    by_cases h3 : l.length = 3
    · obtain ⟨x, y, z, rfl⟩ := three_of h3
      refine iteT ?_
      refine ⟨_, rfl, a, _, 1, _, rfl, rfl, hl, rfl, _, rfl, (wo y (by simp)).th, tb, fun H1 k1 => ⟨_, rfl, ?_⟩⟩
      have hl1 := seq_kt tb k1 hl
      have q := k H1 k1
      by_cases hn : nm (.str y) = true
      · rw [hn]
        refine iteT ⟨_, rfl, a, _, 2, _, rfl, rfl, hl1, rfl, _, rfl, (wo z (by simp)).line, rfl, _, rfl, ?_⟩
        have e : parseP [x, y, z] = (digS z).map (Row.P y) := if_pos (hn)
        rw [e, Option.isSome_map] at q
        by_cases h1 : z.length = 1
        · rw [decide_eq_true (by rw [h1]; rfl)]
          refine iteT ⟨_, rfl, a, _, 2, _, rfl, rfl, hl1, rfl, _, _, rfl, rfl, _, rfl, ?_⟩
          rw [dig_yes h1] at q
          by_cases c : (!decide (z.cps.toList < (Str.ofString "0").cps.toList)) = true
          · rw [c] at q ⊢
            exact iteT ⟨_, _, rfl, rfl, q⟩
          · rw [Bool.not_eq_true] at c
            rw [c] at q ⊢
            exact iteF q
        · rw [decide_eq_false (fun e => h1 (by have := V.int.inj e; omega))]
          rw [dig_one h1] at q
          exact iteF q
      · rw [Bool.not_eq_true] at hn
        have e : parseP [x, y, z] = none := if_neg (by rw [hn]; simp)
        rw [e] at q
        rw [hn]
        exact iteF q
    · have q := k H (KT.refl tb)
      rw [parseP_no h3] at q
      have e := len_no h3
      rw [show ((3 : Nat) : Int) = 3 from rfl] at e
      rw [e]
      exact iteF q
theorem ok_is_stretch_linetext {f Pt : Addr} {fd : FuncData} (F : Fun K "_is_stretch" "_is_stretch" s_is_stretch_linetext f fd) (T : Txt mg) (gSIDES : mg "SIDES" = some (.ref aSIDES)) (cSIDES : Cst K aSIDES sides) :
    FnOk P w K mg base CX0 3 f fd ["words"] (spForm K Pt parseS) := by
  refine F.ok sc_is_stretch_linetext (fun vs H Q E h => ?_) (fun cdv A outer s H vs Q E hr h => ?_)
  · obtain ⟨a, l, rfl, _⟩ := h
    rfl
  · obtain ⟨a, l, rfl, hl, wo, tb, k⟩ := h
    refine ⟨_, pss_one (ps_ret (pe_and (pe_cmpR op_eq (pe_callB call_len_seq (by rfl) T.len_ PySem.boot_len (pa_cons (pv 0) pa_nil)) pe_int (nomark _)) (pe_and (pe_cmpR op_in_seq (pe_ix ix_list (pv 0) pe_int (fun _ _ => rfl)) (pe_tup (pa_cons pe_str (pa_cons pe_str pa_nil))) rfl) (pe_one (pe_cmpR op_in_seq (pe_ix ix_list (pv 0) pe_int (fun _ _ => rfl)) (pe_glob (v := .ref aSIDES) (by rfl) gSIDES rfl) rfl))))), ?_⟩
    refine ⟨_, rfl, a, _, rfl, .inl hl, rfl, _, rfl, ?_⟩
    by_cases h3 : l.length = 3
    · obtain ⟨x, y, z, rfl⟩ := three_of h3
      refine iteT ?_
      refine ⟨_, rfl, a, _, 1, _, rfl, rfl, hl, rfl, two_line, fun u hu => ?_⟩
      have e := same_alloc (o := .tup [.str "staff", .str "ticket"]) hu
      refine ⟨u, _, rfl, .inr (SqT.of upd_same), rfl, rfl, _, rfl, ?_⟩
      show if inV (.str y) [.str "staff", .str "ticket"] = true then _ else _
      have q := k _ (same_kt tb e)
      rw [kind_in]
      by_cases hk : y = Str.ofString "staff" ∨ y = Str.ofString "ticket"
      · rw [decide_eq_true hk]
        refine iteT ⟨_, rfl, a, _, 2, _, rfl, rfl, (same_nt e).seq hl, rfl, aSIDES, _, rfl, .inr (cSIDES.1 _), rfl, rfl, ?_⟩
        rw [if_neg (by decide), side_sides]
        have e2 : parseS [x, y, z] = (sideI z).map (Row.S y) := if_pos (hk)
        rw [e2, Option.isSome_map] at q
        exact q
      · rw [decide_eq_false hk]
        have e2 : parseS [x, y, z] = none := if_neg (hk)
        rw [e2] at q
        exact iteF q
    · have q := k H (KT.refl tb)
      rw [parseS_no h3] at q
      have e := len_no h3
      rw [show ((3 : Nat) : Int) = 3 from rfl] at e
      rw [e]
      exact iteF q
theorem ok_is_long_linetext {f f1 Pt : Addr} {fd fd1 : FuncData} (F : Fun K "_is_long" "_is_long" s_is_long_linetext f fd) (T : Txt mg) (gSIDES : mg "SIDES" = some (.ref aSIDES)) (cSIDES : Cst K aSIDES sides)
    (Nis_name : Fn K mg "is_name" sName ["thing"] f1 fd1) (Gis_name : FnOk P w K mg base CX0 2 f1 fd1 ["thing"] (spName Pt)) :
    FnOk P w K mg base CX0 3 f fd ["words"] (spForm K Pt parseL) := by
  refine F.ok sc_is_long_linetext (fun vs H Q E h => ?_) (fun cdv A outer s H vs Q E hr h => ?_)
  · obtain ⟨a, l, rfl, _⟩ := h
    rfl
  · obtain ⟨a, l, rfl, hl, wo, tb, k⟩ := h
    refine ⟨_, pss_one (ps_ret (pe_and (pe_cmpR op_eq (pe_callB call_len_seq (by rfl) T.len_ PySem.boot_len (pa_cons (pv 0) pa_nil)) pe_int (nomark _)) (pe_and (pe_call Gis_name (hr.mono (by decide)) (by rfl) Nis_name.g Nis_name.kp Nis_name.b .nil pass0 (pa_cons (pe_ix ix_list (pv 0) pe_int (fun _ _ => rfl)) pa_nil)) (pe_and (pe_call Gis_name (hr.mono (by decide)) (by rfl) Nis_name.g Nis_name.kp Nis_name.b .nil pass0 (pa_cons (pe_ix ix_list (pv 0) pe_int (fun _ _ => rfl)) pa_nil)) (pe_one (pe_cmpR op_in_seq (pe_ix ix_list (pv 0) pe_int (fun _ _ => rfl)) (pe_glob (v := .ref aSIDES) (by rfl) gSIDES rfl) rfl)))))), ?_⟩
    refine ⟨_, rfl, a, _, rfl, .inl hl, rfl, _, rfl, ?_⟩
    by_cases h4 : l.length = 4
    · obtain ⟨x, y, z, u, rfl⟩ := four_of h4
      refine iteT ?_
      refine ⟨_, rfl, a, _, 1, _, rfl, rfl, hl, rfl, _, rfl, (wo y (by simp)).th, tb, fun H1 k1 => ⟨_, rfl, ?_⟩⟩
      have hl1 := seq_kt tb k1 hl
      by_cases hy : nm (.str y) = true
      · rw [hy]
        refine iteT ⟨_, rfl, a, _, 2, _, rfl, rfl, hl1, rfl, _, rfl, (wo z (by simp)).th, k1.tab, fun H2 k2 => ⟨_, rfl, ?_⟩⟩
        have hl2 := seq_kt k1.tab k2 hl1
        have q := k H2 (k1.trans k2)
        by_cases hz : nm (.str z) = true
        · rw [hz]
          refine iteT ⟨_, rfl, a, _, 3, _, rfl, rfl, hl2, rfl, aSIDES, _, rfl, .inr (cSIDES.1 _), rfl, rfl, ?_⟩
          rw [if_neg (by decide), side_sides]
          have e2 : parseL [x, y, z, u] = (sideI u).map (Row.L y z) := if_pos (⟨hy, hz⟩)
          rw [e2, Option.isSome_map] at q
          exact q
        · have e2 : parseL [x, y, z, u] = none := if_neg (fun h => hz h.2)
          rw [e2] at q
          rw [Bool.not_eq_true] at hz
          rw [hz]
          exact iteF q
      · have q := k H1 k1
        have e2 : parseL [x, y, z, u] = none := if_neg (fun h => hy h.1)
        rw [e2] at q
        rw [Bool.not_eq_true] at hy
        rw [hy]
        exact iteF q
    · have q := k H (KT.refl tb)
      rw [parseL_no h4] at q
      have e := len_no h4
      rw [show ((4 : Nat) : Int) = 4 from rfl] at e
      rw [e]
      exact iteF q
end
end K8

set_option maxRecDepth 100000
set_option maxHeartbeats 400000
namespace K8
open PySem PySem.Spec PyProof.Rows L2 GxR Gd TL My
theorem joinL_of {S : List Nat} {c : Nat} : ∀ {ps : List (List Nat)} {p : List Nat}, p ∈ ps → c ∈ p → c ∈ joinL S ps
  | [], _, h, _ => by cases h
  | [q], p, h, hc => by
    obtain rfl := List.mem_singleton.mp h
    exact hc
  | q :: q2 :: r, p, h, hc => by
    show c ∈ q ++ (S ++ joinL S (q2 :: r))
    rcases List.mem_cons.mp h with rfl | h
    · exact List.mem_append.mpr (.inl hc)
    · exact List.mem_append.mpr (.inr (List.mem_append.mpr (.inr (joinL_of h hc))))
theorem split_mem {x y p : Str} (h : p ∈ PySem.Txt.split x y) {c : Nat} (hc : c ∈ tl p) : c ∈ tl x := by
  have e : tl (Str.join y (PySem.Txt.split x y)) = tl x := by rw [StrLaws.join_split]
  rw [← e, tl_join]
  exact joinL_of (List.mem_map.mpr ⟨p, h, rfl⟩) hc
theorem split_wok {x y : Str} (w : WOk x) {p : Str} (h : p ∈ PySem.Txt.split x y) : WOk p :=
  ⟨Nat.le_trans (PyProof.Rows.part_short h) w.1, fun c hc => w.2 c (split_mem h hc)⟩
theorem split_ne (x y : Str) : ∃ k r, PySem.Txt.split x y = k :: r := by
  have := PyProof.Rows.split_pos x y
  match e : PySem.Txt.split x y with
  | [] => rw [e] at this; simp at this
  | k :: r => exact ⟨k, r, rfl⟩
def wordsOf (z : Str) : List Str := PySem.Txt.split z (Str.ofString " ")
def sortV : Option Row → V
  | none => .non
  | some r => .int (srt r : Nat)
def par (j : Nat) : List Str → Option Row := match j with
  | 0 => parseP
  | 1 => parseS
  | _ => parseL
theorem par_srt {j : Nat} (h : j < 3) {l : List Str} {r : Row} (e : par j l = some r) : srt r = j := by
  have : j = 0 ∨ j = 1 ∨ j = 2 := by omega
  rcases this with rfl | rfl | rfl
  · show srt r = 0
    have e : parseP l = some r := e
    unfold parseP at e
    split at e
    · split at e
      · obtain ⟨d, _, rfl⟩ := Option.map_eq_some_iff.mp e
        rfl
      · cases e
    · cases e
  · show srt r = 1
    have e : parseS l = some r := e
    unfold parseS at e
    split at e
    · split at e
      · obtain ⟨d, _, rfl⟩ := Option.map_eq_some_iff.mp e
        rfl
      · cases e
    · cases e
  · show srt r = 2
    have e : parseL l = some r := e
    unfold parseL at e
    split at e
    · split at e
      · obtain ⟨d, _, rfl⟩ := Option.map_eq_some_iff.mp e
        rfl
      · cases e
    · cases e
theorem parse_cons (k : Str) (r : List Str) : parse (k :: r) = if k = Str.ofString "place" then parseP (k :: r) else if k = Str.ofString "stretch" then parseS (k :: r) else if k = Str.ofString "long" then parseL (k :: r) else none := rfl
theorem sort_case (k : Str) : (inV (.str k) (sorts.map V.str) = false ∧ ∀ r, parse (k :: r) = none) ∨
    ∃ j, j < 3 ∧ inV (.str k) (sorts.map V.str) = true ∧ sorts[j]? = some k ∧ (∀ m, m < j → sorts[m]? ≠ some k) ∧ ∀ r, parse (k :: r) = par j (k :: r) := by
  by_cases h0 : k = Str.ofString "place"
  · subst h0
    exact .inr ⟨0, by decide, by decide +kernel, rfl, by decide +kernel, fun r => by rw [parse_cons, if_pos rfl]; rfl⟩
  by_cases h1 : k = Str.ofString "stretch"
  · subst h1
    exact .inr ⟨1, by decide, by decide +kernel, rfl, by decide +kernel, fun r => by rw [parse_cons, if_neg (by decide +kernel), if_pos rfl]; rfl⟩
  by_cases h2 : k = Str.ofString "long"
  · subst h2
    exact .inr ⟨2, by decide, by decide +kernel, rfl, by decide +kernel, fun r => by rw [parse_cons, if_neg (by decide +kernel), if_neg (by decide +kernel), if_pos rfl]; rfl⟩
  · refine .inl ⟨?_, fun r => by rw [parse_cons, if_neg h0, if_neg h1, if_neg h2]⟩
    unfold inV sorts
    simp [eqV, Ne.symm h0, Ne.symm h1, Ne.symm h2]
section
variable {P : Program} {w : World} {K : PySem.W.Frag} {mg : Str → Option Value} {base : Heap} {aSIDES aSORTS : Addr}
def spSort (Pt : Addr) : Sp := fun vs H Q _ => ∃ (z : Str), vs = [.str z] ∧ WOk z ∧ TabG H Pt ∧ ∀ H', KT Pt H H' → Q (sortV (parse (wordsOf z))) H'
theorem ok_line_sort {f f1 f2 f3 Pt : Addr} {fd fd1 fd2 fd3 : FuncData} (F : Fun K "line_sort" "line_sort" s_line_sort f fd) (T : Txt mg) (gSORTS : mg "SORTS" = some (.ref aSORTS)) (cSORTS : Cst K aSORTS sorts)
    (Nis_place : Fn K mg "_is_place" s_is_place ["words"] f1 fd1) (Gis_place : FnOk P w K mg base CX0 3 f1 fd1 ["words"] (spForm K Pt parseP))
    (Nis_stretch_linetext : FnA K mg "is_stretch_linetext" "_is_stretch" s_is_stretch_linetext ["words"] f2 fd2) (Gis_stretch_linetext : FnOk P w K mg base CX0 3 f2 fd2 ["words"] (spForm K Pt parseS))
    (Nis_long_linetext : FnA K mg "is_long_linetext" "_is_long" s_is_long_linetext ["words"] f3 fd3) (Gis_long_linetext : FnOk P w K mg base CX0 3 f3 fd3 ["words"] (spForm K Pt parseL)) :
    FnOk P w K mg base CX0 4 f fd ["row"] (spSort Pt) := by
  refine F.ok sc_line_sort (fun vs H Q E h => ?_) (fun cdv A outer s H vs Q E hr h => ?_)
  · obtain ⟨z, rfl, _⟩ := h
    rfl
  · obtain ⟨z, rfl, wz, tb, k⟩ := h
    have HA : ∀ j : Fin 3, Held P w K mg base 3 (pick3 f1 f2 f3 j) (pick3 (spForm K Pt parseP) (spForm K Pt parseS) (spForm K Pt parseL) j) := fun j => match j with
      | 0 => ⟨_, _, Gis_place, Nis_place.kp, Nis_place.b⟩
      | 1 => ⟨_, _, Gis_stretch_linetext, Nis_stretch_linetext.kp, Nis_stretch_linetext.b⟩
      | 2 => ⟨_, _, Gis_long_linetext, Nis_long_linetext.kp, Nis_long_linetext.b⟩
    have wl : ∀ p ∈ wordsOf z, WOk p := fun p hp => split_wok wz hp
    obtain ⟨k0, r, hh⟩ := split_ne z (Str.ofString " ")
    have hh : wordsOf z = k0 :: r := hh
    refine ⟨_, pss_cons (ps_set (i := 1) sc_line_sort.nd rfl (Or.inl rfl) (pe_split (pv 0) pe_str))
      (pss_cons (ps_if (pt_cmpR op_notIn_seq (pe_ix ix_list (pv 1) pe_int (fun _ _ => rfl)) (pe_glob (v := .ref aSORTS) (by rfl) gSORTS rfl) rfl) (pss_one (ps_ret pe_non)) pss_nil)
      (pss_cons (ps_set (i := 2) sc_line_sort.nd rfl (Or.inl rfl) (pe_bm PySem.F.plainAttrs_tuple PySem.F.slot_tuple_index PySem.F.type_tuple_index mt_tup_index (pe_glob (v := .ref aSORTS) (by rfl) gSORTS rfl) (pa_cons (pe_ix ix_list (pv 1) pe_int (fun _ _ => rfl)) pa_nil)))
      (pss_cons (ps_set (i := 3) sc_line_sort.nd rfl (Or.inl rfl) (pe_tup (pa_cons (pe_glob (v := .ref _) (by rfl) Nis_place.g rfl) (pa_cons (pe_glob (v := .ref _) (by rfl) Nis_stretch_linetext.g rfl) (pa_cons (pe_glob (v := .ref _) (by rfl) Nis_long_linetext.g rfl) pa_nil)))))
      (pss_cons (ps_set (i := 4) sc_line_sort.nd rfl (Or.inl rfl) (pe_ix ix_tup (pv 3) (pv 2) (fun _ _ => rfl)))
      (pss_one (ps_ret (pe_ifExp (pt_val (pe_call3 HA (hr.mono (by decide)) (i := 4) rfl (.inl rfl) (pa_cons (pv 1) pa_nil))) (pv 2) pe_non))))))), ?_⟩
    generalize hσ : L2.start _ _ = σ0
    obtain rfl : σ0 = [some (.str z), none, none, none, none] := hσ.symm.trans rfl
    refine ⟨_, rfl, ⟨_, rfl⟩, _, _, rfl, rfl, by decide +kernel, fit2 (by have := wz.1; omega), fun p hp => ?_⟩
    rw [show PySem.Txt.split z (Str.ofString " ") = wordsOf z from rfl, hh]
    rw [hh] at wl k
    have s1 : Same H (upd H p (.lst ((k0 :: r).map V.str))) := same_alloc hp
    have e1 : (upd H p (.lst ((k0 :: r).map V.str))) p = some (.lst ((k0 :: r).map V.str)) := upd_same
    generalize upd H p (.lst ((k0 :: r).map V.str)) = H1 at s1 e1 ⊢
    have a0 : atI ((k0 :: r).map V.str) 0 = some (.str k0) := atI_nat (j := 0) rfl
    simp only [List.set_cons_succ, List.set_cons_zero]
    rcases sort_case k0 with ⟨i0, pn⟩ | ⟨j, j3, i1, f2', f3', pj⟩
    · refine ⟨_, rfl, p, _, 0, _, rfl, rfl, SqL.of e1, a0, aSORTS, _, rfl, .inr (cSORTS.1 _), rfl, rfl, true, ?_, iteT ?_⟩
      · rw [if_pos rfl, i0]
        rfl
      · have q := k _ (same_kt tb s1)
        rw [pn] at q
        exact q
    · refine ⟨_, rfl, p, _, 0, _, rfl, rfl, SqL.of e1, a0, aSORTS, _, rfl, .inr (cSORTS.1 _), rfl, rfl, false, ?_, iteF ?_⟩
      · rw [if_pos rfl, i1]
        rfl
      · refine ⟨.inr (.inl ⟨rfl, cSORTS.2⟩), _, rfl, p, _, 0, _, rfl, rfl, SqL.of e1, a0, aSORTS, sorts, _, j, rfl, rfl, cSORTS.1 _, f2', f3', three_line, fun q hq => ?_⟩
        have s2 := s1.trans (same_alloc (o := .tup [.ref f1, .ref f2, .ref f3]) hq)
        have e2 : upd H1 q (.tup [.ref f1, .ref f2, .ref f3]) p = some (.lst ((k0 :: r).map V.str)) := same_alloc hq _ _ e1
        have e3 : upd H1 q (.tup [.ref f1, .ref f2, .ref f3]) q = some (.tup [.ref f1, .ref f2, .ref f3]) := upd_same
        generalize upd H1 q (.tup [.ref f1, .ref f2, .ref f3]) = H2 at s2 e2 e3 ⊢
        have at3 : atI [V.ref f1, .ref f2, .ref f3] (j : Int) = some (.ref (pick3 f1 f2 f3 ⟨j, j3⟩)) := by
          refine atI_nat ?_
          have : j = 0 ∨ j = 1 ∨ j = 2 := by omega
          rcases this with rfl | rfl | rfl <;> rfl
        have sp3 : pick3 (spForm K Pt parseP) (spForm K Pt parseS) (spForm K Pt parseL) ⟨j, j3⟩ = spForm K Pt (par j) := by
          have : j = 0 ∨ j = 1 ∨ j = 2 := by omega
          rcases this with rfl | rfl | rfl <;> rfl
        simp only [List.set_cons_succ, List.set_cons_zero]
        refine ⟨_, rfl, _, rfl, q, _, _, _, rfl, rfl, SqT.of e3, at3, ⟨j, j3⟩, rfl, _, rfl, ?_⟩
        rw [sp3]
        have k2 := same_kt tb s2
        rw [pj] at k
        refine ⟨p, _, rfl, SqL.of e2, wl, k2.tab, fun H' k' => ⟨_, rfl, ?_⟩⟩
        have kk := k _ (k2.trans k')
        cases e : par j (k0 :: r) with
        | none =>
          rw [e] at kk
          exact iteF kk
        | some rw_ =>
          rw [e] at kk
          have := par_srt j3 e
          subst this
          exact iteT ⟨_, rfl, kk⟩
end
end K8

set_option maxRecDepth 100000
set_option maxHeartbeats 400000
namespace K8
open PySem PySem.Spec PyProof.Rows L2 GxR Gd TL My
/-- values one by one what they should be -/
inductive AllR {β : Type} (R : Hp → V → β → Prop) (H : Hp) : List V → List β → Prop
  | nil : AllR R H [] []
  | cons {v : V} {vs : List V} {b : β} {bs : List β} : R H v b → AllR R H vs bs → AllR R H (v :: vs) (b :: bs)
def Keeps {β : Type} (R : Hp → V → β → Prop) : Prop := ∀ H H' v b, Nt H H' → R H v b → R H' v b
theorem AllR.nt {β : Type} {R : Hp → V → β → Prop} (m : Keeps R) {H H' : Hp} (e : Nt H H') {vs : List V} {bs : List β} (h : AllR R H vs bs) : AllR R H' vs bs := by
  induction h with
  | nil => exact .nil
  | cons a _ ih => exact .cons (m _ _ _ _ e a) ih
theorem AllR.app {β : Type} {R : Hp → V → β → Prop} {H : Hp} {vs ws : List V} {bs cs : List β} (h : AllR R H vs bs) (k : AllR R H ws cs) : AllR R H (vs ++ ws) (bs ++ cs) := by
  induction h with
  | nil => exact k
  | cons a _ ih => exact .cons a ih
theorem AllR.len {β : Type} {R : Hp → V → β → Prop} {H : Hp} {vs : List V} {bs : List β} (h : AllR R H vs bs) : vs.length = bs.length := by
  induction h with
  | nil => rfl
  | cons _ _ ih => rw [List.length_cons, List.length_cons, ih]
theorem AllR.get {β : Type} {R : Hp → V → β → Prop} {H : Hp} {vs : List V} {bs : List β} (h : AllR R H vs bs) : ∀ {i : Nat} {v : V}, vs[i]? = some v → ∃ b, bs[i]? = some b ∧ R H v b := by
  induction h with
  | nil => intro i v e; simp at e
  | cons a _ ih =>
    intro i v e
    cases i with
    | zero =>
      obtain rfl : _ = v := by simpa using e
      exact ⟨_, rfl, a⟩
    | succ i => exact ih (by simpa using e)
/-- a comprehension that makes values of those things for which F says so -/
theorem filt_itR {α β : Type} {R : Hp → V → β → Prop} (m : Keeps R) {J : It} {G : Hp → Prop} {xs : List V} {src : List α} {F : α → Option β} (w : Walk J xs.length G (YAt xs)) {g : TG} {tt : TT} {te : TE} {vs : List Nat} {σ : L2.St} {H : Hp} {D : Addr} {Qd : Hp → Prop} (hl : src.length = xs.length) (h20 : src.length < sizeLine) (hD : H D = none)
    (hG : ∀ H', KB D H H' → G H')
    (hs : ∀ (i : Nat) (v : V) (a : α) (H' : Hp) (C : VK) (B : Hp → Prop), xs[i]? = some v → src[i]? = some a → KB D H H' → H' D ≠ none → (∀ z b H4, F a = some b → Same H' H4 → R (hide D H4) z b → C z H4) → (∀ H4, F a = none → Same H' H4 → B H4) →
      g v (wipe σ vs) H' fun σ2 H2 => wipe σ2 vs = wipe σ vs ∧ tt σ2 H2 fun b H3 => if b = true then te σ2 H3 C else B H3)
    (hd : ∀ H' ys, KB D H H' → H' D = some (.lst ys) → AllR R (hide D H') ys (src.filterMap F) → Qd H') :
    ∃ W : Nat → Nat → Hp → Prop, (∃ m, W 0 m (upd H D (.lst []))) ∧ ∀ i m H, W i m H →
    (J.stop i H ∧ Qd H) ∨ (J.go i H ∧ ∃ Nx : Hp → Prop, (∀ H', Nx H' → ∃ m', m' < m ∧ W (i + 1) m' H') ∧ ∀ x H', J.yld i H x H' → g x (wipe σ vs) H' fun σ2 H2 => wipe σ2 vs = wipe σ vs ∧ tt σ2 H2 fun b H3 =>
      if b = true then te σ2 H3 fun y H4 => ∃ acc, H4 D = some (.lst acc) ∧ acc.length < sizeLine ∧ Nx (upd H4 D (.lst (acc ++ [y]))) else Nx H3) := by
  refine lc_it w (fun i H' => KB D H H' ∧ ∃ ys, H' D = some (.lst ys) ∧ ys.length ≤ i ∧ AllR R (hide D H') ys ((src.take i).filterMap F)) ⟨KB.alloc hD, [], upd_same, Nat.le_refl _, .nil⟩ (fun i H' _ h => hG H' h.1) ?_ ?_
  · rintro i v H' H'' hi ⟨kb, ys, e, ly, dy⟩ ⟨rfl, hv⟩
    obtain ⟨a, ha⟩ : ∃ a, src[i]? = some a := ⟨_, List.getElem?_eq_getElem (by omega)⟩
    have e0 : (src.take (i + 1)).filterMap F = (src.take i).filterMap F ++ [a].filterMap F := by rw [take_at ha, List.filterMap_append]
    have hne : H'' D ≠ none := by rw [e]; simp
    refine hs i v a H'' _ _ hv ha kb hne ?_ ?_
    · intro z d H4 hF s dz
      refine ⟨_, s _ _ e, by omega, fun c o n h => by rw [upd_ne n]; exact s _ _ (kb c o n h), _, upd_same, ?_, ?_⟩
      · rw [List.length_append]
        exact Nat.succ_le_succ ly
      · rw [e0, show [a].filterMap F = [d] by simp [hF]]
        exact AllR.app (dy.nt m ((hide_mono (same_nt s)).trans hide_put1)) (.cons (m _ _ _ _ hide_put1 dz) .nil)
    · intro H4 hF s
      refine ⟨fun c o n h => s _ _ (kb c o n h), _, s _ _ e, by omega, ?_⟩
      rw [e0, show [a].filterMap F = [] by simp [hF], List.append_nil]
      exact dy.nt m (hide_mono (same_nt s))
  · rintro H' ⟨kb, ys, e, ly, dy⟩
    rw [← hl, List.take_of_length_le (Nat.le_refl _)] at dy
    exact hd H' ys kb e dy
/-- a pair, a triple, as they stand -/
def RP (H : Hp) (v : V) (p : Str × Int) : Prop := ∃ t, v = .ref t ∧ H t = some (.tup [.str p.1, .int p.2])
def RL (H : Hp) (v : V) (p : Int × Int × Int) : Prop := ∃ t, v = .ref t ∧ H t = some (.tup [.int p.1, .int p.2.1, .int p.2.2])
theorem keepP : Keeps RP := fun _ _ _ _ e ⟨t, h1, h2⟩ => ⟨t, h1, e _ _ (by simp) h2⟩
theorem keepL : Keeps RL := fun _ _ _ _ e ⟨t, h1, h2⟩ => ⟨t, h1, e _ _ (by simp) h2⟩
theorem rp_dp {K : PySem.W.Frag} {H : Hp} {vs : List V} {ps : List (Str × Int)} (h : AllR RP H vs ps) : DpAll K H vs (ps.map dP) := by
  induction h with
  | nil => exact .nil
  | cons a _ ih =>
    obtain ⟨t, rfl, h2⟩ := a
    exact .cons (.tup (SqT.of h2) (.cons (.str _) (.cons (.int _) .nil))) ih
theorem rl_dp {K : PySem.W.Frag} {H : Hp} {vs : List V} {ps : List (Int × Int × Int)} (h : AllR RL H vs ps) : DpAll K H vs (ps.map dL) := by
  induction h with
  | nil => exact .nil
  | cons a _ ih =>
    obtain ⟨t, rfl, h2⟩ := a
    exact .cons (.tup (SqT.of h2) (.cons (.int _) (.cons (.int _) (.cons (.int _) .nil)))) ih
/-! ### what is due, by data -/
abbrev DueP := Option (Tag × PyData)
def plP : List Str → List (Str × Int) → DueP
  | _, [] => none
  | as, p :: r => if p.1 ∈ as then some (.twice, .str p.1) else if wh 1 3 (.int p.2) = true then plP (as ++ [p.1]) r else some (.number, .int p.2)
def psP (ps : List (Str × Int)) : DueP := if (decide (2 ≤ (ps.length : Int)) && decide ((ps.length : Int) ≤ 6)) = true then plP [] ps else some (.places, .list (ps.map dP))
def stP (n : Int) (st : List (Str × Int)) : DueP := if (decide (n ≤ (st.length : Int)) && decide ((st.length : Int) ≤ n)) = true then none else some (.stretches, .list (st.map dP))
def loP (top : Int) : Int → List (Int × Int × Int) → DueP
  | _, [] => none
  | low, p :: r => if (wh low top (.int p.1) && wh (p.1 + 2) top (.int p.2.1) && wh 0 1 (.int p.2.2)) = true then loP top p.2.1 r else some (.longs, dL p)
def lsP (top : Int) (lo : List (Int × Int × Int)) : DueP := if (decide ((0 : Int) ≤ (lo.length : Int)) && decide ((lo.length : Int) ≤ 2)) = true then loP top 0 lo else some (.longs, .list (lo.map dL))
/-- as it stands and as data -/
def DR (K : PySem.W.Frag) (H : Hp) : Due → DueP → Prop
  | none, none => True
  | some (t, x), some (t', d) => t = t' ∧ Dp K H x d
  | _, _ => False
theorem DR.nt {K : PySem.W.Frag} {H H' : Hp} (e : Nt H H') {a : Due} {b : DueP} (h : DR K H a b) : DR K H' a b := by
  match a, b, h with
  | none, none, _ => trivial
  | some (t, x), some (t', d), ⟨h1, h2⟩ => exact ⟨h1, dp_nt e h2⟩
theorem tup_ref {H : Hp} {t : Addr} {xs : List V} (h : H t = some (.tup xs)) : tupOf H (.ref t) = some xs := by
  unfold tupOf
  simp [h]
theorem pl_dr {K : PySem.W.Frag} {H : Hp} {vs : List V} {ps : List (Str × Int)} (h : AllR RP H vs ps) : ∀ as : List Str, (∀ p ∈ ps, nm (.str p.1) = true) → DR K H (plD H as vs) (plP as ps) := by
  induction h with
  | nil => intro as _; exact trivial
  | @cons v vs p ps a _ ih =>
    intro as hn
    obtain ⟨t, rfl, h2⟩ := a
    have n1 := hn p (List.mem_cons_self ..)
    have e1 : pl1 H as (.ref t) = if V.str p.1 ∈ as.map V.str then some (.twice, .str p.1) else if wh 1 3 (.int p.2) = true then none else some (.number, .int p.2) := by
      unfold pl1
      rw [tup_ref h2]
      exact if_pos n1
    have em : (V.str p.1 ∈ as.map V.str) ↔ p.1 ∈ as := by
      constructor
      · intro h
        obtain ⟨z, hz, e⟩ := List.mem_map.mp h
        rw [← V.str.inj e]
        exact hz
      · exact fun h => List.mem_map.mpr ⟨_, h, rfl⟩
    unfold plD plP
    rw [e1]
    by_cases c : p.1 ∈ as
    · rw [if_pos (em.mpr c), if_pos c]
      exact ⟨rfl, .str _⟩
    · rw [if_neg fun h => c (em.mp h), if_neg c]
      by_cases c2 : wh 1 3 (.int p.2) = true
      · rw [if_pos c2, if_pos c2]
        have en : nameOf H (.ref t) = p.1 := by
          unfold nameOf
          simp [tup_ref h2]
        rw [en]
        exact ih _ fun q hq => hn q (List.mem_cons_of_mem _ hq)
      · rw [if_neg c2, if_neg c2]
        exact ⟨rfl, .int _⟩
theorem seq_ref {H : Hp} {t : Addr} {xs : List V} (h : H t = some (.lst xs)) : seqOf H (.ref t) = some xs := seq_lst h
theorem places_dr {K : PySem.W.Frag} {H : Hp} {a : Addr} {vs : List V} {ps : List (Str × Int)} (ha : H a = some (.lst vs)) (h : AllR RP H vs ps) (hn : ∀ p ∈ ps, nm (.str p.1) = true) : DR K H (placesD H (.ref a)) (psP ps) := by
  unfold placesD psP isl
  rw [seq_ref ha, Option.getD_some]
  show DR K H (if (decide (2 ≤ (vs.length : Int)) && decide ((vs.length : Int) ≤ 6)) = true then _ else _) _
  rw [h.len]
  split
  · exact pl_dr h [] hn
  · exact ⟨rfl, .lst (SqL.of ha) (rp_dp h)⟩
theorem st_dr {H : Hp} {vs : List V} {st : List (Str × Int)} (h : AllR RP H vs st) : (∀ p ∈ st, (p.1 = Str.ofString "staff" ∨ p.1 = Str.ofString "ticket") ∧ 0 ≤ p.2 ∧ p.2 ≤ 1) → stD H vs = none := by
  induction h with
  | nil => intro _; rfl
  | @cons v vs p ps a _ ih =>
    intro hn
    obtain ⟨t, rfl, h2⟩ := a
    obtain ⟨n1, n2, n3⟩ := hn p (List.mem_cons_self ..)
    have e1 : st1 H (.ref t) = true := by
      unfold st1
      rw [tup_ref h2]
      show ((decide (V.str p.1 = V.str (Str.ofString "staff")) || decide (V.str p.1 = V.str (Str.ofString "ticket"))) && wh 0 1 (.int p.2)) = true
      have w : wh 0 1 (.int p.2) = true := by simp [wh, n2, n3]
      rw [w]
      rcases n1 with e | e <;> simp [e]
    unfold stD
    rw [if_pos e1]
    exact ih fun q hq => hn q (List.mem_cons_of_mem _ hq)
theorem stretches_dr {K : PySem.W.Frag} {H : Hp} {a : Addr} {n : Int} {vs : List V} {st : List (Str × Int)} (ha : H a = some (.lst vs)) (h : AllR RP H vs st) (hn : ∀ p ∈ st, (p.1 = Str.ofString "staff" ∨ p.1 = Str.ofString "ticket") ∧ 0 ≤ p.2 ∧ p.2 ≤ 1) : DR K H (stretchesD H n (.ref a)) (stP n st) := by
  unfold stretchesD stP isl
  rw [seq_ref ha, Option.getD_some]
  show DR K H (if (decide (n ≤ (vs.length : Int)) && decide ((vs.length : Int) ≤ n)) = true then _ else _) _
  rw [h.len]
  split
  · rw [st_dr h hn]
    exact trivial
  · exact ⟨rfl, .lst (SqL.of ha) (rp_dp h)⟩
theorem lo_dr {K : PySem.W.Frag} {H : Hp} {top : Int} {vs : List V} {lo : List (Int × Int × Int)} (h : AllR RL H vs lo) : ∀ low : Int, DR K H (loD H top low vs) (loP top low lo) := by
  induction h with
  | nil => intro _; exact trivial
  | @cons v vs p ps a _ ih =>
    intro low
    obtain ⟨t, rfl, h2⟩ := a
    have e1 : lo1 H low top (.ref t) = (wh low top (.int p.1) && wh (p.1 + 2) top (.int p.2.1) && wh 0 1 (.int p.2.2)) := by
      unfold lo1
      rw [tup_ref h2]
      rfl
    have e2 : lastLo H (.ref t) = p.2.1 := by
      unfold lastLo
      rw [tup_ref h2]
      rfl
    unfold loD loP
    rw [e1, e2]
    split
    · exact ih _
    · exact ⟨rfl, .tup (SqT.of h2) (.cons (.int _) (.cons (.int _) (.cons (.int _) .nil)))⟩
theorem longs_dr {K : PySem.W.Frag} {H : Hp} {a : Addr} {top : Int} {vs : List V} {lo : List (Int × Int × Int)} (ha : H a = some (.lst vs)) (h : AllR RL H vs lo) : DR K H (longsD H top (.ref a)) (lsP top lo) := by
  unfold longsD lsP isl
  rw [seq_ref ha, Option.getD_some]
  show DR K H (if (decide (0 ≤ (vs.length : Int)) && decide ((vs.length : Int) ≤ 2)) = true then _ else _) _
  rw [h.len]
  split
  · exact lo_dr h 0
  · exact ⟨rfl, .lst (SqL.of ha) (rl_dp h)⟩
def dueP (ps st : List (Str × Int)) (lo : Option (List (Int × Int × Int))) : DueP := match psP ps with
  | some d => some d
  | none => match stP ((ps.length : Int) - 1) st with
    | some d => some d
    | none => match lo with
      | none => none
      | some l => lsP ((ps.length : Int) - 1) l
/-- the third thing: none or a list -/
def ThirdAt (H : Hp) (v : V) : Option (List (Int × Int × Int)) → Prop
  | none => v = .non
  | some lo => ∃ a vs, v = .ref a ∧ H a = some (.lst vs) ∧ AllR RL H vs lo
theorem due_dr {K : PySem.W.Frag} {H : Hp} {a1 a2 : Addr} {v3 : V} {vs1 vs2 : List V} {ps st : List (Str × Int)} {lo : Option (List (Int × Int × Int))} (h1 : H a1 = some (.lst vs1)) (r1 : AllR RP H vs1 ps) (hn : ∀ p ∈ ps, nm (.str p.1) = true)
    (h2 : H a2 = some (.lst vs2)) (r2 : AllR RP H vs2 st) (hs : ∀ p ∈ st, (p.1 = Str.ofString "staff" ∨ p.1 = Str.ofString "ticket") ∧ 0 ≤ p.2 ∧ p.2 ≤ 1) (h3 : ThirdAt H v3 lo) : DR K H (dueD H (.ref a1) (.ref a2) v3) (dueP ps st lo) := by
  have em : manyOf H (.ref a1) = (ps.length : Int) := by
    unfold manyOf
    rw [seq_ref h1, Option.getD_some, r1.len]
  have d1 := places_dr (K := K) h1 r1 hn
  have d2 := stretches_dr (K := K) (n := (ps.length : Int) - 1) h2 r2 hs
  unfold dueD dueP
  rw [em]
  match e1 : placesD H (.ref a1), e2 : psP ps, d1 with
  | some _, some _, d1 => exact d1
  | none, none, _ =>
    match e3 : stretchesD H ((ps.length : Int) - 1) (.ref a2), e4 : stP ((ps.length : Int) - 1) st, d2 with
    | some _, some _, d2 => exact d2
    | none, none, _ =>
      match lo, h3 with
      | none, h3 =>
        show DR K H (if v3 = .non then none else _) none
        rw [if_pos (show v3 = V.non from h3)]
        exact trivial
      | some l, ⟨a, vs, e, q1, q2⟩ =>
        show DR K H (if v3 = .non then none else _) _
        rw [if_neg (by rw [e]; simp), e]
        exact longs_dr q1 q2
end K8

set_option maxRecDepth 100000
set_option maxHeartbeats 400000
namespace K8
open PySem PySem.Spec PyProof.Rows L2 GxR Gd TL My
theorem fn_or {P : Program} {w : World} {K : PySem.W.Frag} {mg : Str → Option Value} {base : Heap} {CX : CXT} {j k : Nat} {f : Addr} {fd : FuncData} {ps : List Str} {sp1 sp2 : Sp} (A : FnOk P w K mg base CX0 j f fd ps sp1) (B : FnOk P w K mg base CX k f fd ps sp2) (h : j ≤ k) :
    FnOk P w K mg base CX k f fd ps (fun vs H Q E => sp1 vs H Q E ∨ sp2 vs H Q E) := by
  refine ⟨fun vs H Q E h => h.elim (A.len vs H Q E) (B.len vs H Q E), fun Ar out s H ar us vs Q E hr e0 hb r hsp => ?_⟩
  rcases hsp with hsp | hsp
  · refine codeAny_mono (A.run Ar out s H ar us vs Q E (hr.mono h) e0 hb r hsp) fun x s' q => ?_
    match x, q with
    | .error e, q => exact False.elim q
    | .ok (.ret u), q => exact q
    | .ok .next, q => exact q
    | .ok .brk, q => exact q
    | .ok .cont, q => exact q
  · exact B.run Ar out s H ar us vs Q E hr e0 hb r hsp
def badN (wd : Wd) (v : V) : Prop := ∀ z, v = .str z → posOf wd.ps z = none
def spBad (K : PySem.W.Frag) (C CE : Addr) (bad : Wd → V → Prop) : Sp := fun vs H _ E => ∃ (x : Addr) (v : V) (wd : Wd), vs = [.ref x, v] ∧ LineAt K C wd H x ∧ Th H v ∧ bad wd v ∧ ∀ e, H e = none → E (.ref CE) (some e) (upd H e (.xd [("found", v)]))
abbrev orS (a b : Sp) : Sp := fun vs H Q E => a vs H Q E ∨ b vs H Q E
/-- a letter that is none of six names -/
theorem sub_len {α : Type} [DecidableEq α] : ∀ {l m : List α}, l.Nodup → (∀ x ∈ l, x ∈ m) → l.length ≤ m.length
  | [], _, _, _ => Nat.zero_le _
  | x :: r, m, nd, h => by
    rw [List.nodup_cons] at nd
    have hx := h x List.mem_cons_self
    have i := sub_len (m := m.erase x) nd.2 fun y hy => (List.mem_erase_of_ne (fun e => nd.1 (by rw [← e]; exact hy))).mpr (h y (List.mem_cons_of_mem _ hy))
    rw [List.length_erase_of_mem hx] at i
    have := List.length_pos_of_mem hx
    rw [List.length_cons]
    omega
def seven : List Str := ["a", "b", "c", "d", "e", "f", "g"]
theorem seven_ok : ∀ z ∈ seven, NameOk z := by
  intro z hz
  simp only [seven, List.mem_cons, List.not_mem_nil, or_false] at hz
  rcases hz with rfl | rfl | rfl | rfl | rfl | rfl | rfl <;> exact ⟨by decide, by decide, by decide⟩
theorem spare {l : List Str} (h : l.length ≤ 6) : ∃ z, NameOk z ∧ z ∉ l := by
  apply Classical.byContradiction
  intro n
  have := sub_len (l := seven) (m := l) (by decide) fun z hz => Classical.byContradiction fun hn => n ⟨z, seven_ok z hz, hn⟩
  have e : seven.length = 7 := rfl
  omega
/-! ### what follows where nothing is due -/
theorem wh_iff {lo hi i : Int} : wh lo hi (.int i) = true ↔ lo ≤ i ∧ i ≤ hi := by simp [wh]
theorem plP_none : ∀ {ps : List (Str × Int)} {as : List Str}, plP as ps = none → (∀ p ∈ ps, 1 ≤ p.2 ∧ p.2 ≤ 3 ∧ p.1 ∉ as) ∧ (ps.map (·.1)).Nodup
  | [], _, _ => ⟨fun p h => (by cases h), List.nodup_nil⟩
  | p :: r, as, h => by
    unfold plP at h
    split at h
    · cases h
    · rename_i c
      split at h
      · rename_i c2
        obtain ⟨i1, i2⟩ := plP_none h
        have w2 := wh_iff.mp c2
        refine ⟨fun q hq => ?_, ?_⟩
        · rcases List.mem_cons.mp hq with rfl | hq
          · exact ⟨w2.1, w2.2, c⟩
          · obtain ⟨a1, a2, a3⟩ := i1 q hq
            exact ⟨a1, a2, fun m => a3 (List.mem_append.mpr (.inl m))⟩
        · rw [List.map_cons, List.nodup_cons]
          refine ⟨fun m => ?_, i2⟩
          obtain ⟨q, hq, e⟩ := List.mem_map.mp m
          exact (i1 q hq).2.2 (List.mem_append.mpr (.inr (by rw [e]; exact List.mem_singleton.mpr rfl)))
      · cases h
theorem loP_none {top : Int} : ∀ {lo : List (Int × Int × Int)} {low : Int}, loP top low lo = none → longsOk top low lo
  | [], _, _ => True.intro
  | (f, l, h) :: r, low, e => by
    unfold loP at e
    split at e
    · rename_i c
      simp only [Bool.and_eq_true] at c
      obtain ⟨⟨c1, c2⟩, c3⟩ := c
      have w1 := wh_iff.mp c1
      have w2 := wh_iff.mp c2
      have w3 := wh_iff.mp c3
      exact ⟨w1.1, w2.1, w2.2, w3.1, w3.2, loP_none e⟩
    · cases e
theorem dueP_ok {ps st : List (Str × Int)} {lo : Option (List (Int × Int × Int))} (hn : ∀ p ∈ ps, NameOk p.1) (hs : ∀ p ∈ st, (p.1 = Str.ofString "staff" ∨ p.1 = Str.ofString "ticket") ∧ 0 ≤ p.2 ∧ p.2 ≤ 1) (h : dueP ps st lo = none) :
    ∃ sp, Wd.Ok ⟨ps, st, lo.getD [], sp⟩ := by
  unfold dueP at h
  split at h
  · cases h
  · rename_i h1
    split at h
    · cases h
    · rename_i h2
      unfold psP at h1
      split at h1
      · rename_i c
        simp only [Bool.and_eq_true, decide_eq_true_eq] at c
        obtain ⟨p1, p2⟩ := plP_none h1
        unfold stP at h2
        split at h2
        · rename_i c2
          simp only [Bool.and_eq_true, decide_eq_true_eq] at c2
          obtain ⟨sp, s1, s2⟩ := spare (l := ps.map (·.1)) (by rw [List.length_map]; omega)
          have top : ((ps.length - 1 : Nat) : Int) = (ps.length : Int) - 1 := by omega
          have l2 : (lo.getD []).length ≤ 2 ∧ longsOk ((ps.length - 1 : Nat) : Int) 0 (lo.getD []) := by
            cases lo with
            | none => exact ⟨Nat.zero_le _, True.intro⟩
            | some l =>
              have h : lsP ((ps.length : Int) - 1) l = none := h
              unfold lsP at h
              split at h
              · rename_i c3
                simp only [Bool.and_eq_true, decide_eq_true_eq] at c3
                rw [top]
                exact ⟨by show l.length ≤ 2; omega, loP_none h⟩
              · cases h
          refine ⟨sp, ⟨by show 2 ≤ ps.length; omega, by show ps.length ≤ 6; omega, fun p hp => ⟨hn p hp, (p1 p hp).1, (p1 p hp).2.1⟩, p2, by show st.length + 1 = ps.length; omega, hs, l2.1, l2.2, s1, s2⟩⟩
        · cases h2
      · cases h1
/-! ### things that hold things -/
theorem deepP {H : Hp} {a : Addr} {vs : List V} {ps : List (Str × Int)} (ha : H a = some (.lst vs)) (r : AllR RP H vs ps) (g : ∀ p ∈ ps, WOk p.1) : Deep H (.ref a) := by
  refine ⟨.lst a vs ha, fun xs e x hx => ?_⟩
  rw [seq_ref ha] at e
  obtain rfl := Option.some.inj e
  obtain ⟨i, hi⟩ := List.getElem?_of_mem hx
  obtain ⟨p, hp, t, rfl, ht⟩ := r.get hi
  refine ⟨.tup t _ ht, fun ys e y hy => ?_⟩
  rw [seq_of_tup (tup_ref ht)] at e
  obtain rfl := Option.some.inj e
  simp only [List.mem_cons, List.not_mem_nil, or_false] at hy
  rcases hy with rfl | rfl
  · exact (g p (List.mem_of_getElem? hp)).th
  · exact .int _
theorem deepL {H : Hp} {a : Addr} {vs : List V} {ps : List (Int × Int × Int)} (ha : H a = some (.lst vs)) (r : AllR RL H vs ps) : Deep H (.ref a) := by
  refine ⟨.lst a vs ha, fun xs e x hx => ?_⟩
  rw [seq_ref ha] at e
  obtain rfl := Option.some.inj e
  obtain ⟨i, hi⟩ := List.getElem?_of_mem hx
  obtain ⟨p, hp, t, rfl, ht⟩ := r.get hi
  refine ⟨.tup t _ ht, fun ys e y hy => ?_⟩
  rw [seq_of_tup (tup_ref ht)] at e
  obtain rfl := Option.some.inj e
  simp only [List.mem_cons, List.not_mem_nil, or_false] at hy
  rcases hy with rfl | rfl | rfl <;> exact .int _
theorem deepN {H : Hp} : Deep H .non := ⟨.non, fun xs e => by cases e⟩
section
variable {P : Program} {w : World} {K : PySem.W.Frag} {mg : Str → Option Value} {base : Heap} {C CE CS fS fE f1 f2 : Addr} {fdS fdE fd1 fd2 : FuncData}
theorem ok_numB {f : Addr} {fd : FuncData} (F : Fun K "number_of" "Line.number_of" s_number_of f fd) (T : Txt mg) (TC : ClsT K C) (ES : SeT K mg CS fS fdS sSE) (ENoPlace : ExC K mg "NoPlace" "NoPlace.__init__" sNoPlace CE fE fdE) :
    FnOk P w K mg base (CX P w) 4 f fd ["self", "name"] (spBad K C CE badN) := by
  refine F.okX sc_number_of (fun vs H Q E h => ?_) (fun cdv A outer s H vs Q E hr h => ?_)
  · obtain ⟨x, v, wd, rfl, _⟩ := h
    rfl
  · obtain ⟨x, v, wd, rfl, ⟨dx, p1, p2, p3, d, xs1, xs2, xs3, hx, _, _, _, _, _, _, kvs, hk, hl, hv⟩, th, bad, k⟩ := h
    refine ⟨_, pss_cons (ps_if (PW.pt (pw_or (pt_not (pt_val (pe_callB call_isi (by rfl) T.isinstance_ (by decide +kernel) (pa_cons (pv 1) (pa_cons (pe_bltn (v := .ty "str") (by rfl) T.str_ (by decide +kernel) rfl) pa_nil))))) (pw_or1 (pt_cmp (pc_dnotin (hu_of hr) (pv 1) (pe_fld (pv 0) rfl)))))) (pss_one (ps_raise rfl (takes_of rfl rfl rfl rfl) (pmk_oex ENoPlace.o ENoPlace.i ENoPlace.t (ok_NoPlace ES ENoPlace) (hr.mono (by decide)) ENoPlace.b .nil pass0 (by rfl) ENoPlace.g (pa_cons (pv 1) pa_nil)))) pss_nil)
      (pss_one (ps_ret (pe_dget (hu_of hr) (pe_fld (pv 0) rfl) (pv 1) (fun _ _ => rfl)))), ?_⟩
    obtain ⟨t, ty, cs⟩ := th.ty (K := K)
    rcases cs with ⟨i, rfl, rfl⟩ | ⟨b, rfl, rfl⟩ | ⟨z, rfl, _, rfl⟩ | ⟨n1, n2, n3, ht⟩
    · exact ⟨_, rfl, _, _, _, _, false, rfl, .ty "str", ty, (by rfl), _, rfl, iteT (iteT ⟨_, rfl, made_one k⟩)⟩
    · exact ⟨_, rfl, _, _, _, _, false, rfl, .ty "str", ty, (by rfl), _, rfl, iteT (iteT ⟨_, rfl, made_one k⟩)⟩
    · have e := hv z
      rw [bad z rfl] at e
      refine ⟨_, rfl, _, _, _, _, true, rfl, .ty "str", ty, (by rfl), _, rfl, iteF ?_⟩
      exact ⟨_, rfl, _, rfl, x, C, dx, _, _, rfl, hx, TC.cl, TC.n4, lf_numbers _ _ _ _, d, none, rfl, .inl ⟨kvs, Sum.inr z, Rd.of hk, rfl, e.symm⟩, _, rfl, iteT ⟨_, rfl, made_one k⟩⟩
    · rcases ht with rfl | rfl | rfl | rfl
      · exact ⟨_, rfl, _, _, _, _, false, rfl, .ty "str", ty, (by rfl), _, rfl, iteT (iteT ⟨_, rfl, made_one k⟩)⟩
      · exact ⟨_, rfl, _, _, _, _, false, rfl, .ty "str", ty, (by rfl), _, rfl, iteT (iteT ⟨_, rfl, made_one k⟩)⟩
      · exact ⟨_, rfl, _, _, _, _, false, rfl, .ty "str", ty, (by rfl), _, rfl, iteT (iteT ⟨_, rfl, made_one k⟩)⟩
      · exact ⟨_, rfl, _, _, _, _, false, rfl, .ty "str", ty, (by rfl), _, rfl, iteT (iteT ⟨_, rfl, made_one k⟩)⟩
/-- Line.__init__ of lists made here -/
def spInitD (K : PySem.W.Frag) (C : Addr) (cl : Tag → Addr) (Pt : Addr) : Sp := fun vs H Q E => ∃ (x dx a1 a2 : Addr) (v3 : V) (vs1 vs2 : List V) (ps st : List (Str × Int)) (lo : Option (List (Int × Int × Int))), vs = [.ref x, .ref a1, .ref a2, v3] ∧ H x = some (.ins C dx []) ∧
  H a1 = some (.lst vs1) ∧ AllR RP H vs1 ps ∧ (∀ p ∈ ps, NameOk p.1) ∧ H a2 = some (.lst vs2) ∧ AllR RP H vs2 st ∧ (∀ p ∈ st, (p.1 = Str.ofString "staff" ∨ p.1 = Str.ofString "ticket") ∧ 0 ≤ p.2 ∧ p.2 ≤ 1) ∧ ThirdAt H v3 lo ∧ TabG H Pt ∧
  (∀ t d, dueP ps st lo = some (t, d) → ∀ H' e u, KI x Pt H H' → H' e = none → Dp K H' u d → E (.ref (cl t)) (some e) (upd H' e (.xd [("found", u)]))) ∧
  (dueP ps st lo = none → ∀ H' sp, Wd.Ok ⟨ps, st, lo.getD [], sp⟩ → KI x Pt H H' → LineAt K C ⟨ps, st, lo.getD [], sp⟩ H' x → Q .non H')
theorem name_wok {z : Str} (h : NameOk z) : WOk z := ⟨by have := h.2.1; omega, h.good⟩
theorem kind_wok {z : Str} (h : z = Str.ofString "staff" ∨ z = Str.ofString "ticket") : WOk z := by
  rcases h with rfl | rfl <;> exact ⟨by decide, good_of _⟩
theorem ok_initD {fI C Pt : Addr} {fdI : FuncData} {cl : Tag → Addr} (Ginit : FnOk P w K mg base CX0 5 fI fdI ["self", "places", "stretches", "longs"] (spInit K C Pt)) (GinitX : FnOk P w K mg base (CX P w) 6 fI fdI ["self", "places", "stretches", "longs"] (spInitX K C cl Pt)) :
    FnOk P w K mg base (CX P w) 6 fI fdI ["self", "places", "stretches", "longs"] (spInitD K C cl Pt) := by
  refine (fn_or Ginit GinitX (by decide)).imp fun vs H Q E h => ?_
  obtain ⟨x, dx, a1, a2, v3, vs1, vs2, ps, st, lo, rfl, hx, h1, r1, hn, h2, r2, hs, h3, tb, kx, kq⟩ := h
  have hn' : ∀ p ∈ ps, nm (.str p.1) = true := fun p hp => (hn p hp).nm
  have dr := due_dr (K := K) h1 r1 hn' h2 r2 hs h3
  cases e : dueP ps st lo with
  | none =>
    obtain ⟨sp, ok⟩ := dueP_ok hn hs e
    refine .inl ⟨x, dx, a1, a2, v3, vs1, vs2, ⟨ps, st, lo.getD [], sp⟩, rfl, hx, .inl (SqL.of h1), rp_dp r1, .inl (SqL.of h2), rp_dp r2, ?_, ok, tb, fun H' ki hL _ => kq e H' sp ok ki hL⟩
    cases lo with
    | none => exact .inl ⟨h3, rfl⟩
    | some l =>
      obtain ⟨a, ws, rfl, q1, q2⟩ := h3
      exact .inr ⟨a, ws, rfl, .inl (SqL.of q1), rl_dp q2⟩
  | some td =>
    obtain ⟨t, d⟩ := td
    rw [e] at dr
    have d3 : Deep H v3 := by
      cases lo with
      | none =>
        obtain rfl : v3 = V.non := h3
        exact deepN
      | some l =>
        obtain ⟨a, ws, rfl, q1, q2⟩ := h3
        exact deepL q1 q2
    refine .inr ⟨x, dx, .ref a1, .ref a2, v3, rfl, hx, deepP h1 r1 (fun p hp => name_wok (hn p hp)), deepP h2 r2 (fun p hp => kind_wok (hs p hp).1), d3, tb, fun t' u e' H' ex ki hex => ?_, fun e' => ?_⟩
    · rw [e'] at dr
      obtain ⟨rfl, dd⟩ := dr
      exact kx t' d e H' ex u ki hex (dp_ls (ki.ls hx tb) dd)
    · rw [e'] at dr
      exact False.elim dr
end
end K8

set_option maxRecDepth 100000
set_option maxHeartbeats 400000
namespace K8
open PySem PySem.Spec PyProof.Rows L2 GxR Gd TL My
theorem filt_itP {α β : Type} (Pv : Nat → Prop) (p0 : Pv 0) {R : Hp → V → β → Prop} (m : Keeps R) {J : It} {G : Hp → Prop} {xs : List V} {src : List α} {F : α → Option β} (w : Walk J xs.length G (YAt xs)) {g : TG} {tt : TT} {te : TE} {vs : List Nat} {σ : L2.St} {H : Hp} {D : Addr} {Qd : Hp → Prop} (hl : src.length = xs.length) (h20 : src.length < sizeLine) (hD : H D = none)
    (hG : ∀ H', KB D H H' → G H')
    (hs : ∀ (i : Nat) (v : V) (a : α) (H' : Hp) (C : VK) (B : Hp → Prop), Pv i → xs[i]? = some v → src[i]? = some a → KB D H H' → H' D ≠ none → (∀ z b H4, Pv (i + 1) → F a = some b → Same H' H4 → R (hide D H4) z b → C z H4) → (∀ H4, Pv (i + 1) → F a = none → Same H' H4 → B H4) →
      g v (wipe σ vs) H' fun σ2 H2 => wipe σ2 vs = wipe σ vs ∧ tt σ2 H2 fun b H3 => if b = true then te σ2 H3 C else B H3)
    (hd : ∀ H' ys, Pv xs.length → KB D H H' → H' D = some (.lst ys) → AllR R (hide D H') ys (src.filterMap F) → Qd H') :
    ∃ W : Nat → Nat → Hp → Prop, (∃ m, W 0 m (upd H D (.lst []))) ∧ ∀ i m H, W i m H →
    (J.stop i H ∧ Qd H) ∨ (J.go i H ∧ ∃ Nx : Hp → Prop, (∀ H', Nx H' → ∃ m', m' < m ∧ W (i + 1) m' H') ∧ ∀ x H', J.yld i H x H' → g x (wipe σ vs) H' fun σ2 H2 => wipe σ2 vs = wipe σ vs ∧ tt σ2 H2 fun b H3 =>
      if b = true then te σ2 H3 fun y H4 => ∃ acc, H4 D = some (.lst acc) ∧ acc.length < sizeLine ∧ Nx (upd H4 D (.lst (acc ++ [y]))) else Nx H3) := by
  refine lc_it w (fun i H' => Pv i ∧ KB D H H' ∧ ∃ ys, H' D = some (.lst ys) ∧ ys.length ≤ i ∧ AllR R (hide D H') ys ((src.take i).filterMap F)) ⟨p0, KB.alloc hD, [], upd_same, Nat.le_refl _, .nil⟩ (fun i H' _ h => hG H' h.2.1) ?_ ?_
  · rintro i v H' H'' hi ⟨pv, kb, ys, e, ly, dy⟩ ⟨rfl, hv⟩
    obtain ⟨a, ha⟩ : ∃ a, src[i]? = some a := ⟨_, List.getElem?_eq_getElem (by omega)⟩
    have e0 : (src.take (i + 1)).filterMap F = (src.take i).filterMap F ++ [a].filterMap F := by rw [take_at ha, List.filterMap_append]
    have hne : H'' D ≠ none := by rw [e]; simp
    refine hs i v a H'' _ _ pv hv ha kb hne ?_ ?_
    · intro z d H4 pv' hF s dz
      refine ⟨_, s _ _ e, by omega, pv', fun c o n h => by rw [upd_ne n]; exact s _ _ (kb c o n h), _, upd_same, ?_, ?_⟩
      · rw [List.length_append]
        exact Nat.succ_le_succ ly
      · rw [e0, show [a].filterMap F = [d] by simp [hF]]
        exact AllR.app (dy.nt m ((hide_mono (same_nt s)).trans hide_put1)) (.cons (m _ _ _ _ hide_put1 dz) .nil)
    · intro H4 pv' hF s
      refine ⟨pv', fun c o n h => s _ _ (kb c o n h), _, s _ _ e, by omega, ?_⟩
      rw [e0, show [a].filterMap F = [] by simp [hF], List.append_nil]
      exact dy.nt m (hide_mono (same_nt s))
  · rintro H' ⟨pv, kb, ys, e, ly, dy⟩
    rw [← hl, List.take_of_length_le (Nat.le_refl _)] at dy
    exact hd H' ys pv kb e dy
def rTidx (K : PySem.W.Frag) : V → List V → Hp → VK → Prop := fun x xs H Q => ∃ p, ∃ ys : List Str, ∃ z j, x = .ref p ∧ xs = [.str z] ∧ SqT K H p (ys.map V.str) ∧ ys[j]? = some z ∧ (∀ m, m < j → ys[m]? ≠ some z) ∧ Q (.int (j : Nat)) H
theorem tidxK {X : Cx} {K : PySem.W.Frag} (h : X.K = K) : MtR X "tuple.index" (rTidx K) := h ▸ mt_tup_index
theorem pe_bmK {X : Cx} {K : PySem.W.Frag} {o e : Expr} {es : List Expr} {to : TE} {t : TA} {name : Str} {apos cpos : Pos} {T id : String} {r : V → List V → Hp → VK → Prop} (h : X.K = K) (pa : PlainAttrs T) (slot : Slot T name id) (hty : typeOf (.builtin id) = pure (.type "method_descriptor")) (hm : MtR X id r) (ho : PE X o to) (ha : PA X (e :: es) t)
    (hbase : attributeBase o name X.env (eval o X.env) = eval o X.env := by rfl)
    (hfew : ((backTo cpos (starEach (e :: es) X.env)).all (fun x => !x.1) && (backToKw cpos (keywordEach [] X.env)).all (fun x => x.1.isSome)
      && decide ((e :: es).length + ([] : List Keyword).length + (if ([] : List Keyword).isEmpty then 0 else 1) < 30)) = true := by rfl)
    (hline : (apos.endLine == cpos.line) = true := by rfl) (hs : starEach (e :: es) X.env = (false, eval e X.env) :: starEach es X.env := by rfl) (hplain : (backTo cpos (starEach es X.env)).any (·.1) = false := by rfl) :
    PE X (.Call (.Attribute o name apos) (e :: es) [] cpos) (tBM K T r to t) := h ▸ pe_bm pa slot hty hm ho ha hbase hfew hline hs hplain
theorem KT.back {Pt x : Addr} {H H' : Hp} (k : KT Pt H H') (h : H' x = none) : H x = none := by
  cases e : H x with
  | none => rfl
  | some o =>
    by_cases q : x = Pt
    · obtain ⟨ps, z, _⟩ := k.tab
      rw [← q, h] at z
      cases z
    · rw [k.keep x o q e] at h
      cases h
theorem side_idx {z : Str} {h : Int} (e : sideI z = some h) : ∃ j : Nat, (j : Int) = h ∧ sides[j]? = some z ∧ (∀ m, m < j → sides[m]? ≠ some z) ∧ 0 ≤ h ∧ h ≤ 1 := by
  unfold sideI at e
  split at e
  · rename_i q
    obtain rfl := Option.some.inj e
    subst q
    exact ⟨0, rfl, rfl, fun m hm => (by omega), by decide, by decide⟩
  · split at e
    · rename_i q
      obtain rfl := Option.some.inj e
      subst q
      exact ⟨1, rfl, rfl, by decide +kernel, by decide, by decide⟩
    · cases e
/-- the first of two names that is none of the line's -/
def fb (ps : List (Str × Int)) (a c : Str) : Option Str := if posOf ps a = none then some a else if posOf ps c = none then some c else none
def idx (ps : List (Str × Int)) (z : Str) : Int := (((posOf ps z).getD 0 : Nat) : Int)
def fu (ps : List (Str × Int)) : List Row → Option Str
  | [] => none
  | .L a c _ :: r => match fb ps a c with
    | some z => some z
    | none => fu ps r
  | .P _ _ :: r => fu ps r
  | .S _ _ :: r => fu ps r
def fb1 (ps : List (Str × Int)) : Row → Option Str
  | .L a c _ => fb ps a c
  | _ => none
theorem fu_cons (ps : List (Str × Int)) (x : Row) (r : List Row) : fu ps (x :: r) = (match fb1 ps x with | some z => some z | none => fu ps r) := by
  cases x <;> rfl
theorem fu_app (ps : List (Str × Int)) : ∀ (l m : List Row), fu ps l = none → fu ps (l ++ m) = fu ps m
  | [], _, _ => rfl
  | x :: r, m, h => by
    rw [fu_cons] at h
    rw [List.cons_append, fu_cons]
    cases e : fb1 ps x with
    | some z => rw [e] at h; cases h
    | none =>
      rw [e] at h
      exact fu_app ps r m h
theorem fu_at {ps : List (Str × Int)} {l : List Row} {i : Nat} {x : Row} (h : l[i]? = some x) (h0 : fu ps (l.take i) = none) : (∀ z, fb1 ps x = some z → fu ps l = some z) ∧ (fb1 ps x = none → fu ps (l.take (i + 1)) = none) := by
  constructor
  · intro z e
    have hl : l = l.take i ++ x :: l.drop (i + 1) := by
      have := List.take_append_drop i l
      rw [drop_atG h] at this
      exact this.symm
    rw [hl, fu_app ps _ _ h0, fu_cons, e]
  · intro e
    rw [take_at h, fu_app ps _ _ h0, fu_cons, e]
    rfl
section
variable {P : Program} {w : World} {K : PySem.W.Frag} {mg : Str → Option Value} {base : Heap} {aSIDES aSORTS C CE : Addr}
abbrev s_long_of_words : Stmt := top 40
theorem sc_long_of_words : FnScope ["line", "words"] ["line", "words"] (defScope s_long_of_words) := ⟨rfl, rfl, rfl, by decide +kernel, rfl, by decide +kernel, by decide +kernel⟩
def spLongW (K : PySem.W.Frag) (C CE : Addr) : Sp := fun vs H Q E => ∃ (x a : Addr) (wd : Wd) (k0 n1 n2 s : Str) (h : Int), vs = [.ref x, .ref a] ∧ LineAt K C wd H x ∧ SqL K H a ([k0, n1, n2, s].map V.str) ∧ WOk n1 ∧ WOk n2 ∧ sideI s = some h ∧
  (∀ z, fb wd.ps n1 n2 = some z → ∀ e, H e = none → E (.ref CE) (some e) (upd H e (.xd [("found", .str z)]))) ∧
  (fb wd.ps n1 n2 = none → ∀ t H', H t = none → Same H H' → H' t = some (.tup [.int (idx wd.ps n1), .int (idx wd.ps n2), .int h]) → Q (.ref t) H')
theorem ok_long_of_words {f f1 : Addr} {fd fd1 : FuncData} (F : Fun K "_long_of_words" "_long_of_words" s_long_of_words f fd) (T : Txt mg) (TC : ClsT K C) (gSIDES : mg "SIDES" = some (.ref aSIDES)) (cSIDES : Cst K aSIDES sides)
    (Mnumber_of : Mt K C "number_of" "Line.number_of" s_number_of ["self", "name"] f1 fd1) (GnumX : FnOk P w K mg base (CX P w) 4 f1 fd1 ["self", "name"] (orS (spNum K C) (spBad K C CE badN))) :
    FnOk P w K mg base (CX P w) 5 f fd ["line", "words"] (spLongW K C CE) := by
  refine F.okX sc_long_of_words (fun vs H Q E h => ?_) (fun cdv A outer s H vs Q E hr h => ?_)
  · obtain ⟨x, a, wd, k0, n1, n2, s, h, rfl, _⟩ := h
    rfl
  · obtain ⟨x, a, wd, k0, n1, n2, s, h, rfl, hL, hl, w1, w2, hs, kx, k⟩ := h
    obtain ⟨j, ej, j1, j2, _, _⟩ := side_idx hs
    refine ⟨_, pss_one (ps_ret (pe_tup (pa_cons (pe_meth (pv 0) TC.cl Mnumber_of.m GnumX (hr.mono (by decide)) Mnumber_of.b .nil (passes_call (takes_of rfl rfl rfl rfl) (fun _ _ _ _ h => h)) (pa_cons (pe_ix ix_list (pv 1) pe_int (fun _ _ => rfl)) pa_nil)) (pa_cons (pe_meth (pv 0) TC.cl Mnumber_of.m GnumX (hr.mono (by decide)) Mnumber_of.b .nil (passes_call (takes_of rfl rfl rfl rfl) (fun _ _ _ _ h => h)) (pa_cons (pe_ix ix_list (pv 1) pe_int (fun _ _ => rfl)) pa_nil)) (pa_cons (pe_bm PySem.F.plainAttrs_tuple PySem.F.slot_tuple_index PySem.F.type_tuple_index mt_tup_index (pe_glob (v := .ref aSIDES) (by rfl) gSIDES rfl) (pa_cons (pe_ix ix_list (pv 1) pe_int (fun _ _ => rfl)) pa_nil)) pa_nil))))), ?_⟩
    obtain ⟨dx, q1, q2, q3, d, _, _, _, hx, _⟩ := id hL
    have nm := lf_no q1 q2 q3 d (m := Str.ofString "number_of") (by decide +kernel)
    refine ⟨_, rfl, x, dx, _, rfl, hx, nm, _, rfl, a, _, 1, _, rfl, rfl, hl, atI_nat (j := 1) rfl, ?_⟩
    cases e1 : posOf wd.ps n1 with
    | none =>
      refine .inr ⟨x, .str n1, wd, rfl, hL, w1.th, fun z hz => ?_, kx n1 (by unfold fb; rw [if_pos e1])⟩
      rw [← V.str.inj hz]
      exact e1
    | some i =>
      refine .inl ⟨x, n1, wd, i, rfl, hL, e1, ?_⟩
      refine ⟨_, rfl, x, dx, _, rfl, hx, nm, _, rfl, a, _, 2, _, rfl, rfl, hl, atI_nat (j := 2) rfl, ?_⟩
      cases e2 : posOf wd.ps n2 with
      | none =>
        refine .inr ⟨x, .str n2, wd, rfl, hL, w2.th, fun z hz => ?_, kx n2 (by unfold fb; rw [if_neg (by rw [e1]; simp), if_pos e2])⟩
        rw [← V.str.inj hz]
        exact e2
      | some m =>
        refine .inl ⟨x, n2, wd, m, rfl, hL, e2, ?_⟩
        refine ⟨.inr (.inl ⟨rfl, cSIDES.2⟩), _, rfl, a, _, 3, _, rfl, rfl, hl, atI_nat (j := 3) rfl, aSIDES, sides, _, j, rfl, rfl, cSIDES.1 _, j1, j2, three_line, fun t ht => k (by unfold fb; rw [if_neg (by rw [e1]; simp), if_neg (by rw [e2]; simp)]) t _ ht (same_alloc ht) ?_⟩
        rw [upd_same, ej]
        unfold idx
        rw [e1, e2]
        rfl
end
end K8

set_option maxRecDepth 100000
set_option maxHeartbeats 400000
namespace K8
open PySem PySem.Spec PyProof.Rows L2 GxR Gd TL My
theorem nameOk_of {z : Str} (h : nm (.str z) = true) : NameOk z := by
  unfold nm at h
  simp only [Bool.and_eq_true, decide_eq_true_eq] at h
  exact ⟨h.1.1, h.1.2, h.2⟩
theorem dig_int {b : Str} {d : Int} (h : digS b = some d) : intText? b = some d ∧ b.length = 1 := by
  unfold digS at h
  split at h
  · rename_i c e
    split at h
    · rename_i q
      obtain rfl := Option.some.inj h
      have eb : b = ⟨#[c]⟩ := tl_inj1 (by
        show b.cps.toList = [c]
        exact e)
      subst eb
      have : c = 48 ∨ c = 49 ∨ c = 50 ∨ c = 51 ∨ c = 52 ∨ c = 53 ∨ c = 54 ∨ c = 55 ∨ c = 56 ∨ c = 57 := by omega
      rcases this with rfl | rfl | rfl | rfl | rfl | rfl | rfl | rfl | rfl | rfl <;> decide +kernel
    · cases h
  · cases h
theorem parse_shape {l : List Str} {r : Row} (h : parse l = some r) : (∃ n b d, r = .P n d ∧ l = [Str.ofString "place", n, b] ∧ NameOk n ∧ digS b = some d) ∨
    (∃ n b d, r = .S n d ∧ l = [Str.ofString "stretch", n, b] ∧ (n = Str.ofString "staff" ∨ n = Str.ofString "ticket") ∧ sideI b = some d) ∨
    (∃ a c b d, r = .L a c d ∧ l = [Str.ofString "long", a, c, b] ∧ NameOk a ∧ NameOk c ∧ sideI b = some d) := by
  match l, h with
  | k :: q, h =>
    rw [parse_cons] at h
    split at h
    · rename_i e
      subst e
      unfold parseP at h
      split at h
      · rename_i x a b e
        injection e with e1 e2
        subst e2
        split at h
        · rename_i hn
          obtain ⟨d, hd, rfl⟩ := Option.map_eq_some_iff.mp h
          exact .inl ⟨a, b, d, rfl, rfl, nameOk_of hn, hd⟩
        · cases h
      · cases h
    · split at h
      · rename_i e
        subst e
        unfold parseS at h
        split at h
        · rename_i x a b e
          injection e with e1 e2
          subst e2
          split at h
          · rename_i hn
            obtain ⟨d, hd, rfl⟩ := Option.map_eq_some_iff.mp h
            exact .inr (.inl ⟨a, b, d, rfl, rfl, hn, hd⟩)
          · cases h
        · cases h
      · split at h
        · rename_i e
          subst e
          unfold parseL at h
          split at h
          · rename_i x a c b e
            injection e with e1 e2
            subst e2
            split at h
            · rename_i hn
              obtain ⟨d, hd, rfl⟩ := Option.map_eq_some_iff.mp h
              exact .inr (.inr ⟨a, c, b, d, rfl, rfl, nameOk_of hn.1, nameOk_of hn.2, hd⟩)
            · cases h
          · cases h
        · cases h
def FP : Row → Option (Str × Int)
  | .P z d => some (z, d)
  | _ => none
def FS : Row → Option (Str × Int)
  | .S z d => some (z, d)
  | _ => none
def FL (ps : List (Str × Int)) : Row → Option (Int × Int × Int)
  | .L a c h => some (idx ps a, idx ps c, h)
  | _ => none
inductive Out
  | told (ps st : List (Str × Int)) (lo : List (Int × Int × Int)) | bad (t : Tag) (d : PyData) | place (z : Str)
def resR (l : List Row) : Out := match dueP (l.filterMap FP) (l.filterMap FS) none with
  | some (t, d) => .bad t d
  | none => match fu (l.filterMap FP) l with
    | some z => .place z
    | none => match dueP (l.filterMap FP) (l.filterMap FS) (some (l.filterMap (FL (l.filterMap FP)))) with
      | some (t, d) => .bad t d
      | none => .told (l.filterMap FP) (l.filterMap FS) (l.filterMap (FL (l.filterMap FP)))
/-- a list of texts -/
def RW (H : Hp) (v : V) (l : List Str) : Prop := ∃ t, v = .ref t ∧ H t = some (.lst (l.map V.str))
theorem keepW : Keeps RW := fun _ _ _ _ e ⟨t, h1, h2⟩ => ⟨t, h1, e _ _ (by simp) h2⟩
/-- rows that all have a form -/
def Parsed (rows : List Str) (l : List Row) : Prop := rows.map (fun z => parse (wordsOf z)) = l.map some
theorem parsed_at {rows : List Str} {l : List Row} (h : Parsed rows l) {i : Nat} {r : Row} (e : l[i]? = some r) : ∃ z, rows[i]? = some z ∧ parse (wordsOf z) = some r := by
  have q : (rows.map (fun z => parse (wordsOf z)))[i]? = (l.map some)[i]? := by rw [h]
  rw [List.getElem?_map, List.getElem?_map, e] at q
  cases e2 : rows[i]? with
  | none => rw [e2] at q; cases q
  | some z =>
    rw [e2] at q
    exact ⟨z, rfl, Option.some.inj q⟩
theorem parsed_len {rows : List Str} {l : List Row} (h : Parsed rows l) : l.length = rows.length := by
  have := congrArg List.length h
  rw [List.length_map, List.length_map] at this
  exact this.symm
theorem fp_ok {rows : List Str} {l : List Row} (h : Parsed rows l) : (∀ p ∈ l.filterMap FP, NameOk p.1) ∧ ∀ p ∈ l.filterMap FS, (p.1 = Str.ofString "staff" ∨ p.1 = Str.ofString "ticket") ∧ 0 ≤ p.2 ∧ p.2 ≤ 1 := by
  constructor
  · intro p hp
    obtain ⟨r, hr, e⟩ := List.mem_filterMap.mp hp
    obtain ⟨i, hi⟩ := List.getElem?_of_mem hr
    obtain ⟨z, _, hz⟩ := parsed_at h hi
    rcases parse_shape hz with ⟨n, b, d, rfl, _, hn, _⟩ | ⟨n, b, d, rfl, _⟩ | ⟨a, c, b, d, rfl, _⟩
    · obtain rfl := Option.some.inj e
      exact hn
    · cases e
    · cases e
  · intro p hp
    obtain ⟨r, hr, e⟩ := List.mem_filterMap.mp hp
    obtain ⟨i, hi⟩ := List.getElem?_of_mem hr
    obtain ⟨z, _, hz⟩ := parsed_at h hi
    rcases parse_shape hz with ⟨n, b, d, rfl, _⟩ | ⟨n, b, d, rfl, _, hn, hd⟩ | ⟨a, c, b, d, rfl, _⟩
    · cases e
    · obtain rfl := Option.some.inj e
      obtain ⟨j, _, _, _, h0, h1⟩ := side_idx hd
      exact ⟨hn, h0, h1⟩
    · cases e
section
variable {P : Program} {w : World} {K : PySem.W.Frag} {mg : Str → Option Value} {base : Heap} {aSIDES aSORTS C CE : Addr} {cl : Tag → Addr}
abbrev s_line_of_rows : Stmt := top 39
theorem sc_line_of_rows : FnScope ["rows", "parted", "places", "stretches", "line", "longs", "row", "words"] ["rows"] (defScope s_line_of_rows) := ⟨rfl, rfl, rfl, by decide +kernel, rfl, by decide +kernel, by decide +kernel⟩
def spLineOf (K : PySem.W.Frag) (C CE : Addr) (cl : Tag → Addr) (Pt : Addr) : Sp := fun vs H Q E => ∃ (a : Addr) (rows : List Str) (l : List Row), vs = [.ref a] ∧ SqL K H a (rows.map V.str) ∧ Parsed rows l ∧ (∀ z ∈ rows, WOk z) ∧ rows.length < 1000000 ∧ TabG H Pt ∧
  (∀ t d, resR l = .bad t d → ∀ H' e u, KT Pt H H' → H' e = none → Dp K H' u d → E (.ref (cl t)) (some e) (upd H' e (.xd [("found", u)]))) ∧
  (∀ z, resR l = .place z → ∀ H' e, KT Pt H H' → H' e = none → E (.ref CE) (some e) (upd H' e (.xd [("found", .str z)]))) ∧
  (∀ ps st lo, resR l = .told ps st lo → ∀ x H' sp, KT Pt H H' → LineAt K C ⟨ps, st, lo, sp⟩ H' x → Q (.ref x) H')
end
end K8

set_option maxRecDepth 100000
set_option maxHeartbeats 400000
namespace K8
open PySem PySem.Spec PyProof.Rows L2 GxR Gd TL My
/-- an own exception that keeps a row -/
structure ExR (K : PySem.W.Frag) (mg : Str → Option Value) (x q : Str) (st : Stmt) (C f : Addr) (fd : FuncData) : Prop where
  g : mg x = some (.ref C)
  F : Fun K "__init__" q st f fd
  b : Binds K fd ["self", "row"] []
  o : OexC K C
  i : PySem.W.findIn K (.ref C) "__init__" = some (some (.ref f))
  t : PySem.W.typeIn K (.ref f) = some (.type "function")
  n : PySem.W.findIn K (.ref C) "row" = some none
  e : PySem.W.exmOne K (.ref C) (.ref C) = some true
  x : XfC K C
  u : CauC K C
abbrev sNoText : Stmt := inClass (top 11) 0
theorem scNoText : FnScope ["self", "row"] ["self", "row"] (defScope sNoText) := ⟨rfl, rfl, rfl, by decide +kernel, rfl, by decide +kernel, by decide +kernel⟩
/-! ### the rows of a text, read one by one -/
def scan : Nat → Nat → List Str → Sum Nat (List Row)
  | _, _, [] => .inr []
  | n, b, z :: r => match parse (wordsOf z) with
    | none => .inl (n + 1)
    | some w => if srt w < b then .inl (n + 1) else match scan (n + 1) (srt w) r with
      | .inl e => .inl e
      | .inr l => .inr (w :: l)
def rowsIn (z : Str) : List Str := if z = Str.empty then [] else PySem.Txt.split z (Str.ofString "\n")
def readV : V → Sum Nat (List Row)
  | .str z => scan 0 0 (rowsIn z)
  | _ => .inl 0
def pre (l : List Row) : Sum Nat (List Row) → Sum Nat (List Row)
  | .inl e => .inl e
  | .inr m => .inr (l ++ m)
theorem pre_nil (x : Sum Nat (List Row)) : pre [] x = x := by cases x <;> rfl
theorem rowsIn_wok {z : Str} (h : WOk z) : ∀ p ∈ rowsIn z, WOk p := by
  intro p hp
  unfold rowsIn at hp
  split at hp
  · cases hp
  · exact split_wok h hp
theorem rowsIn_len {z : Str} (h : WOk z) : (rowsIn z).length ≤ 200002 := by
  unfold rowsIn
  split
  · exact Nat.zero_le _
  · have := PyProof.Rows.split_le z (Str.ofString "\n")
    have := h.1
    omega
section
variable {P : Program} {w : World} {K : PySem.W.Frag} {mg : Str → Option Value} {base : Heap} {CS CT C CE fS fT : Addr} {fdS fdT : FuncData} {cl : Tag → Addr}
theorem ok_NoText (S : SeT K mg CS fS fdS sSE) (T : ExR K mg "NoText" "NoText.__init__" sNoText CT fT fdT) : FnOk P w K mg base CX0 2 fT fdT ["self", "row"] (spOne K CT "row") := by
  refine T.F.ok scNoText (fun vs H Q E h => ?_) (fun cdv A outer s H vs Q E hr h => ?_)
  · obtain ⟨a, v, rfl, _⟩ := h
    rfl
  · obtain ⟨a, v, rfl, e, k⟩ := h
    refine ⟨_, pss_cons (ps_expr (pe_ccall S.c (ok_SE (CX := CX0) S) hr (by rfl) S.g S.k S.b .nil pass0 (pa_cons (pv 0) (pa_cons pe_str pa_nil))))
      (pss_one (ps_ost (pv 0) (pv 1))), ?_⟩
    refine ⟨_, rfl, a, CT, _, rfl, T.o, e, ?_⟩
    exact ⟨_, rfl, _, rfl, a, CT, rfl, T.o, T.n, .inl ⟨e, fun dx h1 h2 => k dx h1 h2⟩⟩
abbrev s_rows_of : Stmt := top 18
theorem sc_rows_of : FnScope ["text"] ["text"] (defScope s_rows_of) := ⟨rfl, rfl, rfl, by decide +kernel, rfl, by decide +kernel, by decide +kernel⟩
abbrev s_read_line : Stmt := top 32
theorem sc_read_line : FnScope ["text", "rows", "ahead", "number", "row", "sort"] ["text"] (defScope s_read_line) := ⟨rfl, rfl, rfl, by decide +kernel, rfl, by decide +kernel, by decide +kernel⟩
def spRowsOf (CT : Addr) : Sp := fun vs H Q E => ∃ (v : V), vs = [v] ∧ Th H v ∧ (∀ z, v = .str z → WOk z ∧ ∀ p, H p = none → Q (.ref p) (upd H p (.lst ((rowsIn z).map V.str)))) ∧
  ((∀ z, v ≠ .str z) → ∀ e, H e = none → E (.ref CT) (some e) (upd H e (.xd [("row", .int 0)])))
theorem ok_rows_of {f : Addr} {fd : FuncData} (F : Fun K "rows_of" "rows_of" s_rows_of f fd) (T : Txt mg) (ES : SeT K mg CS fS fdS sSE) (ENoText : ExR K mg "NoText" "NoText.__init__" sNoText CT fT fdT) : FnOk P w K mg base (CX P w) 4 f fd ["text"] (spRowsOf CT) := by
  refine F.okX sc_rows_of (fun vs H Q E h => ?_) (fun cdv A outer s H vs Q E hr h => ?_)
  · obtain ⟨z, rfl, _⟩ := h
    rfl
  · obtain ⟨v, rfl, th, ks, kx⟩ := h
    refine ⟨_, pss_cons (ps_if (pt_not (pt_val (pe_callB call_isi (by rfl) T.isinstance_ (by decide +kernel) (pa_cons (pv 0) (pa_cons (pe_bltn (v := .ty "str") (by rfl) T.str_ (by decide +kernel) rfl) pa_nil))))) (pss_one (ps_raise rfl (takes_of rfl rfl rfl rfl) (pmk_oex ENoText.o ENoText.i ENoText.t (ok_NoText ES ENoText) (hr.mono (by decide)) ENoText.b .nil pass0 (by rfl) ENoText.g (pa_cons pe_int pa_nil)))) pss_nil)
      (pss_one (ps_ret (pe_ifExp (pt_truth (pv 0) (fun _ => rfl)) (pe_split (pv 0) pe_str) (pe_lst pa_nil)))), ?_⟩
    obtain ⟨t, ty, cs⟩ := th.ty (K := K)
    rcases cs with ⟨i, rfl, rfl⟩ | ⟨b, rfl, rfl⟩ | ⟨z, rfl, _, rfl⟩ | ⟨n1, n2, n3, ht⟩
    · exact ⟨_, rfl, _, _, _, _, false, rfl, .ty "str", ty, (by rfl), _, rfl, iteT (made_one (kx (fun z h => (by cases h))))⟩
    · exact ⟨_, rfl, _, _, _, _, false, rfl, .ty "str", ty, (by rfl), _, rfl, iteT (made_one (kx (fun z h => (by cases h))))⟩
    · obtain ⟨wz, kq⟩ := ks z rfl
      refine ⟨_, rfl, _, _, _, _, true, rfl, .ty "str", ty, (by rfl), _, rfl, iteF ?_⟩
      by_cases e : z = Str.empty
      · subst e
        refine ⟨_, rfl, false, ⟨wz.line, by decide +kernel⟩, iteF ⟨Nat.zero_le _, fun p hp => ?_⟩⟩
        exact kq p hp
      · refine ⟨_, rfl, true, ⟨wz.line, ?_⟩, iteT ⟨_, rfl, ⟨_, rfl⟩, z, _, rfl, rfl, by decide +kernel, fit2 (by have := wz.1; omega), fun p hp => ?_⟩⟩
        · have := len_ne e
          simp; omega
        · have q := kq p hp
          rw [show rowsIn z = PySem.Txt.split z (Str.ofString "\n") from if_neg e] at q
          exact q
    · have no : ∀ z, v ≠ .str z := n3
      rcases ht with rfl | rfl | rfl | rfl
      · exact ⟨_, rfl, _, _, _, _, false, rfl, .ty "str", ty, (by rfl), _, rfl, iteT (made_one (kx no))⟩
      · exact ⟨_, rfl, _, _, _, _, false, rfl, .ty "str", ty, (by rfl), _, rfl, iteT (made_one (kx no))⟩
      · exact ⟨_, rfl, _, _, _, _, false, rfl, .ty "str", ty, (by rfl), _, rfl, iteT (made_one (kx no))⟩
      · exact ⟨_, rfl, _, _, _, _, false, rfl, .ty "str", ty, (by rfl), _, rfl, iteT (made_one (kx no))⟩
end
end K8

set_option maxRecDepth 100000
set_option maxHeartbeats 400000
namespace K8
open PySem PySem.Spec PyProof.Rows L2 GxR Gd TL My
/-- what a line's rows come to -/
def Ends3 (K : PySem.W.Frag) (C CE : Addr) (cl : Tag → Addr) (Pt : Addr) (H : Hp) (l : List Row) (Q : VK) (E : XK) : Prop :=
  (∀ t d, resR l = .bad t d → ∀ H' e u, KT Pt H H' → H' e = none → Dp K H' u d → E (.ref (cl t)) (some e) (upd H' e (.xd [("found", u)]))) ∧
  (∀ z, resR l = .place z → ∀ H' e, KT Pt H H' → H' e = none → E (.ref CE) (some e) (upd H' e (.xd [("found", .str z)]))) ∧
  (∀ ps st lo, resR l = .told ps st lo → ∀ x H' sp, KT Pt H H' → LineAt K C ⟨ps, st, lo, sp⟩ H' x → Q (.ref x) H')
theorem Ends3.go {K : PySem.W.Frag} {C CE : Addr} {cl : Tag → Addr} {Pt : Addr} {H H1 : Hp} {l : List Row} {Q : VK} {E : XK} (h : Ends3 K C CE cl Pt H l Q E) (k : KT Pt H H1) : Ends3 K C CE cl Pt H1 l Q E :=
  ⟨fun t d e H' x u k' => h.1 t d e H' x u (k.trans k'), fun z e H' x k' => h.2.1 z e H' x (k.trans k'), fun ps st lo e x H' sp k' => h.2.2 ps st lo e x H' sp (k.trans k')⟩
def spReadX (K : PySem.W.Frag) (C CE CT : Addr) (cl : Tag → Addr) (Pt : Addr) : Sp := fun vs H Q E => ∃ (v : V), vs = [v] ∧ Th H v ∧ (∀ z, v = .str z → WOk z) ∧ TabG H Pt ∧
  (∀ n : Nat, readV v = .inl n → ∀ H' e, KT Pt H H' → H' e = none → E (.ref CT) (some e) (upd H' e (.xd [("row", .int (n : Nat))]))) ∧ (∀ l, readV v = .inr l → Ends3 K C CE cl Pt H l Q E)
section
variable {P : Program} {w : World} {K : PySem.W.Frag} {mg : Str → Option Value} {base : Heap} {CS CT C CE fS fT : Addr} {fdS fdT : FuncData} {cl : Tag → Addr}
theorem ok_read_line {f f1 f2 f3 Pt : Addr} {fd fd1 fd2 fd3 : FuncData} (F : Fun K "read_line" "read_line" s_read_line f fd) (T : Txt mg) (ES : SeT K mg CS fS fdS sSE) (ENoText : ExR K mg "NoText" "NoText.__init__" sNoText CT fT fdT)
    (Nrows_of : Fn K mg "rows_of" s_rows_of ["text"] f1 fd1) (GrowsX : FnOk P w K mg base (CX P w) 4 f1 fd1 ["text"] (spRowsOf CT))
    (Nline_sort : Fn K mg "line_sort" s_line_sort ["row"] f2 fd2) (Gline_sort : FnOk P w K mg base CX0 4 f2 fd2 ["row"] (spSort Pt))
    (Nline_of_rows : Fn K mg "line_of_rows" s_line_of_rows ["rows"] f3 fd3) (GlineX : FnOk P w K mg base (CX P w) 8 f3 fd3 ["rows"] (spLineOf K C CE cl Pt)) :
    FnOk P w K mg base (CX P w) 9 f fd ["text"] (spReadX K C CE CT cl Pt) := by
  refine F.okX sc_read_line (fun vs H Q E h => ?_) (fun cdv A outer s H vs Q E hr h => ?_)
  · obtain ⟨v, rfl, _⟩ := h
    rfl
  · obtain ⟨v, rfl, th, wk, tb, kt, ke⟩ := h
    by_cases hv : ∃ z, v = .str z
    · obtain ⟨z, rfl⟩ := hv
      have wz := wk z rfl
      have wr := rowsIn_wok wz
      have lr := rowsIn_len wz
      have ktz : ∀ n : Nat, scan 0 0 (rowsIn z) = .inl n → ∀ H' e, KT Pt H H' → H' e = none → E (.ref CT) (some e) (upd H' e (.xd [("row", .int (n : Nat))])) := kt
      have kez : ∀ l, scan 0 0 (rowsIn z) = .inr l → Ends3 K C CE cl Pt H l Q E := ke
      refine ⟨_, pss_cons (ps_set (i := 1) sc_read_line.nd rfl (Or.inl rfl) (pe_call GrowsX (hr.mono (by decide)) (by rfl) Nrows_of.g Nrows_of.kp Nrows_of.b .nil (passes_call (takes_of rfl rfl rfl rfl) (fun _ _ _ _ h => h)) (pa_cons (pv 0) pa_nil)))
      (pss_cons (ps_set (i := 2) sc_read_line.nd rfl (Or.inl rfl) pe_int)
      (pss_cons (ps_for (passes_of rfl) rfl (pi_enumS (by rfl) T.enumerate_ (pa_cons (pv 1) pa_nil) (pk_cons pe_int pk_nil)) (pg_tup (by rfl) (pgs_cons (pg_name (i := 3) sc_read_line.nd rfl (Or.inl rfl)) (pgs_cons (pg_name (i := 4) sc_read_line.nd rfl (Or.inl rfl)) pgs_nil))) (pss_cons (ps_set (i := 5) sc_read_line.nd rfl (Or.inl rfl) (pe_call Gline_sort (hr.mono (by decide)) (by rfl) Nline_sort.g Nline_sort.kp Nline_sort.b .nil pass0 (pa_cons (pv 4) pa_nil)))
          (pss_cons (ps_if (PW.pt (pw_or (pt_cmpR op_isN (pv 5) pe_non (nomark _)) (pw_or1 (pt_cmpR op_lt (pv 5) (pv 2) (nomark _))))) (pss_one (ps_raise rfl (takes_of rfl rfl rfl rfl) (pmk_oex ENoText.o ENoText.i ENoText.t (ok_NoText ES ENoText) (hr.mono (by decide)) ENoText.b .nil pass0 (by rfl) ENoText.g (pa_cons (pv 3) pa_nil)))) pss_nil)
          (pss_one (ps_set (i := 2) sc_read_line.nd rfl (Or.inl rfl) (pv 5))))))
      (pss_one (ps_ret (pe_call GlineX (hr.mono (by decide)) (by rfl) Nline_of_rows.g Nline_of_rows.kp Nline_of_rows.b .nil (passes_call (takes_of rfl rfl rfl rfl) (fun _ _ _ _ h => h)) (pa_cons (pv 1) pa_nil)))))), ?_⟩
      generalize hσ : L2.start _ _ = σ0
      obtain rfl : σ0 = [some (.str z), none, none, none, none, none] := hσ.symm.trans rfl
      refine ⟨_, rfl, .str z, rfl, th, fun z' hz => ⟨wk z' hz, fun p hp => ?_⟩, fun no => absurd rfl (no z)⟩
      obtain rfl := V.str.inj hz
      generalize rowsIn z = rows at wr lr ktz kez ⊢
      have s1 : Same H (upd H p (.lst (rows.map V.str))) := same_alloc hp
      have e1 : (upd H p (.lst (rows.map V.str))) p = some (.lst (rows.map V.str)) := upd_same
      generalize upd H p (.lst (rows.map V.str)) = H1 at s1 e1 ⊢
      simp only [List.set_cons_succ, List.set_cons_zero]
      have k1 := same_kt tb s1
      refine ⟨_, rfl, p, _, 1, rfl, rfl, by decide, by decide, SqL.of e1, for_it (walk_enumS (K := K) (xs := rows.map V.str)) (fun i σ H' => ∃ (u3 u4 u5 : Option V) (b : Nat) (l0 : List Row), σ = [some (.str z), some (.ref p), some (.int (b : Nat)), u3, u4, u5] ∧ Parsed (rows.take i) l0 ∧ scan 0 0 rows = pre l0 (scan i b (rows.drop i)) ∧ KT Pt H1 H') ?_ ?_ ?_ ?_⟩
      · exact ⟨_, _, _, 0, [], rfl, rfl, (pre_nil _).symm, KT.refl k1.tab⟩
      · rintro i σ H' _ ⟨_, _, _, _, _, _, _, _, k2⟩
        exact seq_kt k1.tab k2 (SqL.of e1)
      · rintro i v σ X1 X2 hi ⟨u3, u4, u5, b, l0, rfl, pr, sc, k2⟩ ⟨T1, X, Y, rfl, hT1, rfl, z1, z2⟩
        obtain rfl := Option.some.inj z1
        replace z2 : (rows.map V.str)[i]? = some Y := z2
        rw [List.getElem?_map] at z2
        cases er : rows[i]? with
        | none => rw [er] at z2; cases z2
        | some y =>
          rw [er] at z2
          obtain rfl := Option.some.inj z2
          have wy := wr y (List.mem_of_getElem? er)
          rw [drop_atG er] at sc
          have k3 := k2.trans (KT.alloc (o := .tup [.int (1 + (i : Nat)), .str y]) k2.tab hT1)
          have eT : upd X1 T1 (.tup [.int (1 + (i : Nat)), .str y]) T1 = some (.tup [.int (1 + (i : Nat)), .str y]) := upd_same
          refine ⟨T1, _, rfl, SqT.of eT, rfl, _, _, rfl, _, _, rfl, rfl, ?_⟩
          simp only [List.set_cons_succ, List.set_cons_zero]
          refine ⟨_, rfl, y, rfl, wy, k3.tab, fun H4 k4 => ?_⟩
          have k5 := k3.trans k4
          have raise : ∀ n : Nat, n = i + 1 → scan 0 0 rows = .inl n → ∀ e, H4 e = none → E (.ref CT) (some e) (upd H4 e (.xd [("row", .int (1 + (i : Nat)))])) := fun n hn hs e he => by
            have q := ktz n hs H4 e (k1.trans k5) he
            rw [hn, show (((i + 1 : Nat) : Nat) : Int) = 1 + (i : Int) by omega] at q
            exact q
          cases ep : parse (wordsOf y) with
          | none =>
            have es : scan i b (y :: rows.drop (i + 1)) = .inl (i + 1) := by
              unfold scan
              rw [ep]
            rw [es] at sc
            exact ⟨_, rfl, rfl, true, rfl, iteT (iteT ⟨_, rfl, made_one (raise _ rfl sc)⟩)⟩
          | some r =>
            refine ⟨_, rfl, rfl, false, congrArg V.bl (decide_eq_false (by simp [sortV])), iteF ⟨_, rfl, _, rfl, _, _, rfl, rfl, _, rfl, ?_⟩⟩
            by_cases c : srt r < b
            · have es : scan i b (y :: rows.drop (i + 1)) = .inl (i + 1) := by
                unfold scan
                rw [ep]
                exact if_pos c
              rw [es] at sc
              rw [decide_eq_true (by omega)]
              exact iteT ⟨_, rfl, made_one (raise _ rfl sc)⟩
            · rw [decide_eq_false (by omega)]
              refine iteF ⟨_, rfl, _, _, _, srt r, l0 ++ [r], rfl, ?_, ?_, k5⟩
              · unfold Parsed at pr ⊢
                rw [take_at er, List.map_append, List.map_append, pr]
                show _ ++ [parse (wordsOf y)] = _ ++ [some r]
                rw [ep]
              · have es : scan i b (y :: rows.drop (i + 1)) = (match scan (i + 1) (srt r) (rows.drop (i + 1)) with | .inl e => .inl e | .inr l => .inr (r :: l)) := by
                  rw [scan, ep]
                  exact if_neg c
                rw [es] at sc
                rw [sc]
                cases scan (i + 1) (srt r) (rows.drop (i + 1)) with
                | inl e => rfl
                | inr l =>
                  show Sum.inr (l0 ++ (r :: l)) = Sum.inr (l0 ++ [r] ++ l)
                  rw [List.append_assoc]
                  rfl
      · rintro σ H2 ⟨u3, u4, u5, b, l0, rfl, pr, sc, k2⟩
        have len : (rows.map V.str).length = rows.length := List.length_map _
        rw [len, List.take_of_length_le (Nat.le_refl _)] at pr
        rw [len, List.drop_eq_nil_of_le (Nat.le_refl _)] at sc
        have sc : scan 0 0 rows = .inr l0 := by
          rw [sc]
          show Sum.inr (l0 ++ []) = _
          rw [List.append_nil]
        have q := (kez l0 sc).go (k1.trans k2)
        exact ⟨_, rfl, p, rows, l0, rfl, seq_kt k1.tab k2 (SqL.of e1), pr, wr, by omega, k2.tab, q.1, q.2.1, q.2.2⟩
    · skip
      refine ⟨_, pss_cons (ps_set (i := 1) sc_read_line.nd rfl (Or.inl rfl) (pe_call GrowsX (hr.mono (by decide)) (by rfl) Nrows_of.g Nrows_of.kp Nrows_of.b .nil (passes_call (takes_of rfl rfl rfl rfl) (fun _ _ _ _ h => h)) (pa_cons (pv 0) pa_nil)))
      (pss_cons (ps_set (i := 2) sc_read_line.nd rfl (Or.inl rfl) pe_int)
      (pss_cons (ps_for (passes_of rfl) rfl (pi_enumS (by rfl) T.enumerate_ (pa_cons (pv 1) pa_nil) (pk_cons pe_int pk_nil)) (pg_tup (by rfl) (pgs_cons (pg_name (i := 3) sc_read_line.nd rfl (Or.inl rfl)) (pgs_cons (pg_name (i := 4) sc_read_line.nd rfl (Or.inl rfl)) pgs_nil))) (pss_cons (ps_set (i := 5) sc_read_line.nd rfl (Or.inl rfl) (pe_call Gline_sort (hr.mono (by decide)) (by rfl) Nline_sort.g Nline_sort.kp Nline_sort.b .nil pass0 (pa_cons (pv 4) pa_nil)))
          (pss_cons (ps_if (PW.pt (pw_or (pt_cmpR op_isN (pv 5) pe_non (nomark _)) (pw_or1 (pt_cmpR op_lt (pv 5) (pv 2) (nomark _))))) (pss_one (ps_raise rfl (takes_of rfl rfl rfl rfl) (pmk_oex ENoText.o ENoText.i ENoText.t (ok_NoText ES ENoText) (hr.mono (by decide)) ENoText.b .nil pass0 (by rfl) ENoText.g (pa_cons (pv 3) pa_nil)))) pss_nil)
          (pss_one (ps_set (i := 2) sc_read_line.nd rfl (Or.inl rfl) (pv 5))))))
      (pss_one (ps_ret (pe_call GlineX (hr.mono (by decide)) (by rfl) Nline_of_rows.g Nline_of_rows.kp Nline_of_rows.b .nil (passes_call (takes_of rfl rfl rfl rfl) (fun _ _ _ _ h => h)) (pa_cons (pv 1) pa_nil)))))), ?_⟩
      refine ⟨_, rfl, v, rfl, th, fun z hz => absurd ⟨z, hz⟩ hv, fun no e he => ?_⟩
      have e0 : readV v = .inl 0 := by
        unfold readV
        split
        · rename_i z
          exact absurd ⟨z, rfl⟩ hv
        · rfl
      exact kt 0 e0 H e (KT.refl tb) he
end
end K8

set_option maxRecDepth 100000
set_option maxHeartbeats 1000000
/-! An object made in a try's body, by an __init__ that may raise. -/
namespace My
open PySem PySem.Spec PyProof.Rows L2 GxR Gd TL
section
variable {X : Cx} {CX : CXT} {k : Nat} {f C : Addr} {fd : FuncData} {ps : List Str} {sp : Sp} {E : L2.St → XK} {x : Str} {p pos : Pos} {e : Expr} {es : List Expr} {t : TA} {dvs : List V} {ds : List Value}
def tMakeS (C : Addr) (sp : Sp) (dvs : List V) (E : L2.St → XK) (t : TA) : TE := fun σ H Q => t σ H fun vs G => ∀ a b, G a = none → G b = none → b ≠ a →
  sp (.ref a :: (vs ++ dvs)) (upd (upd G b (.own a)) a (.ins C b [])) (fun v G' => v = .non ∧ Q (.ref a) G') (E σ)
theorem run_makeS {pins : List (Addr × Obj)} {σ : L2.St} {H : Hp} {s : Shared} {Q : VK} {us : List Value} {vs : List V} (M : Mk X.K C f) (F : FnOk X.prog X.w X.K X.mg X.base CX k f fd ps sp) (hr : Room (k + 1) X.A) (hb : Binds X.K fd ps ds) (hd : Vals dvs ds)
    (hx : PassesAt CX X σ (E σ)) (I : L2.Inv X pins σ H s) (r : Vals vs us)
    (h : ∀ a b, H a = none → H b = none → b ≠ a → sp (.ref a :: (vs ++ dvs)) (upd (upd H b (.own a)) a (.ins C b [])) (fun v G => v = .non ∧ Q (.ref a) G) (E σ)) : wpAny (model X.prog X.w) X.A (call (.ref C) us) (EP X pins σ Q) X.xe s := by
  have n0 := I.hok.fresh (Nat.le_refl s.heap.objs.size)
  have n1 := I.hok.fresh (Nat.le_succ s.heap.objs.size)
  have q := h _ _ n1 n0 (Nat.ne_of_lt (Nat.lt_succ_self _))
  have J := Inv.made (C := C) I
  have rs : Vals (V.ref (s.heap.objs.size + 1) :: (vs ++ dvs)) (Value.ref (s.heap.objs.size + 1) :: (us ++ ds)) := .cons rfl (r.append hd)
  have len : (Value.ref (s.heap.objs.size + 1) :: us ++ ds).length = ps.length := by
    have := F.len _ _ _ _ q
    rw [← this]
    exact rs.length.symm
  apply wpAny_call
  apply make_map (f := f) I.kIn M.makes M.init (beq_iff_eq.mp M.fn)
  have run := F.run _ X.stack _ _ ⟨Value.ref (s.heap.objs.size + 1) :: us, []⟩ (Value.ref (s.heap.objs.size + 1) :: (us ++ ds)) _ _ (E σ) (hr.make C us []) (J.env0.make C us []) (hb _ (Value.ref (s.heap.objs.size + 1) :: us) J.kIn len) rs q
  apply codeAny_mono run
  intro r' s' hq
  match r', hq with
  | .error z, hq => exact hx pins _ _ z s' J hq
  | .ok (.ret u), hq =>
    obtain ⟨v, G, J', rv, ⟨ev, q'⟩⟩ := J.after hq
    subst ev
    exact ⟨rv, V.ref (s.heap.objs.size + 1), G, J', rfl, q'⟩
  | .ok .next, hq => exact hq.elim
  | .ok .brk, hq => exact hq.elim
  | .ok .cont, hq => exact hq.elim
theorem pe_makeS (M : Mk X.K C f) (F : FnOk X.prog X.w X.K X.mg X.base CX k f fd ps sp) (hr : Room (k + 1) X.A) (hg : Gl X x) (hm : X.mg x = some (.ref C)) (hb : Binds X.K fd ps ds) (hd : Vals dvs ds) (hx : ∀ σ, PassesAt CX X σ (E σ))
    (ha : PA X (e :: es) t) (hdb : (x == ("__debug__" : Str)) = false := by decide) (he : starEach (e :: es) X.env = (false, eval e X.env) :: starEach es X.env := by rfl) (hpl : (backTo pos (starEach es X.env)).any (·.1) = false := by rfl) :
    PE X (.Call (.Name x p) (e :: es) [] pos) (tMakeS C sp dvs E t) := by
  constructor
  intro pins s σ H Q I h
  apply wpAny_Call_Name_kw (ld_glob I hg hm ?_ hdb)
  apply PySem.W.callWith_K (h₀ := X.base) I.ok.mod.kin M.kp ?_ he hpl
  exact thn (ha.run pos pins s σ H _ I h) fun us s1 ⟨vs, G, J, r, q⟩ => ⟨J.kIn, run_makeS M F hr hb hd (hx σ) J r q⟩
end
end My

set_option maxRecDepth 100000
set_option maxHeartbeats 400000
namespace K8
open PySem PySem.Spec PyProof.Rows L2 GxR Gd TL My
/-- the classes of what is refused, in the order in which they are caught -/
inductive Cat
  | text | places | name | twice | number | stretches | place | longs
def Cat.n : Cat → Nat
  | .text => 0
  | .places => 1
  | .name => 2
  | .twice => 3
  | .number => 4
  | .stretches => 5
  | .place => 6
  | .longs => 7
def Tag.cat : Tag → Cat
  | .places => .places
  | .name => .name
  | .twice => .twice
  | .number => .number
  | .stretches => .stretches
  | .longs => .longs
def toldP (ps st : List (Str × Int)) (lo : List (Int × Int × Int)) : PyData := .tuple [.tuple (ps.map dP), .tuple (st.map dP), .tuple (lo.map dL)]
def resD : Sum Nat (List Row) → PyData
  | .inl n => .tuple [.str (Str.ofString "text"), .int (n : Nat)]
  | .inr l => match resR l with
    | .bad t d => .tuple [.str (Str.ofString t.s), d]
    | .place z => .tuple [.str (Str.ofString "place"), .str z]
    | .told ps st lo => .tuple [.str (Str.ofString "told"), toldP ps st lo]
theorem passS0 {X : Cx} (σ : L2.St) : PassesAt CX0 X σ E0 := fun _ _ _ _ _ _ h => False.elim h
section
variable {P : Program} {w : World} {K : PySem.W.Frag} {mg : Str → Option Value} {base : Heap} {CS C fS : Addr} {fdS : FuncData} {ca : Cat → Addr} {f1 f2 g0 g1 g2 g3 g4 g5 g6 g7 : Addr} {fd1 fd2 gd0 gd1 gd2 gd3 gd4 gd5 gd6 gd7 : FuncData}
abbrev s_law_caught : Stmt := top 59
theorem sc_law_caught : FnScope ["_law_text_here", "e"] ["_law_text_here"] (defScope s_law_caught) := ⟨rfl, rfl, rfl, by decide +kernel, rfl, by decide +kernel, by decide +kernel⟩
def spCaught (K : PySem.W.Frag) (Pt : Addr) : Sp := fun vs H Q _ => ∃ (v : V), vs = [v] ∧ Th H v ∧ (∀ z, v = .str z → WOk z) ∧ TabG H Pt ∧ ∀ H' u, KT Pt H H' → Dp K H' u (resD (readV v)) → Q u H'
theorem ok_caught {f Pt : Addr} {fd : FuncData} (F : Fun K "_law_caught" "_law_caught" s_law_caught f fd) (T : Txt mg) (TC : ClsT K C) (ES : SeT K mg CS fS fdS sSE)
    (ENoText : ExR K mg "NoText" "NoText.__init__" sNoText (ca .text) g0 gd0) (ENoPlaces : ExC K mg "NoPlaces" "NoPlaces.__init__" sNoPlaces (ca .places) g1 gd1) (ENoName : ExC K mg "NoName" "NoName.__init__" sNoName (ca .name) g2 gd2) (ETwice : ExC K mg "Twice" "Twice.__init__" sTwice (ca .twice) g3 gd3)
    (ENoNumber : ExC K mg "NoNumber" "NoNumber.__init__" sNoNumber (ca .number) g4 gd4) (ENoStretches : ExC K mg "NoStretches" "NoStretches.__init__" sNoStretches (ca .stretches) g5 gd5) (ENoPlace : ExC K mg "NoPlace" "NoPlace.__init__" sNoPlace (ca .place) g6 gd6) (ENoLongs : ExC K mg "NoLongs" "NoLongs.__init__" sNoLongs (ca .longs) g7 gd7)
    (XM : ∀ s t : Cat, s.n < t.n → PySem.W.exmOne K (.ref (ca t)) (.ref (ca s)) = some false)
    (Nread_line : Fn K mg "read_line" s_read_line ["text"] f1 fd1) (Gread_line : FnOk P w K mg base (CX P w) 9 f1 fd1 ["text"] (spReadX K C (ca .place) (ca .text) (fun t => ca t.cat) Pt))
    (Mtold : Mt K C "told" "Line.told" s_told ["self"] f2 fd2) (Gtold : FnOk P w K mg base CX0 1 f2 fd2 ["self"] (spTold K C)) :
    FnOk P w K mg base CX0 10 f fd ["_law_text_here"] (spCaught K Pt) := by
  refine F.ok sc_law_caught (fun vs H Q E h => ?_) (fun cdv A outer s H vs Q E hr h => ?_)
  · obtain ⟨v, rfl, _⟩ := h
    rfl
  · obtain ⟨v, rfl, th, wk, tb, k⟩ := h
    refine ⟨_, pss_one (ps_try_cl rfl rfl sc_law_caught.nd takes_never (.named (i := 1) (ts := fun a cls d => _) ⟨by rfl, by decide, .inl ENoText.g⟩ rfl (by rfl) (fun a oe cls d pn hz hf => (pss_one (ps_ret (pe_tup (pa_cons pe_str (pa_cons (pe_xf ENoText.x ENoText.n hz hf (pv 1)) pa_nil)))))) (.named (i := 1) (ts := fun a cls d => _) ⟨by rfl, by decide, .inl ENoPlaces.g⟩ rfl (by rfl) (fun a oe cls d pn hz hf => (pss_one (ps_ret (pe_tup (pa_cons pe_str (pa_cons (pe_xf ENoPlaces.x ENoPlaces.n hz hf (pv 1)) pa_nil)))))) (.named (i := 1) (ts := fun a cls d => _) ⟨by rfl, by decide, .inl ENoName.g⟩ rfl (by rfl) (fun a oe cls d pn hz hf => (pss_one (ps_ret (pe_tup (pa_cons pe_str (pa_cons (pe_xf ENoName.x ENoName.n hz hf (pv 1)) pa_nil)))))) (.named (i := 1) (ts := fun a cls d => _) ⟨by rfl, by decide, .inl ETwice.g⟩ rfl (by rfl) (fun a oe cls d pn hz hf => (pss_one (ps_ret (pe_tup (pa_cons pe_str (pa_cons (pe_xf ETwice.x ETwice.n hz hf (pv 1)) pa_nil)))))) (.named (i := 1) (ts := fun a cls d => _) ⟨by rfl, by decide, .inl ENoNumber.g⟩ rfl (by rfl) (fun a oe cls d pn hz hf => (pss_one (ps_ret (pe_tup (pa_cons pe_str (pa_cons (pe_xf ENoNumber.x ENoNumber.n hz hf (pv 1)) pa_nil)))))) (.named (i := 1) (ts := fun a cls d => _) ⟨by rfl, by decide, .inl ENoStretches.g⟩ rfl (by rfl) (fun a oe cls d pn hz hf => (pss_one (ps_ret (pe_tup (pa_cons pe_str (pa_cons (pe_xf ENoStretches.x ENoStretches.n hz hf (pv 1)) pa_nil)))))) (.named (i := 1) (ts := fun a cls d => _) ⟨by rfl, by decide, .inl ENoPlace.g⟩ rfl (by rfl) (fun a oe cls d pn hz hf => (pss_one (ps_ret (pe_tup (pa_cons pe_str (pa_cons (pe_xf ENoPlace.x ENoPlace.n hz hf (pv 1)) pa_nil)))))) (.named (i := 1) (ts := fun a cls d => _) ⟨by rfl, by decide, .inl ENoLongs.g⟩ rfl (by rfl) (fun a oe cls d pn hz hf => (pss_one (ps_ret (pe_tup (pa_cons pe_str (pa_cons (pe_xf ENoLongs.x ENoLongs.n hz hf (pv 1)) pa_nil)))))) (.plain (ts := fun a cls d => _) ⟨by rfl, by decide, .inl ES.g⟩ (fun a oe cls d pn hz hf => (pss_one (ps_ret (pe_tup (pa_cons pe_str (pa_cons pe_non pa_nil)))))) .nil))))))))) (fun W pn xe tk _ => (pss_one (ps_ret (pe_tup (pa_cons pe_str (pa_cons (pe_methX0 (pe_callS Gread_line (hr.mono (by decide)) (by rfl) Nread_line.g Nread_line.kp Nread_line.b (fun σ => passAt tk σ) (pa_cons (pv 0) pa_nil)) TC.cl Mtold.m Gtold (hr.mono (by decide)) Mtold.b (fun σ => passS0 σ)) pa_nil))))))), ?_⟩
    have ret : ∀ {H' : Hp} {e : Addr} {fs : List (Str × V)} {tag : Str} {u : V} {d : PyData} {p : Addr}, KT Pt H H' → H' e = none → Dp K H' u d → resD (readV v) = .tuple [.str tag, d] → upd H' e (.xd fs) p = none → Q (.ref p) (upd (upd H' e (.xd fs)) p (.tup [.str tag, u])) := by
      intro H' e fs tag u d p kt he hd hr hp
      have s2 := (same_alloc (o := .xd fs) he).trans (same_alloc (o := .tup [.str tag, u]) hp)
      refine k _ _ (kt.trans (same_kt kt.tab s2)) ?_
      rw [hr]
      exact .tup (SqT.of upd_same) (.cons (.str _) (.cons (dp_nt (same_nt s2) hd) .nil))
    refine ⟨_, rfl, v, rfl, th, wk, tb, fun n hn H' e kt he => ?_, fun l hl => ⟨fun t d hd H' e u kt he du => ?_, fun z hz H' e kt he => ?_, fun ps st lo ht x H' sp kt hL => ?_⟩⟩
    · have hr2 : resD (readV v) = .tuple [.str (Str.ofString "text"), .int (n : Nat)] := by rw [hn]; rfl
      have ret := fun {p : Addr} (hp : upd H' e (.xd [("row", .int (n : Nat))]) p = none) => ret (u := .int (n : Nat)) kt he (.int _) hr2 hp
      refine ⟨true, ENoText.e, fun _ y hy => ?_, nofun⟩
      exact ⟨_, rfl, rfl, rfl, e, _, _, rfl, upd_same, rfl, two_line, fun u hu => ret hu⟩
    · have hr2 : resD (readV v) = .tuple [.str (Str.ofString t.s), d] := by
        rw [hl]
        show (match resR l with | .bad t d => PyData.tuple [.str (Str.ofString t.s), d] | .place z => .tuple [.str (Str.ofString "place"), .str z] | .told ps st lo => .tuple [.str (Str.ofString "told"), toldP ps st lo]) = _
        rw [hd]
      have ret := fun {p : Addr} (hp : upd H' e (.xd [("found", u)]) p = none) => ret (u := u) kt he du hr2 hp
      cases t with
      | places =>
        refine ⟨false, XM .text .places (by decide), nofun, fun _ => ⟨true, ENoPlaces.e, fun _ y hy => ?_, nofun⟩⟩
        exact ⟨_, rfl, rfl, rfl, e, _, _, rfl, upd_same, rfl, two_line, fun u hu => ret hu⟩
      | name =>
        refine ⟨false, XM .text .name (by decide), nofun, fun _ => ⟨false, XM .places .name (by decide), nofun, fun _ => ⟨true, ENoName.e, fun _ y hy => ?_, nofun⟩⟩⟩
        exact ⟨_, rfl, rfl, rfl, e, _, _, rfl, upd_same, rfl, two_line, fun u hu => ret hu⟩
      | twice =>
        refine ⟨false, XM .text .twice (by decide), nofun, fun _ => ⟨false, XM .places .twice (by decide), nofun, fun _ => ⟨false, XM .name .twice (by decide), nofun, fun _ => ⟨true, ETwice.e, fun _ y hy => ?_, nofun⟩⟩⟩⟩
        exact ⟨_, rfl, rfl, rfl, e, _, _, rfl, upd_same, rfl, two_line, fun u hu => ret hu⟩
      | number =>
        refine ⟨false, XM .text .number (by decide), nofun, fun _ => ⟨false, XM .places .number (by decide), nofun, fun _ => ⟨false, XM .name .number (by decide), nofun, fun _ => ⟨false, XM .twice .number (by decide), nofun, fun _ => ⟨true, ENoNumber.e, fun _ y hy => ?_, nofun⟩⟩⟩⟩⟩
        exact ⟨_, rfl, rfl, rfl, e, _, _, rfl, upd_same, rfl, two_line, fun u hu => ret hu⟩
      | stretches =>
        refine ⟨false, XM .text .stretches (by decide), nofun, fun _ => ⟨false, XM .places .stretches (by decide), nofun, fun _ => ⟨false, XM .name .stretches (by decide), nofun, fun _ => ⟨false, XM .twice .stretches (by decide), nofun, fun _ => ⟨false, XM .number .stretches (by decide), nofun, fun _ => ⟨true, ENoStretches.e, fun _ y hy => ?_, nofun⟩⟩⟩⟩⟩⟩
        exact ⟨_, rfl, rfl, rfl, e, _, _, rfl, upd_same, rfl, two_line, fun u hu => ret hu⟩
      | longs =>
        refine ⟨false, XM .text .longs (by decide), nofun, fun _ => ⟨false, XM .places .longs (by decide), nofun, fun _ => ⟨false, XM .name .longs (by decide), nofun, fun _ => ⟨false, XM .twice .longs (by decide), nofun, fun _ => ⟨false, XM .number .longs (by decide), nofun, fun _ => ⟨false, XM .stretches .longs (by decide), nofun, fun _ => ⟨false, XM .place .longs (by decide), nofun, fun _ => ⟨true, ENoLongs.e, fun _ y hy => ?_, nofun⟩⟩⟩⟩⟩⟩⟩⟩
        exact ⟨_, rfl, rfl, rfl, e, _, _, rfl, upd_same, rfl, two_line, fun u hu => ret hu⟩
    · have hr2 : resD (readV v) = .tuple [.str (Str.ofString "place"), .str z] := by
        rw [hl]
        show (match resR l with | .bad t d => PyData.tuple [.str (Str.ofString t.s), d] | .place z => .tuple [.str (Str.ofString "place"), .str z] | .told ps st lo => .tuple [.str (Str.ofString "told"), toldP ps st lo]) = _
        rw [hz]
      have ret := fun {p : Addr} (hp : upd H' e (.xd [("found", .str z)]) p = none) => ret (u := .str z) kt he (.str _) hr2 hp
      refine ⟨false, XM .text .place (by decide), nofun, fun _ => ⟨false, XM .places .place (by decide), nofun, fun _ => ⟨false, XM .name .place (by decide), nofun, fun _ => ⟨false, XM .twice .place (by decide), nofun, fun _ => ⟨false, XM .number .place (by decide), nofun, fun _ => ⟨false, XM .stretches .place (by decide), nofun, fun _ => ⟨true, ENoPlace.e, fun _ y hy => ?_, nofun⟩⟩⟩⟩⟩⟩⟩
      exact ⟨_, rfl, rfl, rfl, e, _, _, rfl, upd_same, rfl, two_line, fun u hu => ret hu⟩
    · have hr2 : resD (readV v) = .tuple [.str (Str.ofString "told"), toldP ps st lo] := by
        rw [hl]
        show (match resR l with | .bad t d => PyData.tuple [.str (Str.ofString t.s), d] | .place z => .tuple [.str (Str.ofString "place"), .str z] | .told ps st lo => .tuple [.str (Str.ofString "told"), toldP ps st lo]) = _
        rw [ht]
      obtain ⟨dx', p1, p2, p3, d, _, _, _, hx, _⟩ := id hL
      refine ⟨x, dx', _, rfl, hx, lf_no _ _ _ _ (by decide +kernel), x, _, rfl, hL, fun t H2 s2 dt => ⟨two_line, fun p hp => ?_⟩⟩
      have s3 := same_alloc (o := .tup [.str (Str.ofString "told"), .ref t]) hp
      refine k _ _ (kt.trans (same_kt kt.tab (s2.trans s3))) ?_
      rw [hr2]
      exact .tup (SqT.of upd_same) (.cons (.str _) (.cons (dp_nt (same_nt s3) dt) .nil))
end
end K8

set_option maxRecDepth 100000
set_option maxHeartbeats 400000
namespace K8
open PySem PySem.Spec PyProof.Rows L2 GxR Gd TL My
theorem pick0 {K : PySem.W.Frag} {H : Hp} {b L : Addr} {m : Nat} {n : Int} {ts : List V} {Q : VK} (hb : Bx b n H) (n9 : n ≤ 90000) (m0 : 0 < m) (m9 : m ≤ 1000) (hm : ts.length = m) (hL : H L = some (.lst ts)) (nL : L ≠ b)
    (k : ∀ v H', v ∈ ts → KB b H H' → Bx b (n + 1) H' → Q v H') : spTake [.ref b, .int (m : Nat)] H (fun y H2 => rIxL K (.ref L) y H2 Q) E0 := by
  refine ⟨b, m, n, rfl, hb, by omega, by omega, dec9000 (by omega) (by omega), fun d H' d0 d1 off bx => ?_⟩
  obtain ⟨j, rfl⟩ := Int.eq_ofNat_of_zero_le d0
  have hj : j < ts.length := by omega
  exact ⟨L, ts, _, ts[j], rfl, rfl, SqL.of (KB.off off _ _ nL hL), atI_nat (List.getElem?_eq_getElem hj), k _ _ (List.getElem_mem hj) (KB.off off) bx⟩
/-- a short text -/
def Sh (z : Str) : Prop := z.length ≤ 8 ∧ Good z
theorem cat_new {H : Hp} {a b : Addr} {xs ys : List V} {Q : VK} (ha : H a = some (.lst xs)) (hb : H b = some (.lst ys)) (l : xs.length + ys.length ≤ 1000) (k : ∀ p H', Same H H' → H p = none → H' p = some (.lst (xs ++ ys)) → Q (.ref p) H') : rCat (.ref a) (.ref b) H Q :=
  ⟨a, b, xs, ys, rfl, rfl, ha, hb, fit l, fun p hp => k p _ (same_alloc hp) hp upd_same⟩
section
variable {P : Program} {w : World} {K : PySem.W.Frag} {mg : Str → Option Value} {base : Heap} {f1 : Addr} {fd1 : FuncData}
abbrev s_law_signs : Stmt := top 53
theorem sc_law_signs : FnScope ["_law_some"] [] (defScope s_law_signs) := ⟨rfl, rfl, rfl, by decide +kernel, rfl, by decide +kernel, by decide +kernel⟩
abbrev s_law_word : Stmt := top 54
theorem sc_law_word : FnScope ["_law_box_here", "_law_world_here", "_law_names_here", "_law_some", "_law_name", "_law_roads"] ["_law_box_here", "_law_world_here"] (defScope s_law_word) := ⟨rfl, rfl, rfl, by decide +kernel, rfl, by decide +kernel, by decide +kernel⟩
def spSigns : Sp := fun vs H Q _ => vs = [] ∧ ∀ z : Str, z.length = 94 → Good z → Q (.str z) H
theorem ok_law_signs {f : Addr} {fd : FuncData} (F : Fun K "_law_signs" "_law_signs" s_law_signs f fd) (T : Txt mg) : FnOk P w K mg base CX0 1 f fd [] spSigns := by
  refine F.ok sc_law_signs (fun vs H Q E h => ?_) (fun cdv A outer s H vs Q E hr h => ?_)
  · obtain ⟨rfl, _⟩ := h
    rfl
  · obtain ⟨rfl, k⟩ := h
    refine ⟨_, pss_cons (ps_set (i := 0) sc_law_signs.nd rfl (Or.inl rfl) pe_str)
      (pss_one (ps_ret (pe_op op_add_str (pv 0) pe_str))), ?_⟩
    exact ⟨_, rfl, _, _, rfl, rfl, by decide +kernel, k _ (by decide +kernel) (good_app (good_of _) (good_of _))⟩
def spWord (K : PySem.W.Frag) : Sp := fun vs H Q _ => ∃ (b : Addr) (v : V) (wd : Wd) (n : Int), vs = [.ref b, v] ∧ Bx b n H ∧ n ≤ 80000 ∧ Dp K H v wd.data ∧ wd.Ok ∧ ∀ z H', Sh z → KB b H H' → Bx b (n + 1) H' → Q (.str z) H'
theorem ok_law_word {f : Addr} {fd : FuncData} (F : Fun K "_law_word" "_law_word" s_law_word f fd) (T : Txt mg)
    (Nlaw_take : Fn K mg "_law_take" sTake ["_law_box_here", "_law_many"] f1 fd1) (Glaw_take : FnOk P w K mg base CX0 1 f1 fd1 ["_law_box_here", "_law_many"] spTake) :
    FnOk P w K mg base CX0 2 f fd ["_law_box_here", "_law_world_here"] (spWord K) := by
  refine F.ok sc_law_word (fun vs H Q E h => ?_) (fun cdv A outer s H vs Q E hr h => ?_)
  · obtain ⟨b, v, wd, n, rfl, _⟩ := h
    rfl
  · obtain ⟨b, v, wd, n, rfl, hb, n8, hD, ok, k⟩ := h
    obtain ⟨wa, vp, vs_, vl, vu, rfl, hw, hp, hs, hl, hu⟩ := dp_four hD
    obtain ⟨ap, xp, rfl, hap, dap⟩ := dp_list hp
    obtain rfl := dp_str hu
    have p6 := ok.p6
    have lp : xp.length = wd.ps.length := by rw [dpAll_len dap, List.length_map]
    refine ⟨_, pss_cons (ps_setLc (i := 2) (own := [("_law_name", 4), ("_law_roads", 5)]) (g := gTup K 2 (gCons (gName 4) (gCons (gName 5) gNil))) (tt := tYes) rfl sc_law_word.nd rfl rfl (sw_true rfl rfl rfl (by decide +kernel)) (pi_list (pe_ix ix_list (pv 1) pe_int (fun _ _ => rfl))) (blkOk_by (own := [("_law_name", 4), ("_law_roads", 5)]) (N := ["_law_box_here", "_law_world_here", "_law_names_here", "_law_some", "_law_name", "_law_roads"]) (sc := defScope s_law_word) (by decide +kernel)) (fun _ _ _ _ _ => (pg_tup (by rfl) (pgs_cons (pg_name (i := 4) sc_law_word.nd rfl (Or.inl rfl)) (pgs_cons (pg_name (i := 5) sc_law_word.nd rfl (Or.inl rfl)) pgs_nil)))) (fun _ _ _ _ _ => pts_nil) (fun _ _ _ _ _ => (pv 4)))
      (pss_cons (ps_set (i := 3) sc_law_word.nd rfl (Or.inl rfl) (pe_op op_cat (pe_op op_cat (pv 2) (pv 2)) (pe_lst (pa_cons (pe_ix ix_list (pv 1) pe_int (fun _ _ => rfl)) (pa_cons pe_str (pa_cons pe_str (pa_cons pe_str (pa_cons pe_str (pa_cons pe_str (pa_cons pe_str (pa_cons pe_str (pa_cons pe_str (pa_cons pe_str (pa_cons pe_str (pa_cons pe_str pa_nil)))))))))))))))
      (pss_cons (ps_set (i := 3) sc_law_word.nd rfl (Or.inl rfl) (pe_op op_cat (pv 3) (pe_lst (pa_cons pe_str (pa_cons pe_str (pa_cons pe_str (pa_cons pe_str (pa_cons pe_str (pa_cons pe_str (pa_cons pe_str (pa_cons pe_str pa_nil)))))))))))
      (pss_one (ps_ret (pe_ix ix_list (pv 3) (pe_call Glaw_take (hr.mono (by decide)) (by rfl) Nlaw_take.g Nlaw_take.kp Nlaw_take.b .nil pass0 (pa_cons (pv 0) (pa_cons (pe_callB call_len_seq (by rfl) T.len_ PySem.boot_len (pa_cons (pv 3) pa_nil)) pa_nil))) (fun _ _ => rfl)))))), ?_⟩
    generalize hσ : L2.start _ _ = σ0
    obtain rfl : σ0 = [some (.ref b), some (.ref wa), none, none, none, none] := hσ.symm.trans rfl
    refine ⟨_, rfl, wa, _, 0, _, rfl, rfl, hw, atI_nat (j := 0) rfl, ap, rfl, ⟨_, hap⟩, fun D hD => strs_it (walk_list (K := K) (xs := xp)) (out := wd.ps.map (·.1)) (by rw [List.length_map, lp]) (by rw [List.length_map]; omega) hD (fun H' kb => (KB.seq' hD kb).seq hap) ?_ ?_⟩
    · rintro i v H' C B hv kb k
      obtain ⟨d, hd1, hd2⟩ := dpAll_get dap hv
      obtain ⟨p, hp, rfl⟩ := get_map hd1
      obtain ⟨t, y1, y2, rfl, ht, r1, r2⟩ := dp_two hd2
      obtain rfl := dp_str r1
      obtain rfl := dp_int r2
      refine ⟨t, _, rfl, (KB.seq' hD kb).seqT ht, rfl, _, _, rfl, _, _, rfl, rfl, wipe2 (by simp) (by simp), lcY ⟨_, rfl, k p.1 _ ?_ (Same.refl _)⟩⟩
      rw [List.getElem?_map, hp]
      rfl
    · intro H1 kb eN
      have s1 := KB.same hD kb
      clear kb
      simp only [List.set_cons_succ, List.set_cons_zero]
      refine ⟨_, rfl, _, rfl, cat_new eN eN (by simp only [List.length_map]; omega) fun q1 H2 s2 _ e2 => ?_⟩
      have s12 := s1.trans s2
      refine ⟨_, rfl, wa, _, 3, _, rfl, rfl, (same_nt s12).seq hw, atI_nat (j := 3) rfl, fit (by simp), fun q2 hq2 => ?_⟩
      have s3 := s12.trans (same_alloc (o := .lst [.str wd.sp, .str (Str.ofString "place"), .str (Str.ofString "stretch"), .str (Str.ofString "long"), .str (Str.ofString "staff"), .str (Str.ofString "ticket"), .str (Str.ofString "low"), .str (Str.ofString "high"), .str (Str.ofString "0"), .str (Str.ofString "1"), .str (Str.ofString "3"), .str (Str.ofString "4")]) hq2)
      refine cat_new (same_alloc hq2 _ _ e2) upd_same (by simp only [List.length_map, List.length_append, List.length_cons, List.length_nil]; omega) fun q3 H4 s4 _ e4 => ?_
      have s5 := s3.trans s4
      clear s12 s3 e2 s4
      simp only [List.set_cons_succ, List.set_cons_zero]
      refine ⟨_, rfl, fit (by simp), fun q5 hq5 => ?_⟩
      have s6 := s5.trans (same_alloc (o := .lst [.str (Str.ofString "9"), .str (Str.ofString "10"), .str (Str.ofString "01"), .str (Str.ofString "-1"), .str (Str.ofString ""), .str (Str.ofString "A"), .str (Str.ofString "abcdefg"), .str (Str.ofString "Low")]) hq5)
      refine cat_new (same_alloc hq5 _ _ e4) upd_same (by simp only [List.length_map, List.length_append, List.length_cons, List.length_nil]; omega) fun q7 H8 s8 n7 e8 => ?_
      have s9 := s6.trans s8
      have all : ∀ y ∈ (((wd.ps.map (·.1)).map V.str ++ (wd.ps.map (·.1)).map V.str ++ [V.str wd.sp, .str (Str.ofString "place"), .str (Str.ofString "stretch"), .str (Str.ofString "long"), .str (Str.ofString "staff"), .str (Str.ofString "ticket"), .str (Str.ofString "low"), .str (Str.ofString "high"), .str (Str.ofString "0"), .str (Str.ofString "1"), .str (Str.ofString "3"), .str (Str.ofString "4")]) ++ [V.str (Str.ofString "9"), .str (Str.ofString "10"), .str (Str.ofString "01"), .str (Str.ofString "-1"), .str (Str.ofString ""), .str (Str.ofString "A"), .str (Str.ofString "abcdefg"), .str (Str.ofString "Low")]), ∃ z, y = .str z ∧ Sh z := by
        have nm : ∀ y ∈ (wd.ps.map (·.1)).map V.str, ∃ z, y = .str z ∧ Sh z := fun y hy => by
          obtain ⟨z, hz, rfl⟩ := List.mem_map.mp hy
          obtain ⟨p, hp, rfl⟩ := List.mem_map.mp hz
          have := (ok.nm p hp).1
          exact ⟨_, rfl, by have := this.2.1; omega, this.good⟩
        intro y hy
        simp only [List.mem_append, List.mem_cons, List.not_mem_nil, or_false] at hy
        rcases hy with ((hy | hy) | hy) | hy
        · exact nm y hy
        · exact nm y hy
        · rcases hy with rfl | rfl | rfl | rfl | rfl | rfl | rfl | rfl | rfl | rfl | rfl | rfl
          · exact ⟨_, rfl, by have := ok.sn.2.1; omega, ok.sn.good⟩
          all_goals exact ⟨_, rfl, by decide +kernel, good_of _⟩
        · rcases hy with rfl | rfl | rfl | rfl | rfl | rfl | rfl | rfl
          all_goals exact ⟨_, rfl, by decide +kernel, good_of _⟩
      have ll : ((((wd.ps.map (·.1)).map V.str ++ (wd.ps.map (·.1)).map V.str ++ [V.str wd.sp, .str (Str.ofString "place"), .str (Str.ofString "stretch"), .str (Str.ofString "long"), .str (Str.ofString "staff"), .str (Str.ofString "ticket"), .str (Str.ofString "low"), .str (Str.ofString "high"), .str (Str.ofString "0"), .str (Str.ofString "1"), .str (Str.ofString "3"), .str (Str.ofString "4")]) ++ [V.str (Str.ofString "9"), .str (Str.ofString "10"), .str (Str.ofString "01"), .str (Str.ofString "-1"), .str (Str.ofString ""), .str (Str.ofString "A"), .str (Str.ofString "abcdefg"), .str (Str.ofString "Low")])).length ≤ 100 ∧ 0 < ((((wd.ps.map (·.1)).map V.str ++ (wd.ps.map (·.1)).map V.str ++ [V.str wd.sp, .str (Str.ofString "place"), .str (Str.ofString "stretch"), .str (Str.ofString "long"), .str (Str.ofString "staff"), .str (Str.ofString "ticket"), .str (Str.ofString "low"), .str (Str.ofString "high"), .str (Str.ofString "0"), .str (Str.ofString "1"), .str (Str.ofString "3"), .str (Str.ofString "4")]) ++ [V.str (Str.ofString "9"), .str (Str.ofString "10"), .str (Str.ofString "01"), .str (Str.ofString "-1"), .str (Str.ofString ""), .str (Str.ofString "A"), .str (Str.ofString "abcdefg"), .str (Str.ofString "Low")])).length := by
        simp only [List.length_append, List.length_map, List.length_cons, List.length_nil]
        omega
      generalize ((((wd.ps.map (·.1)).map V.str ++ (wd.ps.map (·.1)).map V.str ++ [V.str wd.sp, .str (Str.ofString "place"), .str (Str.ofString "stretch"), .str (Str.ofString "long"), .str (Str.ofString "staff"), .str (Str.ofString "ticket"), .str (Str.ofString "low"), .str (Str.ofString "high"), .str (Str.ofString "0"), .str (Str.ofString "1"), .str (Str.ofString "3"), .str (Str.ofString "4")]) ++ [V.str (Str.ofString "9"), .str (Str.ofString "10"), .str (Str.ofString "01"), .str (Str.ofString "-1"), .str (Str.ofString ""), .str (Str.ofString "A"), .str (Str.ofString "abcdefg"), .str (Str.ofString "Low")])) = ws at e8 all ll
      have hb9 : Bx b n H8 := by
        obtain ⟨a1, a2, a3, q, r⟩ := hb
        exact ⟨a1, a2, a3, s9 _ _ q, r⟩
      have nb : q7 ≠ b := fun e => by
        obtain ⟨a1, a2, a3, q, r⟩ := hb
        rw [← e] at q
        rw [s6 _ _ q] at n7
        cases n7
      simp only [List.set_cons_succ, List.set_cons_zero]
      refine ⟨_, rfl, _, rfl, _, rfl, q7, _, rfl, .inl (SqL.of e8), ?_⟩
      refine pick0 hb9 (by omega) ll.2 (by omega) rfl e8 nb fun y H9 hy kb bx => ?_
      obtain ⟨z, rfl, hz⟩ := all y hy
      exact k z H9 hz ((KB.of s9).trans kb) bx
end
end K8

set_option maxRecDepth 100000
set_option maxHeartbeats 400000
namespace K8
open PySem PySem.Spec PyProof.Rows L2 GxR Gd TL My
/-- texts of at most m signs -/
def Ss (m : Nat) (xs : List V) : Prop := ∀ y ∈ xs, ∃ z, y = .str z ∧ z.length ≤ m ∧ Good z
def wV : V → Nat
  | .str z => z.length + 1
  | _ => 1
/-- what texts weigh: their signs and one for each -/
def W (xs : List V) : Nat := (xs.map wV).sum
theorem W_app (xs ys : List V) : W (xs ++ ys) = W xs + W ys := by
  unfold W
  rw [List.map_append, List.sum_append]
theorem W_cut (xs : List V) (lo hi : Option Int) : W (cutV xs lo hi) ≤ W xs := by
  have d : ∀ (n : Nat) (l : List V), W (l.drop n) ≤ W l := fun n l => by
    have := List.take_append_drop n l
    have e : W l = W (l.take n) + W (l.drop n) := by rw [← W_app, this]
    omega
  have t : ∀ (n : Nat) (l : List V), W (l.take n) ≤ W l := fun n l => by
    have := List.take_append_drop n l
    have e : W l = W (l.take n) + W (l.drop n) := by rw [← W_app, this]
    omega
  exact Nat.le_trans (t _ _) (d _ _)
theorem Ss.cut {m : Nat} {xs : List V} (h : Ss m xs) (lo hi : Option Int) : Ss m (cutV xs lo hi) := fun y hy => h y (List.mem_of_mem_drop (List.mem_of_mem_take hy))
theorem Ss.app {m : Nat} {xs ys : List V} (h : Ss m xs) (k : Ss m ys) : Ss m (xs ++ ys) := fun y hy => (List.mem_append.mp hy).elim (h y) (k y)
theorem Ss.one {m : Nat} {z : Str} (h : z.length ≤ m) (g : Good z) : Ss m [V.str z] := fun y hy => by
  obtain rfl := List.mem_singleton.mp hy
  exact ⟨z, rfl, h, g⟩
theorem Ss.mono {m k : Nat} {xs : List V} (h : Ss m xs) (e : m ≤ k) : Ss k xs := fun y hy => by
  obtain ⟨z, h1, h2, h3⟩ := h y hy
  exact ⟨z, h1, Nat.le_trans h2 e, h3⟩
theorem Ss.strs {m : Nat} : ∀ {xs : List V}, Ss m xs → ∃ zs : List Str, xs = zs.map V.str ∧ (zs.map (·.length)).sum + zs.length = W xs ∧ ∀ z ∈ zs, z.length ≤ m ∧ Good z
  | [], _ => ⟨[], rfl, rfl, fun z hz => (by cases hz)⟩
  | x :: r, h => by
    obtain ⟨z, rfl, h1, h2⟩ := h x (List.mem_cons_self ..)
    obtain ⟨zs, rfl, w, g⟩ := Ss.strs (xs := r) fun y hy => h y (List.mem_cons_of_mem _ hy)
    refine ⟨z :: zs, rfl, ?_, fun y hy => ?_⟩
    · have e : W (V.str z :: zs.map V.str) = (z.length + 1) + W (zs.map V.str) := by
        unfold W
        rw [List.map_cons, List.sum_cons]
        rfl
      rw [e, ← w, List.map_cons, List.sum_cons, List.length_cons]
      omega
    · rcases List.mem_cons.mp hy with rfl | hy
      · exact ⟨h1, h2⟩
      · exact g y hy
theorem joinL_wt {c : Nat} : ∀ ps : List (List Nat), (joinL [c] ps).length ≤ (ps.map List.length).sum + ps.length
  | [] => by simp [joinL]
  | [p] => by
    show p.length ≤ _
    simp
  | p :: q :: r => by
    have b := joinL_wt (c := c) (q :: r)
    show (p ++ ([c] ++ joinL [c] (q :: r))).length ≤ _
    rw [List.length_append, List.length_append, List.map_cons, List.sum_cons, List.length_cons (a := p)]
    simp only [List.length_cons, List.length_nil] at b ⊢
    omega
/-- texts joined by one sign -/
theorem join_wt {y : Str} {c : Nat} (ey : tl y = [c]) (gy : Good y) (zs : List Str) (g : ∀ z ∈ zs, Good z) : (PySem.Txt.join y zs).length ≤ (zs.map (·.length)).sum + zs.length ∧ Good (PySem.Txt.join y zs) := by
  rw [join_eq]
  constructor
  · rw [← tl_len, tl_join, ey]
    have := joinL_wt (c := c) (zs.map tl)
    rw [List.map_map, List.length_map, show (List.length ∘ tl) = fun z : Str => z.length from funext fun z => tl_len z] at this
    exact this
  · intro d hd
    have hd : d ∈ tl (Str.join y zs) := hd
    rw [tl_join] at hd
    rcases joinL_mem hd with h | ⟨p, hp, h⟩
    · exact gy d h
    · obtain ⟨z, hz, rfl⟩ := List.mem_map.mp hp
      exact g z hz d h
theorem W_strs (zs : List Str) : W (zs.map V.str) = (zs.map (·.length)).sum + zs.length := by
  induction zs with
  | nil => rfl
  | cons z r ih =>
    have e : W ((z :: r).map V.str) = (z.length + 1) + W (r.map V.str) := by
      unfold W
      rw [List.map_cons, List.map_cons, List.sum_cons]
      rfl
    rw [e, ih, List.map_cons, List.sum_cons, List.length_cons]
    omega
theorem Bx.go {b : Addr} {n : Int} {H H' : Hp} (h : Bx b n H) (s : Same H H') : Bx b n H' := by
  obtain ⟨a1, a2, a3, q, r⟩ := h
  exact ⟨a1, a2, a3, s _ _ q, r⟩
theorem ixN_nat {n i : Nat} (h : i < n) : ixN n (i : Int) = some i := by
  unfold ixN
  rw [if_pos (by omega), if_pos (by omega)]
  simp
theorem bx_put {b L : Addr} {n : Int} {H : Hp} {o : HO} (h : Bx b n H) (ne : L ≠ b) : Bx b n (upd H L o) := by
  obtain ⟨a1, a2, a3, q, r⟩ := h
  exact ⟨a1, a2, a3, by rw [upd_ne ne.symm]; exact q, r⟩
/-- a part of a list -/
theorem cut_new {K : PySem.W.Frag} {H : Hp} {a : Addr} {xs : List V} {lo hi : Option Int} {Q : VK} (ha : H a = some (.lst xs)) (k : ∀ p H', Same H H' → H p = none → H' p = some (.lst (cutV xs lo hi)) → Q (.ref p) H') : rSlL K (.ref a) lo hi H Q :=
  ⟨a, xs, rfl, SqL.of ha, fun p hp => k p _ (same_alloc hp) hp upd_same⟩
section
variable {P : Program} {w : World} {K : PySem.W.Frag} {mg : Str → Option Value} {base : Heap} {f1 f2 : Addr} {fd1 fd2 : FuncData}
abbrev s_law_row_otherwise : Stmt := top 55
theorem sc_law_row_otherwise : FnScope ["_law_box_here", "_law_world_here", "_law_rows_here", "_law_at", "_law_to", "_law_way", "_law_words", "_law_place", "_law_names_here", "_law_more", "_law_name", "_law_roads"] ["_law_box_here", "_law_world_here", "_law_rows_here"] (defScope s_law_row_otherwise) := ⟨rfl, rfl, rfl, by decide +kernel, rfl, by decide +kernel, by decide +kernel⟩
def KBL (b L : Addr) (H H' : Hp) : Prop := ∀ c o, c ≠ b → c ≠ L → H c = some o → H' c = some o
theorem KBL.of {b L : Addr} {H H' : Hp} (k : KB b H H') : KBL b L H H' := fun c o n _ h => k c o n h
def spRow (K : PySem.W.Frag) : Sp := fun vs H Q _ => ∃ (b L : Addr) (v : V) (wd : Wd) (n : Int) (m : Nat) (xs : List V), vs = [.ref b, v, .ref L] ∧ Bx b n H ∧ n ≤ 70000 ∧ Dp K (hide b H) v wd.data ∧ wd.Ok ∧ H L = some (.lst xs) ∧ L ≠ b ∧ xs ≠ [] ∧ xs.length ≤ 400 ∧ Ss m xs ∧ m ≤ 2000 ∧
  ∀ (L' : Addr) (H' : Hp) (ys : List V), KBL b L H H' → Bx b (n + 10) H' → H' L' = some (.lst ys) → L' ≠ b → (L' = L ∨ H L' = none) → ys.length ≤ 2 * xs.length + 1 → Ss (2 * m + 40) ys → Q (.ref L') H'
theorem ok_row_otherwise {f : Addr} {fd : FuncData} (F : Fun K "_law_row_otherwise" "_law_row_otherwise" s_law_row_otherwise f fd) (T : Txt mg)
    (Nlaw_take : Fn K mg "_law_take" sTake ["_law_box_here", "_law_many"] f1 fd1) (Glaw_take : FnOk P w K mg base CX0 1 f1 fd1 ["_law_box_here", "_law_many"] spTake)
    (Nlaw_word : Fn K mg "_law_word" s_law_word ["_law_box_here", "_law_world_here"] f2 fd2) (Glaw_word : FnOk P w K mg base CX0 2 f2 fd2 ["_law_box_here", "_law_world_here"] (spWord K)) :
    FnOk P w K mg base CX0 3 f fd ["_law_box_here", "_law_world_here", "_law_rows_here"] (spRow K) := by
  refine F.ok sc_law_row_otherwise (fun vs H Q E h => ?_) (fun cdv A outer s H vs Q E hr h => ?_)
  · obtain ⟨b, L, v, wd, n, m, xs, rfl, _⟩ := h
    rfl
  · obtain ⟨b, L, v, wd, n, m, xs, rfl, hb, n7, hD, ok, hL, nL, ne, lx, hS, m2, k⟩ := h
    have l1 : 0 < xs.length := List.length_pos_iff.mpr ne
    refine ⟨_, pss_cons (ps_set (i := 3) sc_law_row_otherwise.nd rfl (Or.inl rfl) (pe_call Glaw_take (hr.mono (by decide)) (by rfl) Nlaw_take.g Nlaw_take.kp Nlaw_take.b .nil pass0 (pa_cons (pv 0) (pa_cons (pe_callB call_len_seq (by rfl) T.len_ PySem.boot_len (pa_cons (pv 2) pa_nil)) pa_nil))))
      (pss_cons (ps_set (i := 4) sc_law_row_otherwise.nd rfl (Or.inl rfl) (pe_call Glaw_take (hr.mono (by decide)) (by rfl) Nlaw_take.g Nlaw_take.kp Nlaw_take.b .nil pass0 (pa_cons (pv 0) (pa_cons (pe_callB call_len_seq (by rfl) T.len_ PySem.boot_len (pa_cons (pv 2) pa_nil)) pa_nil))))
      (pss_cons (ps_set (i := 5) sc_law_row_otherwise.nd rfl (Or.inl rfl) (pe_call Glaw_take (hr.mono (by decide)) (by rfl) Nlaw_take.g Nlaw_take.kp Nlaw_take.b .nil pass0 (pa_cons (pv 0) (pa_cons pe_int pa_nil))))
      (pss_cons (ps_set (i := 6) sc_law_row_otherwise.nd rfl (Or.inl rfl) (pe_split (pe_ix ix_list (pv 2) (pv 3) (fun _ _ => rfl)) pe_str))
      (pss_cons (ps_set (i := 7) sc_law_row_otherwise.nd rfl (Or.inl rfl) (pe_call Glaw_take (hr.mono (by decide)) (by rfl) Nlaw_take.g Nlaw_take.kp Nlaw_take.b .nil pass0 (pa_cons (pv 0) (pa_cons (pe_callB call_len_seq (by rfl) T.len_ PySem.boot_len (pa_cons (pv 6) pa_nil)) pa_nil))))
      (pss_cons (ps_if (pt_cmpR op_eq (pv 5) pe_int (nomark _)) (pss_one (ps_ret (pe_op op_cat (pe_slice sl_list (pv 2) po_none (po_some (pv 3))) (pe_slice sl_list (pv 2) (po_some (pe_op op_add (pv 3) pe_int)) po_none)))) pss_nil)
      (pss_cons (ps_if (pt_cmpR op_eq (pv 5) pe_int (nomark _)) (pss_one (ps_ret (pe_op op_cat (pe_slice sl_list (pv 2) po_none (po_some (pe_op op_add (pv 3) pe_int))) (pe_slice sl_list (pv 2) (po_some (pv 3)) po_none)))) pss_nil)
      (pss_cons (ps_if (pt_cmpR op_eq (pv 5) pe_int (nomark _)) (pss_cons (ps_asg (pe_tup (pa_cons (pe_ix ix_list (pv 2) (pv 4) (fun _ _ => rfl)) (pa_cons (pe_ix ix_list (pv 2) (pv 3) (fun _ _ => rfl)) pa_nil))) (pg_tup (by rfl) (pgs_cons (pg_sub (pv 2) (pv 3) set_list) (pgs_cons (pg_sub (pv 2) (pv 4) set_list) pgs_nil))))
          (pss_one (ps_ret (pv 2)))) pss_nil)
      (pss_cons (ps_if (pt_cmpR op_eq (pv 5) pe_int (nomark _)) (pss_cons (ps_setLc (i := 8) (own := [("_law_name", 10), ("_law_roads", 11)]) (g := gTup K 2 (gCons (gName 10) (gCons (gName 11) gNil))) (tt := tYes) rfl sc_law_row_otherwise.nd rfl rfl (sw_true rfl rfl rfl (by decide +kernel)) (pi_list (pe_ix ix_list (pv 1) pe_int (fun _ _ => rfl))) (blkOk_by (own := [("_law_name", 10), ("_law_roads", 11)]) (N := ["_law_box_here", "_law_world_here", "_law_rows_here", "_law_at", "_law_to", "_law_way", "_law_words", "_law_place", "_law_names_here", "_law_more", "_law_name", "_law_roads"]) (sc := defScope s_law_row_otherwise) (by decide +kernel)) (fun _ _ _ _ _ => (pg_tup (by rfl) (pgs_cons (pg_name (i := 10) sc_law_row_otherwise.nd rfl (Or.inl rfl)) (pgs_cons (pg_name (i := 11) sc_law_row_otherwise.nd rfl (Or.inl rfl)) pgs_nil)))) (fun _ _ _ _ _ => pts_nil) (fun _ _ _ _ _ => (pv 10)))
          (pss_cons (ps_set (i := 9) sc_law_row_otherwise.nd rfl (Or.inl rfl) (pe_lst (pa_cons (pe_op op_add_str (pe_op op_add_str pe_str (pe_ix ix_list (pv 1) pe_int (fun _ _ => rfl))) pe_str) (pa_cons pe_str pa_nil))))
          (pss_cons (ps_expr (pe_bm PySem.F.plainAttrs_list PySem.F.slot_list_append PySem.F.type_list_append mt_append (pv 9) (pa_cons (pe_op op_add_str (pe_op op_add_str (pe_op op_add_str (pe_op op_add_str pe_str (pe_ix ix_list (pv 8) pe_int (fun _ _ => rfl))) pe_str) (pe_ix ix_list (pv 8) (pe_un un_neg pe_int) (fun _ _ => rfl))) pe_str) pa_nil)))
          (pss_one (ps_ret (pe_op op_cat (pe_op op_cat (pe_slice sl_list (pv 2) po_none (po_some (pv 3))) (pe_lst (pa_cons (pe_ix ix_list (pv 9) (pe_call Glaw_take (hr.mono (by decide)) (by rfl) Nlaw_take.g Nlaw_take.kp Nlaw_take.b .nil pass0 (pa_cons (pv 0) (pa_cons pe_int pa_nil))) (fun _ _ => rfl)) pa_nil))) (pe_slice sl_list (pv 2) (po_some (pv 3)) po_none))))))) pss_nil)
      (pss_cons (ps_if (pt_cmpR op_eq (pv 5) pe_int (nomark _)) (pss_one (ps_set (i := 6) sc_law_row_otherwise.nd rfl (Or.inl rfl) (pe_op op_cat (pe_slice sl_list (pv 6) po_none (po_some (pv 7))) (pe_slice sl_list (pv 6) (po_some (pe_op op_add (pv 7) pe_int)) po_none)))) (pss_one (ps_if (pt_cmpR op_eq (pv 5) pe_int (nomark _)) (pss_one (ps_set (i := 6) sc_law_row_otherwise.nd rfl (Or.inl rfl) (pe_op op_cat (pe_slice sl_list (pv 6) po_none (po_some (pe_op op_add (pv 7) pe_int))) (pe_slice sl_list (pv 6) (po_some (pv 7)) po_none)))) (pss_one (ps_if (pt_cmpR op_eq (pv 5) pe_int (nomark _)) (pss_cons (ps_set (i := 7) sc_law_row_otherwise.nd rfl (Or.inl rfl) (pe_call Glaw_take (hr.mono (by decide)) (by rfl) Nlaw_take.g Nlaw_take.kp Nlaw_take.b .nil pass0 (pa_cons (pv 0) (pa_cons (pe_op op_add (pe_callB call_len_seq (by rfl) T.len_ PySem.boot_len (pa_cons (pv 6) pa_nil)) pe_int) pa_nil))))
                  (pss_one (ps_set (i := 6) sc_law_row_otherwise.nd rfl (Or.inl rfl) (pe_op op_cat (pe_op op_cat (pe_slice sl_list (pv 6) po_none (po_some (pv 7))) (pe_lst (pa_cons pe_str pa_nil))) (pe_slice sl_list (pv 6) (po_some (pv 7)) po_none))))) (pss_one (ps_set (i := 6) sc_law_row_otherwise.nd rfl (Or.inl rfl) (pe_op op_cat (pe_op op_cat (pe_slice sl_list (pv 6) po_none (po_some (pv 7))) (pe_lst (pa_cons (pe_call Glaw_word (hr.mono (by decide)) (by rfl) Nlaw_word.g Nlaw_word.kp Nlaw_word.b .nil pass0 (pa_cons (pv 0) (pa_cons (pv 1) pa_nil))) pa_nil))) (pe_slice sl_list (pv 6) (po_some (pe_op op_add (pv 7) pe_int)) po_none)))))))))
      (pss_one (ps_ret (pe_op op_cat (pe_op op_cat (pe_slice sl_list (pv 2) po_none (po_some (pv 3))) (pe_lst (pa_cons (pe_join pe_str (pv 6)) pa_nil))) (pe_slice sl_list (pv 2) (po_some (pe_op op_add (pv 3) pe_int)) po_none))))))))))))), ?_⟩
    generalize hσ : L2.start _ _ = σ0
    obtain rfl : σ0 = [some (.ref b), some v, some (.ref L), none, none, none, none, none, none, none, none, none] := hσ.symm.trans rfl
    refine ⟨_, rfl, _, rfl, L, _, rfl, .inl (SqL.of hL), b, (xs.length : Int), n, rfl, hb, by omega, by omega, dec9000 (by omega) (by omega), fun a0 H1 a1 a2 off1 bx1 => ?_⟩
    obtain ⟨i, rfl⟩ := Int.eq_ofNat_of_zero_le a1
    have hL1 := KB.off off1 _ _ nL hL
    simp only [List.set_cons_succ, List.set_cons_zero]
    refine ⟨_, rfl, _, rfl, L, _, rfl, .inl (SqL.of hL1), b, (xs.length : Int), n + 1, rfl, bx1, by omega, by omega, dec9000 (by omega) (by omega), fun c0 H2 c1 c2 off2 bx2 => ?_⟩
    obtain ⟨j, rfl⟩ := Int.eq_ofNat_of_zero_le c1
    have hL2 := KB.off off2 _ _ nL hL1
    simp only [List.set_cons_succ, List.set_cons_zero]
    refine ⟨_, rfl, b, 8, n + 1 + 1, rfl, bx2, by omega, by decide, by decide, fun way H3 w0 w1 off3 bx3 => ?_⟩
    have hL3 := KB.off off3 _ _ nL hL2
    have k3 : KB b H H3 := ((KB.off off1).trans (KB.off off2)).trans (KB.off off3)
    clear off1 off2 off3 bx1 bx2 hL1 hL2
    obtain ⟨x, hx⟩ : ∃ x, xs[i]? = some x := ⟨_, List.getElem?_eq_getElem (by omega)⟩
    obtain ⟨z, rfl, hz, gz⟩ := hS x (List.mem_of_getElem? hx)
    simp only [List.set_cons_succ, List.set_cons_zero]
    refine ⟨_, rfl, _, rfl, L, _, (i : Int), _, rfl, rfl, SqL.of hL3, atI_nat hx, ⟨_, rfl⟩, _, _, rfl, rfl, by decide +kernel, fit2 (by omega), fun Wd_ hW => ?_⟩
    have wz : WOk z := ⟨by omega, gz⟩
    have hL4 := same_alloc (o := .lst ((wordsOf z).map V.str)) hW _ _ hL3
    have e4 : upd H3 Wd_ (.lst ((wordsOf z).map V.str)) Wd_ = some (.lst ((wordsOf z).map V.str)) := upd_same
    have k4 : KB b H (upd H3 Wd_ (.lst ((wordsOf z).map V.str))) := k3.trans (KB.alloc hW)
    have bx4 := bx3.alloc (o := .lst ((wordsOf z).map V.str)) hW
    have nW : Wd_ ≠ b := bx3.fresh hW
    have hW0 : H Wd_ = none := fresh0 k3 nW hW
    rw [show PySem.Txt.split z (Str.ofString " ") = wordsOf z from rfl]
    generalize upd H3 Wd_ (.lst ((wordsOf z).map V.str)) = H4 at hL4 e4 k4 bx4 ⊢
    have sS : Ss m ((wordsOf z).map V.str) := fun y hy => by
      obtain ⟨q, hq, rfl⟩ := List.mem_map.mp hy
      exact ⟨q, rfl, Nat.le_trans (PyProof.Rows.part_short hq) hz, (split_wok wz hq).2⟩
    have sW : W ((wordsOf z).map V.str) ≤ m + 1 := by
      rw [W_strs]
      have := PyProof.Rows.split_weight z (Str.ofString " ") (by decide +kernel)
      exact Nat.le_trans this (by omega)
    have sl : 0 < ((wordsOf z).map V.str).length ∧ ((wordsOf z).map V.str).length ≤ 2002 := by
      rw [List.length_map]
      have a1 := PyProof.Rows.split_pos z (Str.ofString " ")
      have a2 := PyProof.Rows.split_le z (Str.ofString " ")
      exact ⟨a1, Nat.le_trans a2 (by omega)⟩
    clear k3 bx3 hL3 hW
    generalize (wordsOf z).map V.str = ws at e4 sS sW sl
    simp only [List.set_cons_succ, List.set_cons_zero]
    refine ⟨_, rfl, _, rfl, Wd_, _, rfl, .inl (SqL.of e4), b, (ws.length : Int), n + 1 + 1 + 1, rfl, bx4, by omega, by omega, dec9000 (by omega) (by omega), fun p0 H5 p1 p2 off5 bx5 => ?_⟩
    obtain ⟨pl, rfl⟩ := Int.eq_ofNat_of_zero_le p1
    have hL5 := KB.off off5 _ _ nL hL4
    have e5 := KB.off off5 _ _ nW e4
    have k5 := k4.trans (KB.off off5)
    clear k4 bx4 hL4 e4 off5
    have hb0 : ∃ o, H b = some o := by
      obtain ⟨_, _, _, q, _⟩ := hb
      exact ⟨_, q⟩
    have fin : ∀ (n' : Int) (L' : Addr) (H' : Hp) (ys : List V), KB b H H' → Bx b n' H' → n' ≤ n + 10 → H' L' = some (.lst ys) → H L' = none → ys.length ≤ 2 * xs.length + 1 → Ss (2 * m + 40) ys → Q (.ref L') H' := fun n' L' H' ys kb bx hn e h0 hl hs => by
      obtain ⟨o, ho⟩ := hb0
      exact k L' H' ys (KBL.of kb) (bx.mono hn) e (fun q => by rw [q, ho] at h0; cases h0) (.inr h0) hl hs
    have fresh5 : ∀ {H' : Hp} {p : Addr}, Same H5 H' → H' p = none → H p = none := fun {H' p} s h => by
      refine fresh0 (k5.trans (KB.of s)) (fun q => ?_) h
      obtain ⟨_, _, _, q2, _⟩ := bx5
      rw [q, s _ _ q2] at h
      cases h
    simp only [List.set_cons_succ, List.set_cons_zero]
    have cl := fun lo hi => cutV_length xs lo hi
    have sX : Ss (2 * m + 40) xs := hS.mono (by omega)
    refine ⟨_, rfl, rfl, _, rfl, ite2 (fun c => ?_) (fun c => ?_)⟩
    · refine ⟨_, rfl, _, rfl, _, rfl, L, _, rfl, SqL.of hL5, fun q1 hq1 => ?_⟩
      have s6 : Same H5 (upd H5 q1 (.lst (cutV xs none (some (i : Int))))) := same_alloc hq1
      have e6 : upd H5 q1 (.lst (cutV xs none (some (i : Int)))) q1 = some (.lst (cutV xs none (some (i : Int)))) := upd_same
      generalize upd H5 q1 (.lst (cutV xs none (some (i : Int)))) = H6 at s6 e6 ⊢
      refine ⟨_, rfl, _, rfl, _, _, rfl, rfl, _, rfl, L, _, rfl, SqL.of (s6 _ _ hL5), fun q2 hq2 => ?_⟩
      have s7 : Same H6 (upd H6 q2 (.lst (cutV xs (some ((i : Int) + 1)) none))) := same_alloc hq2
      have e7 : upd H6 q2 (.lst (cutV xs (some ((i : Int) + 1)) none)) q2 = some (.lst (cutV xs (some ((i : Int) + 1)) none)) := upd_same
      generalize upd H6 q2 (.lst (cutV xs (some ((i : Int) + 1)) none)) = H7 at s7 e7 ⊢
      have c1 := cl none (some (i : Int))
      have c2 := cl (some ((i : Int) + 1)) none
      refine ⟨q1, q2, _, _, rfl, rfl, s7 _ _ e6, e7, fit (by omega), fun q3 hq3 => ?_⟩
      have s68 := (s6.trans s7).trans (same_alloc (o := .lst (cutV xs none (some (i : Int)) ++ cutV xs (some ((i : Int) + 1)) none)) hq3)
      exact fin _ q3 _ _ (k5.trans (KB.of s68)) (Bx.go bx5 s68) (by omega) upd_same (fresh5 (s6.trans s7) hq3) (by rw [List.length_append]; omega) ((sX.cut _ _).app (sX.cut _ _))
    · rw [tNext]
      dsimp only
      rw [tSeq]
      refine ⟨_, rfl, rfl, _, rfl, ite2 (fun c => ?_) (fun c => ?_)⟩
      · refine ⟨_, rfl, _, rfl, _, _, rfl, rfl, _, rfl, L, _, rfl, SqL.of hL5, fun q1 hq1 => ?_⟩
        have s6 : Same H5 (upd H5 q1 (.lst (cutV xs none (some ((i : Int) + 1))))) := same_alloc hq1
        have e6 : upd H5 q1 (.lst (cutV xs none (some ((i : Int) + 1)))) q1 = some (.lst (cutV xs none (some ((i : Int) + 1)))) := upd_same
        generalize upd H5 q1 (.lst (cutV xs none (some ((i : Int) + 1)))) = H6 at s6 e6 ⊢
        refine ⟨_, rfl, _, rfl, _, rfl, L, _, rfl, SqL.of (s6 _ _ hL5), fun q2 hq2 => ?_⟩
        have s7 : Same H6 (upd H6 q2 (.lst (cutV xs (some (i : Int)) none))) := same_alloc hq2
        have e7 : upd H6 q2 (.lst (cutV xs (some (i : Int)) none)) q2 = some (.lst (cutV xs (some (i : Int)) none)) := upd_same
        generalize upd H6 q2 (.lst (cutV xs (some (i : Int)) none)) = H7 at s7 e7 ⊢
        have c1 := cl none (some ((i : Int) + 1))
        have c2 := cl (some (i : Int)) none
        refine ⟨q1, q2, _, _, rfl, rfl, s7 _ _ e6, e7, fit (by omega), fun q3 hq3 => ?_⟩
        have s68 := (s6.trans s7).trans (same_alloc (o := .lst (cutV xs none (some ((i : Int) + 1)) ++ cutV xs (some (i : Int)) none)) hq3)
        exact fin _ q3 _ _ (k5.trans (KB.of s68)) (Bx.go bx5 s68) (by omega) upd_same (fresh5 (s6.trans s7) hq3) (by rw [List.length_append]; omega) ((sX.cut _ _).app (sX.cut _ _))
      · rw [tNext]
        dsimp only
        rw [tSeq]
        refine ⟨_, rfl, rfl, _, rfl, ite2 (fun c => ?_) (fun c => ?_)⟩
        · obtain ⟨x2, hx2⟩ : ∃ x, xs[j]? = some x := ⟨_, List.getElem?_eq_getElem (by omega)⟩
          refine ⟨_, rfl, _, rfl, L, _, (j : Int), _, rfl, rfl, SqL.of hL5, atI_nat hx2, _, rfl, _, rfl, L, _, (i : Int), _, rfl, rfl, SqL.of hL5, atI_nat hx, two_line, fun t ht => ?_⟩
          have sT := same_alloc (o := .tup [x2, .str z]) ht
          have eT : upd H5 t (.tup [x2, .str z]) t = some (.tup [x2, .str z]) := upd_same
          generalize upd H5 t (.tup [x2, .str z]) = H6 at sT eT ⊢
          have hL6 := sT _ _ hL5
          have ii : ixN xs.length (i : Int) = some i := ixN_nat (by omega)
          have jj : ixN (xs.set i x2).length (j : Int) = some j := ixN_nat (by rw [List.length_set]; omega)
          refine ⟨t, _, rfl, SqT.of eT, rfl, _, _, rfl, _, rfl, _, rfl, L, xs, (i : Int), i, rfl, rfl, hL6, ii, _, _, rfl, _, rfl, _, rfl, L, xs.set i x2, (j : Int), j, rfl, rfl, upd_same, jj, rfl, _, rfl, ?_⟩
          rw [upd_upd]
          have kk : KBL b L H (upd H6 L (.lst ((xs.set i x2).set j (.str z)))) := fun c o nc nl h => by
            rw [upd_ne nl]
            exact sT _ _ (k5 c o nc h)
          refine k L _ _ kk ((bx_put (Bx.go bx5 sT) nL).mono (by omega)) upd_same nL (.inl rfl) (by rw [List.length_set, List.length_set]; omega) fun y hy => ?_
          rcases List.mem_or_eq_of_mem_set hy with hy | rfl
          · rcases List.mem_or_eq_of_mem_set hy with hy | rfl
            · exact sX y hy
            · exact sX _ (List.mem_of_getElem? hx2)
          · exact sX _ (List.mem_of_getElem? hx)
        · rw [tNext]
          dsimp only
          rw [tSeq]
          have hD5 := dp_nt ((KB.nt k5).trans (hide_nt b H5)) hD
          refine ⟨_, rfl, rfl, _, rfl, ite2 (fun c => ?_) (fun c => ?_)⟩
          · obtain ⟨wa, vp, vs_, vl, vu, rfl, hw, hp, hs, hl, hu⟩ := dp_four hD5
            obtain ⟨ap, xp, rfl, hap, dap⟩ := dp_list hp
            obtain rfl := dp_str hu
            have p6 := ok.p6
            have p2 := ok.p2
            have lp : xp.length = wd.ps.length := by rw [dpAll_len dap, List.length_map]
            refine ⟨_, rfl, wa, _, 0, _, rfl, rfl, hw, atI_nat (j := 0) rfl, ap, rfl, ⟨_, hap⟩, fun D hD0 => strs_it (walk_list (K := K) (xs := xp)) (out := wd.ps.map (·.1)) (by rw [List.length_map, lp]) (by rw [List.length_map]; omega) hD0 (fun H' kb => (KB.seq' hD0 kb).seq hap) ?_ ?_⟩
            · rintro i v H' C B hv kb k
              obtain ⟨d, hd1, hd2⟩ := dpAll_get dap hv
              obtain ⟨p, hp, rfl⟩ := get_map hd1
              obtain ⟨t, y1, y2, rfl, ht, r1, r2⟩ := dp_two hd2
              obtain rfl := dp_str r1
              obtain rfl := dp_int r2
              refine ⟨t, _, rfl, (KB.seq' hD0 kb).seqT ht, rfl, _, _, rfl, _, _, rfl, rfl, wipe2 (by simp) (by simp), lcY ⟨_, rfl, k p.1 _ ?_ (Same.refl _)⟩⟩
              rw [List.getElem?_map, hp]
              rfl
            · intro H6 kb eN
              have s6 := KB.same hD0 kb
              clear kb
              simp only [List.set_cons_succ, List.set_cons_zero]
              have hw6 := (same_nt s6).seq hw
              have hL6 := s6 _ _ hL5
              have bx6 := Bx.go bx5 s6
              have ls := ok.sn.2.1
              have gs := ok.sn.good
              have e2 : (Str.ofString " 2").length = 2 := by decide +kernel
              have eh : (Str.ofString " high").length = 5 := by decide +kernel
              refine ⟨_, rfl, wa, _, 3, _, rfl, rfl, hw6, atI_nat (j := 3) rfl, _, _, rfl, rfl, fit (by rw [len_place]; omega), _, _, rfl, rfl, fit (by rw [length_app, len_place, e2]; omega), two_line, fun M hM => ?_⟩
              obtain ⟨r1, hr1⟩ : ∃ r1, r1 = Str.ofString "place " ++ wd.sp ++ Str.ofString " 2" := ⟨_, rfl⟩
              have l1 : r1.length ≤ 40 ∧ Good r1 := by
                rw [hr1]
                exact ⟨by rw [length_app, length_app, len_place, e2]; omega, good_app (good_app (good_of _) gs) (good_of _)⟩
              rw [← hr1]
              have s7 : Same H6 (upd H6 M (.lst [.str r1, .str (Str.ofString "stretch ticket low")])) := same_alloc hM
              have eM : upd H6 M (.lst [.str r1, .str (Str.ofString "stretch ticket low")]) M = some (.lst [.str r1, .str (Str.ofString "stretch ticket low")]) := upd_same
              have nM : M ≠ b := bx6.fresh hM
              have hM0 : H M = none := fresh5 s6 hM
              have hM5 : H5 M = none := fresh0 (KB.of (D := b) s6) nM hM
              generalize upd H6 M (.lst [.str r1, .str (Str.ofString "stretch ticket low")]) = H7 at s7 eM ⊢
              simp only [List.set_cons_succ, List.set_cons_zero]
              obtain ⟨pa, epa⟩ : ∃ p, wd.ps[0]? = some p := ⟨_, List.getElem?_eq_getElem (by omega)⟩
              obtain ⟨pz, epz⟩ : ∃ p, wd.ps.getLast? = some p := ⟨_, List.getLast?_eq_some_getLast (by intro e; rw [e] at p2; simp at p2)⟩
              have na := (ok.nm pa (List.mem_of_getElem? epa)).1
              have nz := (ok.nm pz (List.mem_of_getLast? epz)).1
              have a0 : atI ((wd.ps.map (·.1)).map V.str) 0 = some (.str pa.1) := atI_nat (j := 0) (by rw [List.getElem?_map, List.getElem?_map, epa]; rfl)
              have aL : atI ((wd.ps.map (·.1)).map V.str) (-1) = some (.str pz.1) := last_at (by rw [List.getLast?_map, List.getLast?_map, epz]; rfl)
              have l2 := na.2.1
              have l3 := nz.2.1
              have eN7 := s7 _ _ eN
              refine ⟨_, rfl, .inl ⟨rfl, _, SqL.of eM⟩, _, rfl, D, _, 0, _, rfl, rfl, SqL.of eN7, a0, _, _, rfl, rfl, fit (by rw [len_long]; omega), _, _, rfl, rfl, fit (by rw [length_app, len_long, len_blank]; omega), _, rfl, _, rfl, D, _, -1, _, rfl, rfl, SqL.of eN7, aL, _, _, rfl, rfl, fit (by rw [length_app, length_app, len_long, len_blank]; omega), _, _, rfl, rfl, fit (by rw [length_app, length_app, length_app, len_long, len_blank, eh]; omega), M, _, _, rfl, rfl, eM, lt_line _ (by simp), ?_⟩
              obtain ⟨r2, hr2⟩ : ∃ r2, r2 = Str.ofString "long " ++ pa.1 ++ Str.ofString " " ++ pz.1 ++ Str.ofString " high" := ⟨_, rfl⟩
              have l4 : r2.length ≤ 40 ∧ Good r2 := by
                rw [hr2]
                exact ⟨by rw [length_app, length_app, length_app, length_app, len_long, len_blank, eh]; omega, good_app (good_app (good_app (good_app (good_of _) na.good) (good_of _)) nz.good) (good_of _)⟩
              rw [← hr2]
              have k8 : KB M H6 (upd H7 M (.lst ([V.str r1, .str (Str.ofString "stretch ticket low")] ++ [.str r2]))) := kb_put (KB.of s7)
              have e8 : upd H7 M (.lst ([V.str r1, .str (Str.ofString "stretch ticket low")] ++ [.str r2])) M = some (.lst ([V.str r1, .str (Str.ofString "stretch ticket low")] ++ [.str r2])) := upd_same
              generalize upd H7 M (.lst ([V.str r1, .str (Str.ofString "stretch ticket low")] ++ [.str r2])) = H8 at k8 e8 ⊢
              have s8 : Same H5 H8 := s6.trans (KB.same hM k8)
              clear s7 eM eN7 k8
              simp only [List.set_cons_succ, List.set_cons_zero]
              have hL8 := s8 _ _ hL5
              refine ⟨_, rfl, _, rfl, _, rfl, L, _, rfl, SqL.of hL8, fun q1 hq1 => ?_⟩
              have s9 : Same H8 (upd H8 q1 (.lst (cutV xs none (some (i : Int))))) := same_alloc hq1
              have e9 : upd H8 q1 (.lst (cutV xs none (some (i : Int)))) q1 = some (.lst (cutV xs none (some (i : Int)))) := upd_same
              generalize upd H8 q1 (.lst (cutV xs none (some (i : Int)))) = H9 at s9 e9 ⊢
              refine ⟨_, rfl, _, rfl, ?_⟩
              refine pick0 (m := 3) (Bx.go bx5 (s8.trans s9)) (by omega) (by decide) (by decide) rfl (s9 _ _ e8) nM fun y H10 hy kb10 bx10 => ?_
              have hy2 : Ss (2 * m + 40) [y] := fun y' hy' => by
                obtain rfl := List.mem_singleton.mp hy'
                simp only [List.cons_append, List.nil_append, List.mem_cons, List.not_mem_nil, or_false] at hy
                rcases hy with rfl | rfl | rfl
                · exact ⟨_, rfl, by omega, l1.2⟩
                · exact ⟨_, rfl, Nat.le_trans (by decide +kernel : _ ≤ 40) (by omega), good_of _⟩
                · exact ⟨_, rfl, by omega, l4.2⟩
              have nq1 : q1 ≠ b := (Bx.go bx5 s8).fresh hq1
              have k10 : KB b H H10 := (k5.trans (KB.of (s8.trans s9))).trans kb10
              have e10 := kb10 _ _ nq1 e9
              have hL10 := kb10 _ _ nL (s9 _ _ hL8)
              have c1 := cl none (some (i : Int))
              have c2 := cl (some (i : Int)) none
              clear kb10 hy e9 hL8 s8 s9 e8
              refine ⟨one_line, fun q hq => ⟨q1, q, _, _, rfl, rfl, same_alloc hq _ _ e10, upd_same, fit (by simp; omega), fun q3 hq3 => ?_⟩⟩
              have s11 : Same H10 (upd (upd H10 q (.lst [y])) q3 (.lst (cutV xs none (some (i : Int)) ++ [y]))) := (same_alloc hq).trans (same_alloc hq3)
              have e11 : upd (upd H10 q (.lst [y])) q3 (.lst (cutV xs none (some (i : Int)) ++ [y])) q3 = some (.lst (cutV xs none (some (i : Int)) ++ [y])) := upd_same
              generalize upd (upd H10 q (.lst [y])) q3 (.lst (cutV xs none (some (i : Int)) ++ [y])) = H11 at s11 e11 ⊢
              refine ⟨_, rfl, _, rfl, _, rfl, L, _, rfl, SqL.of (s11 _ _ hL10), fun q2 hq2 => ?_⟩
              have s12 : Same H11 (upd H11 q2 (.lst (cutV xs (some (i : Int)) none))) := same_alloc hq2
              have e12 : upd H11 q2 (.lst (cutV xs (some (i : Int)) none)) q2 = some (.lst (cutV xs (some (i : Int)) none)) := upd_same
              generalize upd H11 q2 (.lst (cutV xs (some (i : Int)) none)) = H12 at s12 e12 ⊢
              refine ⟨q3, q2, _, _, rfl, rfl, s12 _ _ e11, e12, fit (by simp only [List.length_append, List.length_cons, List.length_nil]; omega), fun q5 hq5 => ?_⟩
              have k12 : KB b H H12 := k10.trans (KB.of (s11.trans s12))
              have bx12 := Bx.go bx10 (s11.trans s12)
              refine fin _ q5 _ _ (k12.trans (KB.alloc hq5)) (bx12.alloc hq5) (by omega) upd_same (fresh0 k12 (bx12.fresh hq5) hq5) (by simp only [List.length_append, List.length_cons, List.length_nil]; omega) (((sX.cut _ _).app hy2).app (sX.cut _ _))
          · rw [tNext]
            dsimp only
            rw [tSeq]
            have clw := fun lo hi => cutV_length ws lo hi
            have wtw := fun lo hi => W_cut ws lo hi
            have sS3 : Ss 3000 ws := sS.mono (by omega)
            refine ⟨_, rfl, rfl, _, rfl, ite2 (fun c => ?_) (fun c => ?_)⟩
            · refine ⟨_, rfl, _, rfl, _, rfl, Wd_, _, rfl, SqL.of e5, fun p1 hp1 => ?_⟩
              have s6 : Same H5 (upd H5 p1 (.lst (cutV ws none (some (pl : Int))))) := same_alloc hp1
              have e6 : upd H5 p1 (.lst (cutV ws none (some (pl : Int)))) p1 = some (.lst (cutV ws none (some (pl : Int)))) := upd_same
              generalize upd H5 p1 (.lst (cutV ws none (some (pl : Int)))) = H6 at s6 e6 ⊢
              refine ⟨_, rfl, _, rfl, _, _, rfl, rfl, _, rfl, Wd_, _, rfl, SqL.of (s6 _ _ e5), fun p2 hp2 => ?_⟩
              have s7 : Same H6 (upd H6 p2 (.lst (cutV ws (some ((pl : Int) + 1)) none))) := same_alloc hp2
              have e7 : upd H6 p2 (.lst (cutV ws (some ((pl : Int) + 1)) none)) p2 = some (.lst (cutV ws (some ((pl : Int) + 1)) none)) := upd_same
              generalize upd H6 p2 (.lst (cutV ws (some ((pl : Int) + 1)) none)) = H7 at s7 e7 ⊢
              have d1 := clw none (some (pl : Int))
              have d2 := clw (some ((pl : Int) + 1)) none
              have x1 := wtw none (some (pl : Int))
              have x2 := wtw (some ((pl : Int) + 1)) none
              refine ⟨p1, p2, _, _, rfl, rfl, s7 _ _ e6, e7, fit2 (by omega), fun p3 hp3 => ?_⟩
              have s8 : Same H5 (upd H7 p3 (.lst (cutV ws none (some (pl : Int)) ++ cutV ws (some ((pl : Int) + 1)) none))) := (s6.trans s7).trans (same_alloc hp3)
              have e8 : upd H7 p3 (.lst (cutV ws none (some (pl : Int)) ++ cutV ws (some ((pl : Int) + 1)) none)) p3 = some (.lst (cutV ws none (some (pl : Int)) ++ cutV ws (some ((pl : Int) + 1)) none)) := upd_same
              generalize upd H7 p3 (.lst (cutV ws none (some (pl : Int)) ++ cutV ws (some ((pl : Int) + 1)) none)) = H8 at s8 e8 ⊢
              have k8 := k5.trans (KB.of s8)
              have b8 := Bx.go bx5 s8
              have hL8 := s8 _ _ hL5
              have SS := (sS3.cut none (some (pl : Int))).app (sS3.cut (some ((pl : Int) + 1)) none)
              have WW : W (cutV ws none (some (pl : Int)) ++ cutV ws (some ((pl : Int) + 1)) none) ≤ 2 * m + 12 := by
                rw [W_app]; omega
              obtain ⟨zs, ezs, wzs, gzs⟩ := Ss.strs SS
              have ew := e8
              rw [ezs] at ew
              have jw := join_wt tl_blank (good_of _) zs fun z hz => (gzs z hz).2
              have c1 := cl none (some (i : Int))
              have c2 := cl (some ((i : Int) + 1)) none
              have wt := WW
              simp only [List.set_cons_succ, List.set_cons_zero]
              refine ⟨_, rfl, _, rfl, _, rfl, L, _, rfl, SqL.of hL8, fun q1 hq1 => ?_⟩
              have g1 : Same H8 (upd H8 q1 (.lst (cutV xs none (some (i : Int))))) := same_alloc hq1
              have e1 : upd H8 q1 (.lst (cutV xs none (some (i : Int)))) q1 = some (.lst (cutV xs none (some (i : Int)))) := upd_same
              generalize upd H8 q1 (.lst (cutV xs none (some (i : Int)))) = G1 at g1 e1 ⊢
              refine ⟨⟨_, rfl⟩, _, rfl, _, p3, zs, rfl, rfl, .inl (SqL.of (g1 _ _ ew)), by rw [len_blank]; omega, one_line, fun q hq => ⟨q1, q, _, _, rfl, rfl, same_alloc hq _ _ e1, upd_same, fit (by simp; omega), fun q3 hq3 => ?_⟩⟩
              obtain ⟨jz, ejz⟩ : ∃ jz, jz = PySem.Txt.join (Str.ofString " ") zs := ⟨_, rfl⟩
              rw [← ejz] at jw hq3 ⊢
              have hy2 : Ss (2 * m + 40) [V.str jz] := Ss.one (by omega) jw.2
              have g2 : Same G1 (upd (upd G1 q (.lst [V.str jz])) q3 (.lst (cutV xs none (some (i : Int)) ++ [V.str jz]))) := (same_alloc hq).trans (same_alloc hq3)
              have e2 : upd (upd G1 q (.lst [V.str jz])) q3 (.lst (cutV xs none (some (i : Int)) ++ [V.str jz])) q3 = some (.lst (cutV xs none (some (i : Int)) ++ [V.str jz])) := upd_same
              generalize upd (upd G1 q (.lst [V.str jz])) q3 (.lst (cutV xs none (some (i : Int)) ++ [V.str jz])) = G2 at g2 e2 ⊢
              refine ⟨_, rfl, _, rfl, _, _, rfl, rfl, _, rfl, L, _, rfl, SqL.of (g2 _ _ (g1 _ _ hL8)), fun q2 hq2 => ?_⟩
              have g3 : Same G2 (upd G2 q2 (.lst (cutV xs (some ((i : Int) + 1)) none))) := same_alloc hq2
              have e3 : upd G2 q2 (.lst (cutV xs (some ((i : Int) + 1)) none)) q2 = some (.lst (cutV xs (some ((i : Int) + 1)) none)) := upd_same
              generalize upd G2 q2 (.lst (cutV xs (some ((i : Int) + 1)) none)) = G3 at g3 e3 ⊢
              refine ⟨q3, q2, _, _, rfl, rfl, g3 _ _ e2, e3, fit (by simp only [List.length_append, List.length_cons, List.length_nil]; omega), fun q5 hq5 => ?_⟩
              have kG : KB b H G3 := k8.trans (KB.of ((g1.trans g2).trans g3))
              have bG := Bx.go b8 ((g1.trans g2).trans g3)
              exact fin _ q5 _ _ (kG.trans (KB.alloc hq5)) (bG.alloc hq5) (by omega) upd_same (fresh0 kG (bG.fresh hq5) hq5) (by simp only [List.length_append, List.length_cons, List.length_nil]; omega) (((sX.cut _ _).app hy2).app (sX.cut _ _))
            · refine ⟨_, rfl, rfl, _, rfl, ite2 (fun c => ?_) (fun c => ?_)⟩
              · refine ⟨_, rfl, _, rfl, _, _, rfl, rfl, _, rfl, Wd_, _, rfl, SqL.of e5, fun p1 hp1 => ?_⟩
                have s6 : Same H5 (upd H5 p1 (.lst (cutV ws none (some ((pl : Int) + 1))))) := same_alloc hp1
                have e6 : upd H5 p1 (.lst (cutV ws none (some ((pl : Int) + 1)))) p1 = some (.lst (cutV ws none (some ((pl : Int) + 1)))) := upd_same
                generalize upd H5 p1 (.lst (cutV ws none (some ((pl : Int) + 1)))) = H6 at s6 e6 ⊢
                refine ⟨_, rfl, _, rfl, _, rfl, Wd_, _, rfl, SqL.of (s6 _ _ e5), fun p2 hp2 => ?_⟩
                have s7 : Same H6 (upd H6 p2 (.lst (cutV ws (some (pl : Int)) none))) := same_alloc hp2
                have e7 : upd H6 p2 (.lst (cutV ws (some (pl : Int)) none)) p2 = some (.lst (cutV ws (some (pl : Int)) none)) := upd_same
                generalize upd H6 p2 (.lst (cutV ws (some (pl : Int)) none)) = H7 at s7 e7 ⊢
                have d1 := clw none (some ((pl : Int) + 1))
                have d2 := clw (some (pl : Int)) none
                have x1 := wtw none (some ((pl : Int) + 1))
                have x2 := wtw (some (pl : Int)) none
                refine ⟨p1, p2, _, _, rfl, rfl, s7 _ _ e6, e7, fit2 (by omega), fun p3 hp3 => ?_⟩
                have s8 : Same H5 (upd H7 p3 (.lst (cutV ws none (some ((pl : Int) + 1)) ++ cutV ws (some (pl : Int)) none))) := (s6.trans s7).trans (same_alloc hp3)
                have e8 : upd H7 p3 (.lst (cutV ws none (some ((pl : Int) + 1)) ++ cutV ws (some (pl : Int)) none)) p3 = some (.lst (cutV ws none (some ((pl : Int) + 1)) ++ cutV ws (some (pl : Int)) none)) := upd_same
                generalize upd H7 p3 (.lst (cutV ws none (some ((pl : Int) + 1)) ++ cutV ws (some (pl : Int)) none)) = H8 at s8 e8 ⊢
                have k8 := k5.trans (KB.of s8)
                have b8 := Bx.go bx5 s8
                have hL8 := s8 _ _ hL5
                have SS := (sS3.cut none (some ((pl : Int) + 1))).app (sS3.cut (some (pl : Int)) none)
                have WW : W (cutV ws none (some ((pl : Int) + 1)) ++ cutV ws (some (pl : Int)) none) ≤ 2 * m + 12 := by
                  rw [W_app]; omega
                obtain ⟨zs, ezs, wzs, gzs⟩ := Ss.strs SS
                have ew := e8
                rw [ezs] at ew
                have jw := join_wt tl_blank (good_of _) zs fun z hz => (gzs z hz).2
                have c1 := cl none (some (i : Int))
                have c2 := cl (some ((i : Int) + 1)) none
                have wt := WW
                simp only [List.set_cons_succ, List.set_cons_zero]
                refine ⟨_, rfl, _, rfl, _, rfl, L, _, rfl, SqL.of hL8, fun q1 hq1 => ?_⟩
                have g1 : Same H8 (upd H8 q1 (.lst (cutV xs none (some (i : Int))))) := same_alloc hq1
                have e1 : upd H8 q1 (.lst (cutV xs none (some (i : Int)))) q1 = some (.lst (cutV xs none (some (i : Int)))) := upd_same
                generalize upd H8 q1 (.lst (cutV xs none (some (i : Int)))) = G1 at g1 e1 ⊢
                refine ⟨⟨_, rfl⟩, _, rfl, _, p3, zs, rfl, rfl, .inl (SqL.of (g1 _ _ ew)), by rw [len_blank]; omega, one_line, fun q hq => ⟨q1, q, _, _, rfl, rfl, same_alloc hq _ _ e1, upd_same, fit (by simp; omega), fun q3 hq3 => ?_⟩⟩
                obtain ⟨jz, ejz⟩ : ∃ jz, jz = PySem.Txt.join (Str.ofString " ") zs := ⟨_, rfl⟩
                rw [← ejz] at jw hq3 ⊢
                have hy2 : Ss (2 * m + 40) [V.str jz] := Ss.one (by omega) jw.2
                have g2 : Same G1 (upd (upd G1 q (.lst [V.str jz])) q3 (.lst (cutV xs none (some (i : Int)) ++ [V.str jz]))) := (same_alloc hq).trans (same_alloc hq3)
                have e2 : upd (upd G1 q (.lst [V.str jz])) q3 (.lst (cutV xs none (some (i : Int)) ++ [V.str jz])) q3 = some (.lst (cutV xs none (some (i : Int)) ++ [V.str jz])) := upd_same
                generalize upd (upd G1 q (.lst [V.str jz])) q3 (.lst (cutV xs none (some (i : Int)) ++ [V.str jz])) = G2 at g2 e2 ⊢
                refine ⟨_, rfl, _, rfl, _, _, rfl, rfl, _, rfl, L, _, rfl, SqL.of (g2 _ _ (g1 _ _ hL8)), fun q2 hq2 => ?_⟩
                have g3 : Same G2 (upd G2 q2 (.lst (cutV xs (some ((i : Int) + 1)) none))) := same_alloc hq2
                have e3 : upd G2 q2 (.lst (cutV xs (some ((i : Int) + 1)) none)) q2 = some (.lst (cutV xs (some ((i : Int) + 1)) none)) := upd_same
                generalize upd G2 q2 (.lst (cutV xs (some ((i : Int) + 1)) none)) = G3 at g3 e3 ⊢
                refine ⟨q3, q2, _, _, rfl, rfl, g3 _ _ e2, e3, fit (by simp only [List.length_append, List.length_cons, List.length_nil]; omega), fun q5 hq5 => ?_⟩
                have kG : KB b H G3 := k8.trans (KB.of ((g1.trans g2).trans g3))
                have bG := Bx.go b8 ((g1.trans g2).trans g3)
                exact fin _ q5 _ _ (kG.trans (KB.alloc hq5)) (bG.alloc hq5) (by omega) upd_same (fresh0 kG (bG.fresh hq5) hq5) (by simp only [List.length_append, List.length_cons, List.length_nil]; omega) (((sX.cut _ _).app hy2).app (sX.cut _ _))
              · refine ⟨_, rfl, rfl, _, rfl, ite2 (fun c => ?_) (fun c => ?_)⟩
                · rw [tSeq]
                  refine ⟨_, rfl, _, rfl, Wd_, _, rfl, .inl (SqL.of e5), _, _, rfl, rfl, b, (ws.length : Int) + 1, n + 1 + 1 + 1 + 1, rfl, bx5, by omega, by omega, dec9000 (by omega) (by omega), fun p0 H6 u0 u1 off6 bx6 => ?_⟩
                  obtain ⟨pm, rfl⟩ := Int.eq_ofNat_of_zero_le u0
                  have hL6 := KB.off off6 _ _ nL hL5
                  have e6 := KB.off off6 _ _ nW e5
                  have k6 := k5.trans (KB.off off6)
                  clear off6
                  simp only [List.set_cons_succ, List.set_cons_zero]
                  refine ⟨_, rfl, _, rfl, _, rfl, Wd_, _, rfl, SqL.of e6, fun p1 hp1 => ?_⟩
                  have s7 : Same H6 (upd H6 p1 (.lst (cutV ws none (some (pm : Int))))) := same_alloc hp1
                  have e7 : upd H6 p1 (.lst (cutV ws none (some (pm : Int)))) p1 = some (.lst (cutV ws none (some (pm : Int)))) := upd_same
                  generalize upd H6 p1 (.lst (cutV ws none (some (pm : Int)))) = H7 at s7 e7 ⊢
                  refine ⟨one_line, fun p2 hp2 => ⟨p1, p2, _, _, rfl, rfl, same_alloc hp2 _ _ e7, upd_same, fit2 (by have := clw none (some (pm : Int)); simp only [List.length_cons, List.length_nil]; omega), fun p3 hp3 => ?_⟩⟩
                  have s8 : Same H7 (upd (upd H7 p2 (.lst [V.str (Str.ofString "")])) p3 (.lst (cutV ws none (some (pm : Int)) ++ [V.str (Str.ofString "")]))) := (same_alloc hp2).trans (same_alloc hp3)
                  have e8 : upd (upd H7 p2 (.lst [V.str (Str.ofString "")])) p3 (.lst (cutV ws none (some (pm : Int)) ++ [V.str (Str.ofString "")])) p3 = some (.lst (cutV ws none (some (pm : Int)) ++ [V.str (Str.ofString "")])) := upd_same
                  generalize upd (upd H7 p2 (.lst [V.str (Str.ofString "")])) p3 (.lst (cutV ws none (some (pm : Int)) ++ [V.str (Str.ofString "")])) = H8 at s8 e8 ⊢
                  refine ⟨_, rfl, _, rfl, _, rfl, Wd_, _, rfl, SqL.of (s8 _ _ (s7 _ _ e6)), fun p4 hp4 => ?_⟩
                  have s9 : Same H8 (upd H8 p4 (.lst (cutV ws (some (pm : Int)) none))) := same_alloc hp4
                  have e9 : upd H8 p4 (.lst (cutV ws (some (pm : Int)) none)) p4 = some (.lst (cutV ws (some (pm : Int)) none)) := upd_same
                  generalize upd H8 p4 (.lst (cutV ws (some (pm : Int)) none)) = H9 at s9 e9 ⊢
                  have d1 := clw none (some (pm : Int))
                  have d2 := clw (some (pm : Int)) none
                  have x1 := wtw none (some (pm : Int))
                  have x2 := wtw (some (pm : Int)) none
                  refine ⟨p3, p4, _, _, rfl, rfl, s9 _ _ e8, e9, fit2 (by simp only [List.length_append, List.length_cons, List.length_nil]; omega), fun p5 hp5 => ?_⟩
                  have sA : Same H6 (upd H9 p5 (.lst (cutV ws none (some (pm : Int)) ++ [V.str (Str.ofString "")] ++ cutV ws (some (pm : Int)) none))) := ((s7.trans s8).trans s9).trans (same_alloc hp5)
                  have eA : upd H9 p5 (.lst (cutV ws none (some (pm : Int)) ++ [V.str (Str.ofString "")] ++ cutV ws (some (pm : Int)) none)) p5 = some (.lst (cutV ws none (some (pm : Int)) ++ [V.str (Str.ofString "")] ++ cutV ws (some (pm : Int)) none)) := upd_same
                  generalize upd H9 p5 (.lst (cutV ws none (some (pm : Int)) ++ [V.str (Str.ofString "")] ++ cutV ws (some (pm : Int)) none)) = HA at sA eA ⊢
                  have kA := k6.trans (KB.of sA)
                  have bA := Bx.go bx6 sA
                  have hLA := sA _ _ hL6
                  have SS := ((sS3.cut none (some (pm : Int))).app (Ss.one (m := 3000) (z := Str.ofString "") (Nat.zero_le _) (good_of _))).app (sS3.cut (some (pm : Int)) none)
                  have WW : W (cutV ws none (some (pm : Int)) ++ [V.str (Str.ofString "")] ++ cutV ws (some (pm : Int)) none) ≤ 2 * m + 12 := by
                    rw [W_app, W_app, show W [V.str (Str.ofString "")] = 1 by decide +kernel]; omega
                  obtain ⟨zs, ezs, wzs, gzs⟩ := Ss.strs SS
                  have ew := eA
                  rw [ezs] at ew
                  have jw := join_wt tl_blank (good_of _) zs fun z hz => (gzs z hz).2
                  have c1 := cl none (some (i : Int))
                  have c2 := cl (some ((i : Int) + 1)) none
                  have wt := WW
                  simp only [List.set_cons_succ, List.set_cons_zero]
                  refine ⟨_, rfl, _, rfl, _, rfl, L, _, rfl, SqL.of hLA, fun q1 hq1 => ?_⟩
                  have g1 : Same HA (upd HA q1 (.lst (cutV xs none (some (i : Int))))) := same_alloc hq1
                  have e1 : upd HA q1 (.lst (cutV xs none (some (i : Int)))) q1 = some (.lst (cutV xs none (some (i : Int)))) := upd_same
                  generalize upd HA q1 (.lst (cutV xs none (some (i : Int)))) = G1 at g1 e1 ⊢
                  refine ⟨⟨_, rfl⟩, _, rfl, _, p5, zs, rfl, rfl, .inl (SqL.of (g1 _ _ ew)), by rw [len_blank]; omega, one_line, fun q hq => ⟨q1, q, _, _, rfl, rfl, same_alloc hq _ _ e1, upd_same, fit (by simp; omega), fun q3 hq3 => ?_⟩⟩
                  obtain ⟨jz, ejz⟩ : ∃ jz, jz = PySem.Txt.join (Str.ofString " ") zs := ⟨_, rfl⟩
                  rw [← ejz] at jw hq3 ⊢
                  have hy2 : Ss (2 * m + 40) [V.str jz] := Ss.one (by omega) jw.2
                  have g2 : Same G1 (upd (upd G1 q (.lst [V.str jz])) q3 (.lst (cutV xs none (some (i : Int)) ++ [V.str jz]))) := (same_alloc hq).trans (same_alloc hq3)
                  have e2 : upd (upd G1 q (.lst [V.str jz])) q3 (.lst (cutV xs none (some (i : Int)) ++ [V.str jz])) q3 = some (.lst (cutV xs none (some (i : Int)) ++ [V.str jz])) := upd_same
                  generalize upd (upd G1 q (.lst [V.str jz])) q3 (.lst (cutV xs none (some (i : Int)) ++ [V.str jz])) = G2 at g2 e2 ⊢
                  refine ⟨_, rfl, _, rfl, _, _, rfl, rfl, _, rfl, L, _, rfl, SqL.of (g2 _ _ (g1 _ _ hLA)), fun q2 hq2 => ?_⟩
                  have g3 : Same G2 (upd G2 q2 (.lst (cutV xs (some ((i : Int) + 1)) none))) := same_alloc hq2
                  have e3 : upd G2 q2 (.lst (cutV xs (some ((i : Int) + 1)) none)) q2 = some (.lst (cutV xs (some ((i : Int) + 1)) none)) := upd_same
                  generalize upd G2 q2 (.lst (cutV xs (some ((i : Int) + 1)) none)) = G3 at g3 e3 ⊢
                  refine ⟨q3, q2, _, _, rfl, rfl, g3 _ _ e2, e3, fit (by simp only [List.length_append, List.length_cons, List.length_nil]; omega), fun q5 hq5 => ?_⟩
                  have kG : KB b H G3 := kA.trans (KB.of ((g1.trans g2).trans g3))
                  have bG := Bx.go bA ((g1.trans g2).trans g3)
                  exact fin _ q5 _ _ (kG.trans (KB.alloc hq5)) (bG.alloc hq5) (by omega) upd_same (fresh0 kG (bG.fresh hq5) hq5) (by simp only [List.length_append, List.length_cons, List.length_nil]; omega) (((sX.cut _ _).app hy2).app (sX.cut _ _))
                · refine ⟨_, rfl, _, rfl, _, rfl, Wd_, _, rfl, SqL.of e5, fun p1 hp1 => ?_⟩
                  have s6 : Same H5 (upd H5 p1 (.lst (cutV ws none (some (pl : Int))))) := same_alloc hp1
                  have e6 : upd H5 p1 (.lst (cutV ws none (some (pl : Int)))) p1 = some (.lst (cutV ws none (some (pl : Int)))) := upd_same
                  generalize upd H5 p1 (.lst (cutV ws none (some (pl : Int)))) = H6 at s6 e6 ⊢
                  have nP1 : p1 ≠ b := bx5.fresh hp1
                  refine ⟨_, rfl, _, rfl, b, v, wd, n + 1 + 1 + 1 + 1, rfl, Bx.go bx5 s6, by omega, dp_nt (same_nt s6) hD5, ok, fun z2 H7 sh kb7 bx7 => ?_⟩
                  have e7 := kb7 _ _ nP1 e6
                  have hL7 := kb7 _ _ nL (s6 _ _ hL5)
                  have w7 := kb7 _ _ nW (s6 _ _ e5)
                  have k7 := (k5.trans (KB.of s6)).trans kb7
                  clear kb7 s6 e6
                  refine ⟨one_line, fun p2 hp2 => ⟨p1, p2, _, _, rfl, rfl, same_alloc hp2 _ _ e7, upd_same, fit2 (by have := clw none (some (pl : Int)); simp only [List.length_cons, List.length_nil]; omega), fun p3 hp3 => ?_⟩⟩
                  have s8 : Same H7 (upd (upd H7 p2 (.lst [V.str z2])) p3 (.lst (cutV ws none (some (pl : Int)) ++ [V.str z2]))) := (same_alloc hp2).trans (same_alloc hp3)
                  have e8 : upd (upd H7 p2 (.lst [V.str z2])) p3 (.lst (cutV ws none (some (pl : Int)) ++ [V.str z2])) p3 = some (.lst (cutV ws none (some (pl : Int)) ++ [V.str z2])) := upd_same
                  generalize upd (upd H7 p2 (.lst [V.str z2])) p3 (.lst (cutV ws none (some (pl : Int)) ++ [V.str z2])) = H8 at s8 e8 ⊢
                  refine ⟨_, rfl, _, rfl, _, _, rfl, rfl, _, rfl, Wd_, _, rfl, SqL.of (s8 _ _ w7), fun p4 hp4 => ?_⟩
                  have s9 : Same H8 (upd H8 p4 (.lst (cutV ws (some ((pl : Int) + 1)) none))) := same_alloc hp4
                  have e9 : upd H8 p4 (.lst (cutV ws (some ((pl : Int) + 1)) none)) p4 = some (.lst (cutV ws (some ((pl : Int) + 1)) none)) := upd_same
                  generalize upd H8 p4 (.lst (cutV ws (some ((pl : Int) + 1)) none)) = H9 at s9 e9 ⊢
                  have d1 := clw none (some (pl : Int))
                  have d2 := clw (some ((pl : Int) + 1)) none
                  have x1 := wtw none (some (pl : Int))
                  have x2 := wtw (some ((pl : Int) + 1)) none
                  refine ⟨p3, p4, _, _, rfl, rfl, s9 _ _ e8, e9, fit2 (by simp only [List.length_append, List.length_cons, List.length_nil]; omega), fun p5 hp5 => ?_⟩
                  have sA : Same H7 (upd H9 p5 (.lst (cutV ws none (some (pl : Int)) ++ [V.str z2] ++ cutV ws (some ((pl : Int) + 1)) none))) := (s8.trans s9).trans (same_alloc hp5)
                  have eA : upd H9 p5 (.lst (cutV ws none (some (pl : Int)) ++ [V.str z2] ++ cutV ws (some ((pl : Int) + 1)) none)) p5 = some (.lst (cutV ws none (some (pl : Int)) ++ [V.str z2] ++ cutV ws (some ((pl : Int) + 1)) none)) := upd_same
                  generalize upd H9 p5 (.lst (cutV ws none (some (pl : Int)) ++ [V.str z2] ++ cutV ws (some ((pl : Int) + 1)) none)) = HA at sA eA ⊢
                  have kA := k7.trans (KB.of sA)
                  have bA := Bx.go bx7 sA
                  have hLA := sA _ _ hL7
                  have sh1 := sh.1
                  have SS := ((sS3.cut none (some (pl : Int))).app (Ss.one (m := 3000) (by omega) sh.2)).app (sS3.cut (some ((pl : Int) + 1)) none)
                  have WW : W (cutV ws none (some (pl : Int)) ++ [V.str z2] ++ cutV ws (some ((pl : Int) + 1)) none) ≤ 2 * m + 12 := by
                    have : W [V.str z2] = z2.length + 1 := by
                      unfold W
                      simp [wV]
                    rw [W_app, W_app, this]; omega
                  obtain ⟨zs, ezs, wzs, gzs⟩ := Ss.strs SS
                  have ew := eA
                  rw [ezs] at ew
                  have jw := join_wt tl_blank (good_of _) zs fun z hz => (gzs z hz).2
                  have c1 := cl none (some (i : Int))
                  have c2 := cl (some ((i : Int) + 1)) none
                  have wt := WW
                  simp only [List.set_cons_succ, List.set_cons_zero]
                  refine ⟨_, rfl, _, rfl, _, rfl, L, _, rfl, SqL.of hLA, fun q1 hq1 => ?_⟩
                  have g1 : Same HA (upd HA q1 (.lst (cutV xs none (some (i : Int))))) := same_alloc hq1
                  have e1 : upd HA q1 (.lst (cutV xs none (some (i : Int)))) q1 = some (.lst (cutV xs none (some (i : Int)))) := upd_same
                  generalize upd HA q1 (.lst (cutV xs none (some (i : Int)))) = G1 at g1 e1 ⊢
                  refine ⟨⟨_, rfl⟩, _, rfl, _, p5, zs, rfl, rfl, .inl (SqL.of (g1 _ _ ew)), by rw [len_blank]; omega, one_line, fun q hq => ⟨q1, q, _, _, rfl, rfl, same_alloc hq _ _ e1, upd_same, fit (by simp; omega), fun q3 hq3 => ?_⟩⟩
                  obtain ⟨jz, ejz⟩ : ∃ jz, jz = PySem.Txt.join (Str.ofString " ") zs := ⟨_, rfl⟩
                  rw [← ejz] at jw hq3 ⊢
                  have hy2 : Ss (2 * m + 40) [V.str jz] := Ss.one (by omega) jw.2
                  have g2 : Same G1 (upd (upd G1 q (.lst [V.str jz])) q3 (.lst (cutV xs none (some (i : Int)) ++ [V.str jz]))) := (same_alloc hq).trans (same_alloc hq3)
                  have e2 : upd (upd G1 q (.lst [V.str jz])) q3 (.lst (cutV xs none (some (i : Int)) ++ [V.str jz])) q3 = some (.lst (cutV xs none (some (i : Int)) ++ [V.str jz])) := upd_same
                  generalize upd (upd G1 q (.lst [V.str jz])) q3 (.lst (cutV xs none (some (i : Int)) ++ [V.str jz])) = G2 at g2 e2 ⊢
                  refine ⟨_, rfl, _, rfl, _, _, rfl, rfl, _, rfl, L, _, rfl, SqL.of (g2 _ _ (g1 _ _ hLA)), fun q2 hq2 => ?_⟩
                  have g3 : Same G2 (upd G2 q2 (.lst (cutV xs (some ((i : Int) + 1)) none))) := same_alloc hq2
                  have e3 : upd G2 q2 (.lst (cutV xs (some ((i : Int) + 1)) none)) q2 = some (.lst (cutV xs (some ((i : Int) + 1)) none)) := upd_same
                  generalize upd G2 q2 (.lst (cutV xs (some ((i : Int) + 1)) none)) = G3 at g3 e3 ⊢
                  refine ⟨q3, q2, _, _, rfl, rfl, g3 _ _ e2, e3, fit (by simp only [List.length_append, List.length_cons, List.length_nil]; omega), fun q5 hq5 => ?_⟩
                  have kG : KB b H G3 := kA.trans (KB.of ((g1.trans g2).trans g3))
                  have bG := Bx.go bA ((g1.trans g2).trans g3)
                  exact fin _ q5 _ _ (kG.trans (KB.alloc hq5)) (bG.alloc hq5) (by omega) upd_same (fresh0 kG (bG.fresh hq5) hq5) (by simp only [List.length_append, List.length_cons, List.length_nil]; omega) (((sX.cut _ _).app hy2).app (sX.cut _ _))
end
end K8

set_option maxRecDepth 100000
set_option maxHeartbeats 1000000
/-! A tuple or a list of any things beside an empty one. -/
namespace My
open PySem PySem.Spec PyProof.Rows L2 GxR Gd TL
def rEqT0 (K : PySem.W.Frag) : R2 := fun x y H Q => ∃ a b xs, x = .ref a ∧ y = .ref b ∧ SqT K H a xs ∧ SqT K H b [] ∧ Q (.bl xs.isEmpty) H
theorem op_eqT0 {X : Cx} (hu : X.A.units < cLine) : OpR X (compareOp .Eq) (rEqT0 X.K) := by
  rintro pins s σ H x y v u Q I rx ry ⟨a, b, xs, rfl, rfl, ha, hb, q⟩
  cases rx
  cases ry
  obtain ⟨us, r1, p1, _⟩ := I.tuple ha
  obtain ⟨ws, r2, p2, _⟩ := I.tuple hb
  cases r2
  refine SeqAt.eq_tupleAt (e := fun _ => true) p1 p2 hu (fun j _ h2 => absurd h2 (Nat.not_lt_zero j)) ⟨.bl _, H, I, ?_, q⟩
  cases r1 with
  | nil => rfl
  | cons _ _ => rfl
def rNeL0 (K : PySem.W.Frag) : R2 := fun x y H Q => ∃ a b xs, x = .ref a ∧ y = .ref b ∧ SqL K H a xs ∧ SqL K H b [] ∧ Q (.bl (!xs.isEmpty)) H
theorem op_neL0 {X : Cx} (hu : X.A.units < cLine) : OpR X (compareOp .NotEq) (rNeL0 X.K) := by
  rintro pins s σ H x y v u Q I rx ry ⟨a, b, xs, rfl, rfl, ha, hb, q⟩
  cases rx
  cases ry
  obtain ⟨us, r1, p1, _⟩ := I.list ha
  obtain ⟨ws, r2, p2, _⟩ := I.list hb
  cases r2
  cases r1 with
  | nil => exact (SeqAt.RcNeAt.lists (e := fun _ => true) p1.isList p2.isList rfl hu (fun j h1 _ => absurd h1 (Nat.not_lt_zero j))) _ _ _ _ ⟨.bl _, H, I, rfl, q⟩
  | cons h t => exact (SeqAt.RcNeAt.lists_lengths p1.isList p2.isList rfl hu) _ _ _ _ ⟨.bl _, H, I, rfl, q⟩
end My

set_option maxRecDepth 100000
set_option maxHeartbeats 1000000
/-! A short text many times. -/
namespace My
open PySem PySem.Spec PyProof.Rows L2 GxR Gd TL
def rMulS : R2 := fun x y H Q => ∃ z n, x = .str z ∧ y = .int n ∧ z.length ≤ 16 ∧ 0 ≤ n ∧ n ≤ 1000 ∧ Q (.str (Txt.mul z n)) H
theorem op_mul_str {X : Cx} : OpR X (binaryOp .Mult) rMulS := by
  rintro pins s σ H x y v u Q I rx ry ⟨z, n, rfl, rfl, hz, h0, h1, q⟩
  obtain ⟨t, rfl⟩ := rx
  obtain ⟨t', rfl⟩ := ry
  exact PySem.W.KXi.mul (n := z.length) rfl hz (by omega) (by omega) fun _ _ _ _ => ⟨.str _, H, I.tok _, ⟨_, rfl⟩, q⟩
theorem fold_mem (a : Array Nat) (c : Nat) : ∀ (n : Nat) (b : Array Nat), c ∈ ((List.replicate n a).foldl (· ++ ·) b).toList → c ∈ b.toList ∨ c ∈ a.toList
  | 0, b, h => .inl h
  | n + 1, b, h => by
    rw [List.replicate_succ, List.foldl_cons] at h
    rcases fold_mem a c n _ h with q | q
    · rw [Array.toList_append, List.mem_append] at q
      exact q
    · exact .inr q
theorem fold_len (a : Array Nat) : ∀ (n : Nat) (b : Array Nat), ((List.replicate n a).foldl (· ++ ·) b).size = b.size + n * a.size
  | 0, b => by simp
  | n + 1, b => by
    rw [List.replicate_succ, List.foldl_cons, fold_len a n, Array.size_append, Nat.succ_mul]
    omega
theorem good_mul {z : Str} (g : Good z) {n : Int} : Good (Txt.mul z n) := fun c hc => by
  unfold Txt.mul at hc
  split at hc
  · exact absurd hc (by show c ∉ ([] : List Nat); simp)
  · split at hc
    · exact g c hc
    · rcases fold_mem _ _ _ _ hc with q | q
      · exact absurd q (by simp)
      · exact g c q
theorem mul_le {z : Str} {n : Nat} (h : 1 ≤ n) : (Txt.mul z (n : Nat)).length ≤ n * z.length := by
  unfold Txt.mul
  split
  · exact Nat.zero_le _
  · split
    · calc z.length = 1 * z.length := (Nat.one_mul _).symm
        _ ≤ n * z.length := Nat.mul_le_mul_right _ h
    · show ((List.replicate ((n : Nat) : Int).toNat z.cps).foldl (· ++ ·) #[]).size ≤ _
      rw [fold_len, Int.toNat_natCast]
      show 0 + n * z.cps.size ≤ n * z.cps.size
      omega
end My

set_option maxRecDepth 100000
set_option maxHeartbeats 400000
namespace K8
open PySem PySem.Spec PyProof.Rows L2 GxR Gd TL My
def rB : Nat → Nat
  | 0 => 14
  | n + 1 => 2 * rB n + 1
def mB : Nat → Nat
  | 0 => 36
  | n + 1 => 2 * mB n + 40
theorem rB_le : ∀ i : Nat, i ≤ 3 → rB i ≤ 119 ∧ mB i ≤ 568 := by
  intro i h
  have : i = 0 ∨ i = 1 ∨ i = 2 ∨ i = 3 := by omega
  rcases this with rfl | rfl | rfl | rfl <;> decide
theorem good_num {r : Int} (h1 : 1 ≤ r) (h3 : r ≤ 3) : Good (numS r) := by
  have : r = 1 ∨ r = 2 ∨ r = 3 := by omega
  rcases this with rfl | rfl | rfl <;> exact good_of _
theorem good_side (h : Int) : Good (sideS h) := by
  unfold sideS
  split <;> exact good_of _
theorem rows_good {wd : Wd} (ok : wd.Ok) : ∀ z ∈ rowsT wd, Good z := by
  intro z hz
  obtain ⟨l, hl, rfl⟩ := List.mem_map.mp hz
  refine (join_wt tl_blank (good_of _) l fun y hy => ?_).2
  unfold rowsW at hl
  rcases List.mem_append.mp hl with hl | hl
  · rcases List.mem_append.mp hl with hl | hl
    · obtain ⟨p, hp, rfl⟩ := List.mem_map.mp hl
      obtain ⟨n1, n2, n3⟩ := ok.nm p hp
      simp only [wP, List.mem_cons, List.not_mem_nil, or_false] at hy
      rcases hy with rfl | rfl | rfl
      · exact good_of _
      · exact n1.good
      · exact good_num n2 n3
    · obtain ⟨p, hp, rfl⟩ := List.mem_map.mp hl
      obtain ⟨n1, n2, n3⟩ := ok.st p hp
      simp only [wS, List.mem_cons, List.not_mem_nil, or_false] at hy
      rcases hy with rfl | rfl | rfl
      · exact good_of _
      · exact (kind_wok n1).2
      · exact good_side _
  · obtain ⟨p, hp, rfl⟩ := List.mem_map.mp hl
    obtain ⟨a, c, h, rfl, ha, hc, _, _, _⟩ := longs_in ok hp
    simp only [wL, List.mem_cons, List.not_mem_nil, or_false] at hy
    rcases hy with rfl | rfl | rfl | rfl
    · exact good_of _
    · rw [nameAt_at (List.getElem?_eq_getElem ha)]
      exact (ok.nm _ (List.getElem_mem ha)).1.good
    · rw [nameAt_at (List.getElem?_eq_getElem hc)]
      exact (ok.nm _ (List.getElem_mem hc)).1.good
    · exact good_side _
theorem cutS_length (z : Str) (lo hi : Option Int) : (cutS z lo hi).length ≤ z.length := by
  show ((z.cps.toList.drop _).take _).toArray.size ≤ z.cps.size
  rw [List.size_toArray]
  exact Nat.le_trans (List.take_sublist _ _).length_le (List.drop_sublist _ _).length_le
theorem mul_one {z : Str} {m : Nat} (h : m < 2) : (PySem.Txt.mul z (m : Nat)).length ≤ z.length := by
  have : m = 0 ∨ m = 1 := by omega
  rcases this with rfl | rfl
  · have : (PySem.Txt.mul z ((0 : Nat) : Int)).length = 0 := by
      unfold PySem.Txt.mul
      simp [Str.length]
      rfl
    omega
  · have := mul_le (z := z) (n := 1) (by decide)
    omega
/-- what stands ahead of a text and behind it -/
def Edge (z : Str) : Prop := z.length ≤ 1 ∧ Good z
theorem edge_lit : Edge (Str.ofString "") ∧ Edge (Str.ofString "\n") ∧ Edge (Str.ofString " ") := ⟨⟨by decide, good_of _⟩, ⟨by decide +kernel, good_of _⟩, ⟨by decide +kernel, good_of _⟩⟩
abbrev tL2 (a b : Str) : TE := tLst (tCons (tC (V.str a)) (tCons (tC (V.str b)) tNil))
theorem more_read {K : PySem.W.Frag} {σ : L2.St} {H : Hp} {b : Addr} {n : Int} {Q : VK} (h0 : σ[0]? = some (some (.ref b))) (hb : Bx b n H) (n9 : n ≤ 80000)
    (k : ∀ (M : Addr) (H' : Hp) (s1 s2 : Str), KB b H H' → Bx b (n + 2) H' → H M = none → H' M = some (.lst [.str s1, .str s2]) → Edge s1 → Edge s2 → Q (.ref M) H') :
    tIf (tTest (tOp rEq (tCall spTake [] E0 (tCons (tVar 0) (tCons (tC (V.int 8)) tNil))) (tC (V.int 0))))
      (tOp (rIxL K) (tLst (tCons (tL2 (Str.ofString "") (Str.ofString "\n")) (tCons (tL2 (Str.ofString "") (Str.ofString " ")) (tCons (tL2 (Str.ofString "\n") (Str.ofString "")) (tCons (tL2 (Str.ofString " ") (Str.ofString "")) tNil))))) (tCall spTake [] E0 (tCons (tVar 0) (tCons (tC (V.int 4)) tNil))))
      (tL2 (Str.ofString "") (Str.ofString "")) σ H Q := by
  obtain ⟨g0, g1, g2⟩ := edge_lit
  refine ⟨_, h0, b, 8, n, rfl, hb, by omega, by decide, by decide, fun c8 H3 c0 c1 off3 bx3 => ⟨rfl, _, rfl, ite2 (fun c => ?_) (fun c => ?_)⟩⟩
  · refine ⟨two_line, fun m1 q1 => ⟨two_line, fun m2 q2 => ⟨two_line, fun m3 q3 => ⟨two_line, fun m4 q4 => ⟨fit (by simp), fun mo qo => ?_⟩⟩⟩⟩⟩
    have t1 := same_alloc (o := .lst [V.str (Str.ofString ""), .str (Str.ofString "\n")]) q1
    have u1 : upd H3 m1 (.lst [V.str (Str.ofString ""), .str (Str.ofString "\n")]) m1 = _ := upd_same
    have z1 := q1
    generalize upd H3 m1 (.lst [V.str (Str.ofString ""), .str (Str.ofString "\n")]) = G1 at t1 u1 q2 q3 q4 qo ⊢
    have z2 := same_none t1 q2
    have t2 := same_alloc (o := .lst [V.str (Str.ofString ""), .str (Str.ofString " ")]) q2
    have u2 : upd G1 m2 (.lst [V.str (Str.ofString ""), .str (Str.ofString " ")]) m2 = _ := upd_same
    generalize upd G1 m2 (.lst [V.str (Str.ofString ""), .str (Str.ofString " ")]) = G2 at t2 u2 q3 q4 qo ⊢
    have z3 := same_none (t1.trans t2) q3
    have t3 := same_alloc (o := .lst [V.str (Str.ofString "\n"), .str (Str.ofString "")]) q3
    have u3 : upd G2 m3 (.lst [V.str (Str.ofString "\n"), .str (Str.ofString "")]) m3 = _ := upd_same
    generalize upd G2 m3 (.lst [V.str (Str.ofString "\n"), .str (Str.ofString "")]) = G3 at t3 u3 q4 qo ⊢
    have z4 := same_none ((t1.trans t2).trans t3) q4
    have t4 := same_alloc (o := .lst [V.str (Str.ofString " "), .str (Str.ofString "")]) q4
    have u4 : upd G3 m4 (.lst [V.str (Str.ofString " "), .str (Str.ofString "")]) m4 = _ := upd_same
    generalize upd G3 m4 (.lst [V.str (Str.ofString " "), .str (Str.ofString "")]) = G4 at t4 u4 qo ⊢
    have t5 := same_alloc (o := .lst [V.ref m1, .ref m2, .ref m3, .ref m4]) qo
    have u5 : upd G4 mo (.lst [V.ref m1, .ref m2, .ref m3, .ref m4]) mo = _ := upd_same
    have s35 : Same H3 (upd G4 mo (.lst [V.ref m1, .ref m2, .ref m3, .ref m4])) := (((t1.trans t2).trans t3).trans t4).trans t5
    have nmo : mo ≠ b := (Bx.go bx3 (((t1.trans t2).trans t3).trans t4)).fresh qo
    refine ⟨_, h0, ?_⟩
    refine pick0 (m := 4) (Bx.go bx3 s35) (by omega) (by decide) (by decide) rfl u5 nmo fun y H6 hy kb bx6 => ?_
    have kk : KB b H H6 := ((KB.off off3).trans (KB.of s35)).trans kb
    have go : ∀ {m : Addr} {a c : Str}, H3 m = none → upd G4 mo (.lst [V.ref m1, .ref m2, .ref m3, .ref m4]) m = some (.lst [.str a, .str c]) → Edge a → Edge c → Q (.ref m) H6 := fun {m a c} hm e ga gc =>
      k m H6 a c kk (by rw [show n + 2 = n + 1 + 1 by omega]; exact bx6) (fresh0 (KB.off off3) (bx3.fresh hm) hm) (kb _ _ (bx3.fresh hm) e) ga gc
    simp only [List.mem_cons, List.not_mem_nil, or_false] at hy
    rcases hy with rfl | rfl | rfl | rfl
    · exact go z1 (t5 _ _ (t4 _ _ (t3 _ _ (t2 _ _ u1)))) g0 g1
    · exact go z2 (t5 _ _ (t4 _ _ (t3 _ _ u2))) g0 g2
    · exact go z3 (t5 _ _ (t4 _ _ u3)) g1 g0
    · exact go z4 (t5 _ _ u4) g2 g0
  · refine ⟨two_line, fun M hM => ?_⟩
    exact k M _ _ _ ((KB.off off3).trans (KB.alloc hM)) ((bx3.alloc hM).mono (by omega)) (fresh0 (KB.off off3) (bx3.fresh hM) hM) upd_same g0 g0
section
variable {P : Program} {w : World} {K : PySem.W.Frag} {mg : Str → Option Value} {base : Heap} {f1 f2 f3 f4 : Addr} {fd1 fd2 fd3 fd4 : FuncData}
abbrev s_law_text : Stmt := top 56
theorem sc_law_text : FnScope ["_law_box_here", "_law_world_here", "_law_rows_here", "_law_signs_here", "_law_more", "_law_turn", "_law_text_here", "_law_at", "_law_sign", "_law_odd"] ["_law_box_here", "_law_world_here"] (defScope s_law_text) := ⟨rfl, rfl, rfl, by decide +kernel, rfl, by decide +kernel, by decide +kernel⟩
def spText (K : PySem.W.Frag) : Sp := fun vs H Q _ => ∃ (b : Addr) (v : V) (wd : Wd) (n : Int), vs = [.ref b, v] ∧ Bx b n H ∧ n ≤ 60000 ∧ Dp K (hide b H) v wd.data ∧ wd.Ok ∧
  ∀ (u : V) (H' : Hp), KB b H H' → Bx b (n + 60) H' → Th H' u → (∀ z, u = .str z → WOk z) → Q u H'
theorem ok_law_text {f : Addr} {fd : FuncData} (F : Fun K "_law_text" "_law_text" s_law_text f fd) (T : Txt mg)
    (Nlaw_take : Fn K mg "_law_take" sTake ["_law_box_here", "_law_many"] f1 fd1) (Glaw_take : FnOk P w K mg base CX0 1 f1 fd1 ["_law_box_here", "_law_many"] spTake)
    (Nlaw_rows : Fn K mg "_law_rows" s_law_rows ["_law_world_here"] f2 fd2) (Glaw_rows : FnOk P w K mg base CX0 1 f2 fd2 ["_law_world_here"] (spLawRows K))
    (Nlaw_row_otherwise : Fn K mg "_law_row_otherwise" s_law_row_otherwise ["_law_box_here", "_law_world_here", "_law_rows_here"] f3 fd3) (Glaw_row_otherwise : FnOk P w K mg base CX0 3 f3 fd3 ["_law_box_here", "_law_world_here", "_law_rows_here"] (spRow K))
    (Nlaw_signs : Fn K mg "_law_signs" s_law_signs [] f4 fd4) (Glaw_signs : FnOk P w K mg base CX0 1 f4 fd4 [] spSigns) :
    FnOk P w K mg base CX0 4 f fd ["_law_box_here", "_law_world_here"] (spText K) := by
  refine F.ok sc_law_text (fun vs H Q E h => ?_) (fun cdv A outer s H vs Q E hr h => ?_)
  · obtain ⟨b, v, wd, n, rfl, _⟩ := h
    rfl
  · obtain ⟨b, v, wd, n, rfl, hb, n6, hD, ok, k⟩ := h
    have hu := hr.units
    have rw14 := rowsW_len ok
    have rr := rowsT_row ok
    refine ⟨_, pss_cons (ps_set (i := 2) sc_law_text.nd rfl (Or.inl rfl) (pe_call Glaw_rows (hr.mono (by decide)) (by rfl) Nlaw_rows.g Nlaw_rows.kp Nlaw_rows.b .nil pass0 (pa_cons (pv 1) pa_nil)))
      (pss_cons (ps_set (i := 3) sc_law_text.nd rfl (Or.inl rfl) (pe_call Glaw_take (hr.mono (by decide)) (by rfl) Nlaw_take.g Nlaw_take.kp Nlaw_take.b .nil pass0 (pa_cons (pv 0) (pa_cons pe_int pa_nil))))
      (pss_cons (ps_set (i := 4) sc_law_text.nd rfl (Or.inl rfl) (pe_ifExp (pt_cmpR op_eq (pe_call Glaw_take (hr.mono (by decide)) (by rfl) Nlaw_take.g Nlaw_take.kp Nlaw_take.b .nil pass0 (pa_cons (pv 0) (pa_cons pe_int pa_nil))) pe_int (nomark _)) (pe_ix ix_list (pe_lst (pa_cons (pe_lst (pa_cons pe_str (pa_cons pe_str pa_nil))) (pa_cons (pe_lst (pa_cons pe_str (pa_cons pe_str pa_nil))) (pa_cons (pe_lst (pa_cons pe_str (pa_cons pe_str pa_nil))) (pa_cons (pe_lst (pa_cons pe_str (pa_cons pe_str pa_nil))) pa_nil))))) (pe_call Glaw_take (hr.mono (by decide)) (by rfl) Nlaw_take.g Nlaw_take.kp Nlaw_take.b .nil pass0 (pa_cons (pv 0) (pa_cons pe_int pa_nil))) (fun _ _ => rfl)) (pe_lst (pa_cons pe_str (pa_cons pe_str pa_nil)))))
      (pss_cons (ps_for PassesOwn.never rfl (pi_range1 (by rfl) T.range_ (pa_cons (pe_call Glaw_take (hr.mono (by decide)) (by rfl) Nlaw_take.g Nlaw_take.kp Nlaw_take.b .nil pass0 (pa_cons (pv 0) (pa_cons pe_int pa_nil))) pa_nil)) (pg_name (i := 5) sc_law_text.nd rfl (Or.inl rfl)) (pss_one (ps_if (pt_cmpR (op_neL0 (Nat.lt_of_le_of_lt (Nat.le_add_right _ 64) hu)) (pv 2) (pe_lst pa_nil) (nomark _)) (pss_one (ps_set (i := 2) sc_law_text.nd rfl (Or.inl rfl) (pe_call Glaw_row_otherwise (hr.mono (by decide)) (by rfl) Nlaw_row_otherwise.g Nlaw_row_otherwise.kp Nlaw_row_otherwise.b .nil pass0 (pa_cons (pv 0) (pa_cons (pv 1) (pa_cons (pv 2) pa_nil)))))) pss_nil)))
      (pss_cons (ps_set (i := 6) sc_law_text.nd rfl (Or.inl rfl) (pe_op op_add_str (pe_op op_add_str (pe_ix ix_list (pv 4) pe_int (fun _ _ => rfl)) (pe_join pe_str (pv 2))) (pe_ix ix_list (pv 4) pe_int (fun _ _ => rfl))))
      (pss_cons (ps_if (pt_cmpR op_eq (pv 3) pe_int (nomark _)) (pss_cons (ps_set (i := 7) sc_law_text.nd rfl (Or.inl rfl) (pe_call Glaw_take (hr.mono (by decide)) (by rfl) Nlaw_take.g Nlaw_take.kp Nlaw_take.b .nil pass0 (pa_cons (pv 0) (pa_cons (pe_op op_add (pe_callB call_len_str (by rfl) T.len_ PySem.boot_len (pa_cons (pv 6) pa_nil)) pe_int) pa_nil))))
          (pss_cons (ps_set (i := 8) sc_law_text.nd rfl (Or.inl rfl) (pe_op op_mul_str (pe_ix ix_str (pe_op op_add_str (pe_call0 Glaw_signs (hr.mono (by decide)) (by rfl) Nlaw_signs.g Nlaw_signs.kp Nlaw_signs.b .nil pass0) pe_str) (pe_call Glaw_take (hr.mono (by decide)) (by rfl) Nlaw_take.g Nlaw_take.kp Nlaw_take.b .nil pass0 (pa_cons (pv 0) (pa_cons pe_int pa_nil))) (fun _ _ => rfl)) (pe_call Glaw_take (hr.mono (by decide)) (by rfl) Nlaw_take.g Nlaw_take.kp Nlaw_take.b .nil pass0 (pa_cons (pv 0) (pa_cons pe_int pa_nil)))))
          (pss_one (ps_set (i := 6) sc_law_text.nd rfl (Or.inl rfl) (pe_op op_add_str (pe_op op_add_str (pe_slice sl_str (pv 6) po_none (po_some (pv 7))) (pv 8)) (pe_slice sl_str (pv 6) (po_some (pe_op op_add (pv 7) (pe_call Glaw_take (hr.mono (by decide)) (by rfl) Nlaw_take.g Nlaw_take.kp Nlaw_take.b .nil pass0 (pa_cons (pv 0) (pa_cons pe_int pa_nil))))) po_none)))))) pss_nil)
      (pss_cons (ps_set (i := 9) sc_law_text.nd rfl (Or.inl rfl) (pe_ix ix_list (pe_lst (pa_cons pe_non (pa_cons pe_int (pa_cons pe_bl (pa_cons (pe_lst (pa_cons (pv 6) pa_nil)) (pa_cons (pe_tup (pa_cons pe_str pa_nil)) (pa_cons pe_dnewK (pa_cons pe_str (pa_cons pe_str pa_nil))))))))) (pe_call Glaw_take (hr.mono (by decide)) (by rfl) Nlaw_take.g Nlaw_take.kp Nlaw_take.b .nil pass0 (pa_cons (pv 0) (pa_cons pe_int pa_nil))) (fun _ _ => rfl)))
      (pss_one (ps_ret (pe_ifExp (PW.pt (pw_and (pt_cmpR op_eq (pv 3) pe_int (nomark _)) (pw_and1 (pt_cmpR op_eq (pe_call Glaw_take (hr.mono (by decide)) (by rfl) Nlaw_take.g Nlaw_take.kp Nlaw_take.b .nil pass0 (pa_cons (pv 0) (pa_cons pe_int pa_nil))) pe_int (nomark _))))) (pv 9) (pv 6)))))))))), ?_⟩
    generalize hσ : L2.start _ _ = σ0
    obtain rfl : σ0 = [some (.ref b), some v, none, none, none, none, none, none, none, none] := hσ.symm.trans rfl
    refine ⟨_, rfl, v, wd, rfl, dp_nt (hide_nt b H) hD, ok, fun L H1 nL0 s1 eL => ?_⟩
    have sL : Ss 36 ((rowsT wd).map V.str) := fun y hy => by
      obtain ⟨z, hz, rfl⟩ := List.mem_map.mp hy
      exact ⟨z, rfl, rr z hz, rows_good ok z hz⟩
    have lL : ((rowsT wd).map V.str).length ≤ 14 := by
      rw [List.length_map, rowsT_len]
      exact rw14.2
    generalize (rowsT wd).map V.str = xs at eL sL lL
    have bx1 := Bx.go hb s1
    have nL : L ≠ b := fun e => by
      obtain ⟨_, _, _, q, r⟩ := hb
      rw [e, q] at nL0
      cases nL0
    simp only [List.set_cons_succ, List.set_cons_zero]
    refine ⟨_, rfl, b, 4, n, rfl, bx1, by omega, by decide, by decide, fun sg H2 g0 g1 off2 bx2 => ?_⟩
    simp only [List.set_cons_succ, List.set_cons_zero]
    dsimp only [gName]
    rw [tSeq, tAsg]
    refine more_read rfl bx2 (by omega) fun M H3 e1 e2 k3 bx3 nM eM g1 g2 => ?_
    have nMb : M ≠ b := bx2.fresh nM
    have eL2 := KB.off off2 _ _ nL eL
    have nLM : L ≠ M := fun e => by rw [e, nM] at eL2; cases eL2
    have eL3 := k3 _ _ nL eL2
    have k03 : KB b H H3 := ((KB.of s1).trans (KB.off off2)).trans k3
    clear off2 bx2 eL2 k3 nM bx1 s1 eL
    simp only [List.set_cons_succ, List.set_cons_zero]
    refine ⟨_, rfl, b, 4, n + 1 + 2, rfl, bx3, by omega, by decide, by decide, fun tn H4 t0 t1 off4 bx4 => ?_⟩
    obtain ⟨tN, rfl⟩ := Int.eq_ofNat_of_zero_le t0
    have eL4 := KB.off off4 _ _ nL eL3
    have eM4 := KB.off off4 _ _ nMb eM
    have k04 := k03.trans (KB.off off4)
    clear off4 bx3 eL3 eM k03
    refine ⟨(tN : Int), rfl, by omega, by omega, ?_⟩
    rw [Int.toNat_natCast]
    have tN3 : tN ≤ 3 := by omega
    refine for_range (lo := 0) (n := tN) (fun i σ H' => ∃ (L : Addr) (ys : List V) (w5 : Option V), σ = [some (.ref b), some v, some (.ref L), some (.int sg), some (.ref M), w5, none, none, none, none] ∧ KB b H H' ∧ Bx b (n + 4 + 10 * (i : Nat)) H' ∧ H' L = some (.lst ys) ∧ H L = none ∧ L ≠ M ∧ L ≠ b ∧ H' M = some (.lst [.str e1, .str e2]) ∧ ys.length ≤ rB i ∧ Ss (mB i) ys)
      ⟨L, xs, _, rfl, k04, by rw [show n + 4 + 10 * ((0 : Nat) : Int) = n + 1 + 2 + 1 by omega]; exact bx4, eL4, nL0, nLM, nL, eM4, lL, sL⟩ ?_ ?_
    · rintro i σ X hi ⟨L, ys, w5, rfl, kb, bx, eL, hL0, nLM, nLb, eM, lY, sY⟩
      obtain ⟨b1, b2⟩ := rB_le i (by omega)
      refine ⟨_, rfl, Nat.zero_le _, fun p hp => ⟨L, p, ys, rfl, rfl, SqL.of (same_alloc hp _ _ eL), SqL.of upd_same, _, rfl, ?_⟩⟩
      have sp := same_alloc (o := .lst []) hp
      generalize upd X p (.lst []) = Y at sp ⊢
      have kY := kb.trans (KB.of sp)
      have bY := Bx.go bx sp
      have eLY := sp _ _ eL
      have eMY := sp _ _ eM
      have nx : n + 4 + 10 * ((i + 1 : Nat) : Int) = n + 4 + 10 * ((i : Nat) : Int) + 10 := by omega
      cases hy : ys.isEmpty with
      | true =>
        refine iteF ⟨L, ys, _, rfl, kY, bY.mono (by omega), eLY, hL0, nLM, nLb, eMY, Nat.le_trans lY (by show rB i ≤ 2 * rB i + 1; omega), sY.mono (by show mB i ≤ 2 * mB i + 40; omega)⟩
      | false =>
        have ne : ys ≠ [] := fun e => by rw [e] at hy; cases hy
        refine iteT ⟨_, rfl, _, rfl, _, rfl, b, L, v, wd, _, mB i, ys, rfl, bY, by omega, dp_nt (KB.nt kY) hD, ok, eLY, nLb, ne, by omega, sY, by omega, fun L' Z zs kz bz eZ nZ cs hl hs => ?_⟩
        have hL'0 : H L' = none := by
          rcases cs with rfl | h
          · exact hL0
          · exact fresh0 kY nZ h
        have nLM' : L' ≠ M := by
          rcases cs with rfl | h
          · exact nLM
          · exact fun e => by rw [e, eMY] at h; cases h
        refine ⟨L', zs, _, rfl, fun c o nc h => kz c o nc (fun e => by rw [e, hL0] at h; cases h) (kY c o nc h), by rw [nx]; exact bz, eZ, hL'0, nLM', nZ, kz _ _ nMb nLM.symm eMY, by show zs.length ≤ 2 * rB i + 1; omega, hs⟩
    · rintro σ X ⟨L, ys, w5, rfl, kb, bx, eL, hL0, nLM, nLb, eM, lY, sY⟩
      obtain ⟨b1, b2⟩ := rB_le tN tN3
      obtain ⟨zs, rfl, _, gz⟩ := sY.strs
      have lz : zs.length ≤ 119 := by
        rw [List.length_map] at lY
        omega
      have sz := sum_le (m := 568) fun z hz => Nat.le_trans (gz z hz).1 b2
      have sz2 : zs.length * 568 ≤ 119 * 568 := Nat.mul_le_mul_right _ lz
      have ln1 : (Str.ofString "\n").length = 1 := by decide +kernel
      have jw := join_wt tl_nl (good_of _) zs fun z hz => (gz z hz).2
      have g1' := g1.1
      have g2' := g2.1
      refine ⟨_, rfl, M, _, 0, _, rfl, rfl, SqL.of eM, atI_nat (j := 0) rfl, ⟨_, rfl⟩, _, rfl, _, L, zs, rfl, rfl, .inl (SqL.of eL), by rw [ln1]; omega, _, _, rfl, rfl, fit2 (by omega), _, rfl, M, _, 1, _, rfl, rfl, SqL.of eM, atI_nat (j := 1) rfl, _, _, rfl, rfl, fit2 (by rw [length_app]; omega), ?_⟩
      obtain ⟨z0, ez0⟩ : ∃ z0, z0 = e1 ++ PySem.Txt.join (Str.ofString "\n") zs ++ e2 := ⟨_, rfl⟩
      have w0 : z0.length ≤ 90000 ∧ Good z0 := by
        rw [ez0]
        exact ⟨by rw [length_app, length_app]; omega, good_app (good_app g1.2 jw.2) g2.2⟩
      rw [← ez0]
      have hb0 : n + 4 + 10 * (tN : Nat) ≤ n + 34 := by omega
      have bxT := bx.mono hb0
      clear ez0 jw sz sz2 gz sY lY eM bx
      simp only [List.set_cons_succ, List.set_cons_zero]
      refine ⟨_, rfl, rfl, _, rfl, ite2 (fun c => ?_) (fun c => ?_)⟩
      · refine ⟨_, rfl, _, rfl, z0, rfl, fit2 (by omega), _, _, rfl, rfl, b, (z0.length : Int) + 1, _, rfl, bxT, by omega, by omega, dec9000 (by omega) (by omega), fun at_ X1 a0 a1 offA bxA => ?_⟩
        obtain ⟨j, rfl⟩ := Int.eq_ofNat_of_zero_le a0
        have kA := kb.trans (KB.off offA)
        simp only [List.set_cons_succ, List.set_cons_zero]
        refine ⟨rfl, fun pg l94 gpg => ⟨_, _, rfl, rfl, fit2 (by rw [l94, ln1]; omega), ?_⟩⟩
        have lpg : (pg ++ Str.ofString "\n").length = 95 := by rw [length_app, l94, ln1]
        have gpg2 : Good (pg ++ Str.ofString "\n") := good_app gpg (good_of _)
        generalize pg ++ Str.ofString "\n" = pg2 at lpg gpg2 ⊢
        refine ⟨_, rfl, b, 95, _, rfl, bxA, by omega, by decide, by decide, fun c X2 c0 c1 offB bxB => ?_⟩
        obtain ⟨m, rfl⟩ := Int.eq_ofNat_of_zero_le c0
        have hm : m < pg2.cps.toList.length := by
          have : pg2.cps.toList.length = pg2.length := rfl
          omega
        refine ⟨pg2, _, pg2.cps.toList[m], rfl, rfl, fit (by omega), atI_nat (List.getElem?_eq_getElem hm), ?_⟩
        have gc := gpg2 _ (List.getElem_mem hm)
        generalize pg2.cps.toList[m] = c at gc ⊢
        have gs : Good (⟨#[c]⟩ : Str) := fun d hd => by
          obtain rfl : d = c := List.mem_singleton.mp hd
          exact gc
        have ls : (⟨#[c]⟩ : Str).length = 1 := rfl
        refine ⟨_, rfl, b, 2, _, rfl, bxB, by omega, by decide, by decide, fun r X3 r0 r1 offC bxC => ?_⟩
        obtain ⟨r, rfl⟩ := Int.eq_ofNat_of_zero_le r0
        refine ⟨_, _, rfl, rfl, by rw [ls]; omega, by omega, by omega, ?_⟩
        have gm := good_mul gs (n := ((r : Nat) : Int))
        have lm := mul_one (z := (⟨#[c]⟩ : Str)) (m := r) (by omega)
        generalize PySem.Txt.mul (⟨#[c]⟩ : Str) ((r : Nat) : Int) = sgn at gm lm ⊢
        have kC := (kA.trans (KB.off offB)).trans (KB.off offC)
        clear offA offB bxA bxB kA gs gc gpg2 lpg offC
        simp only [List.set_cons_succ, List.set_cons_zero]
        have q1 := cutS_length z0 none (some (j : Int))
        refine ⟨_, rfl, _, rfl, _, rfl, z0, rfl, fit2 (by omega), _, rfl, _, _, rfl, rfl, fit2 (by rw [ls] at lm; omega), _, rfl, _, rfl, _, rfl, b, 2, _, rfl, bxC, by omega, by decide, by decide, fun d X4 d0 d1 offD bxD => ?_⟩
        have q2 := cutS_length z0 (some ((j : Int) + d)) none
        refine ⟨_, _, rfl, rfl, _, rfl, z0, rfl, fit2 (by omega), _, _, rfl, rfl, fit2 (by rw [length_app]; rw [ls] at lm; omega), ?_⟩
        have kD := kC.trans (KB.off offD)
        obtain ⟨z1, ez1⟩ : ∃ z1, z1 = cutS z0 none (some (j : Int)) ++ sgn ++ cutS z0 (some ((j : Int) + d)) none := ⟨_, rfl⟩
        have w1 : z1.length ≤ 200000 ∧ Good z1 := by
          rw [ez1]
          refine ⟨?_, good_app (good_app (good_cut w0.2 _ _) gm) (good_cut w0.2 _ _)⟩
          rw [length_app, length_app]
          rw [ls] at lm
          omega
        rw [← ez1]
        clear ez1 q1 q2 offD kC bxC
        simp only [List.set_cons_succ, List.set_cons_zero]
        refine ⟨_, rfl, one_line, fun a1 q1 => ⟨one_line, fun a2 q2 a3 q3 => ⟨fit (by simp), fun mo qo => ?_⟩⟩⟩
        have t1 := same_alloc (o := .lst [V.str z1]) q1
        have u1 : upd X4 a1 (.lst [V.str z1]) a1 = _ := upd_same
        have n1 := (bxD).fresh q1
        generalize upd X4 a1 (.lst [V.str z1]) = B1 at t1 u1 q2 q3 qo ⊢
        have t2 := same_alloc (o := .tup [V.str (Str.ofString "a")]) q2
        have u2 : upd B1 a2 (.tup [V.str (Str.ofString "a")]) a2 = _ := upd_same
        have n2 := (Bx.go bxD t1).fresh q2
        generalize upd B1 a2 (.tup [V.str (Str.ofString "a")]) = B2 at t2 u2 q3 qo ⊢
        have t3 := same_alloc (o := .dK []) q3
        have u3 : upd B2 a3 (.dK []) a3 = _ := upd_same
        have n3 := (Bx.go bxD (t1.trans t2)).fresh q3
        generalize upd B2 a3 (.dK []) = B3 at t3 u3 qo ⊢
        have t4 := same_alloc (o := .lst [V.non, .int 5, .bl true, .ref a1, .ref a2, .ref a3, .str (Str.ofString ""), .str (Str.ofString "\n")]) qo
        have u4 : upd B3 mo (.lst [V.non, .int 5, .bl true, .ref a1, .ref a2, .ref a3, .str (Str.ofString ""), .str (Str.ofString "\n")]) mo = _ := upd_same
        have n4 := (Bx.go bxD ((t1.trans t2).trans t3)).fresh qo
        generalize upd B3 mo (.lst [V.non, .int 5, .bl true, .ref a1, .ref a2, .ref a3, .str (Str.ofString ""), .str (Str.ofString "\n")]) = B4 at t4 u4 ⊢
        have v1 := t4 _ _ (t3 _ _ (t2 _ _ u1))
        have v2 := t4 _ _ (t3 _ _ u2)
        have v3 := t4 _ _ u3
        have kB := kD.trans (KB.of (((t1.trans t2).trans t3).trans t4))
        have bB := Bx.go bxD (((t1.trans t2).trans t3).trans t4)
        clear t1 t2 t3 t4 u1 u2 u3 q1 q2 q3 qo
        refine ⟨_, rfl, pick0 (m := 8) bB (by omega) (by decide) (by decide) rfl u4 n4 fun y C1 hy kb1 bx1 => ?_⟩
        have thm : ∀ C2, KB b B4 C2 → Th C2 y ∧ ∀ q, y = .str q → WOk q := fun C2 kc => by
          simp only [List.mem_cons, List.not_mem_nil, or_false] at hy
          rcases hy with rfl | rfl | rfl | rfl | rfl | rfl | rfl | rfl
          · exact ⟨.non, fun q h => (by cases h)⟩
          · exact ⟨.int _, fun q h => (by cases h)⟩
          · exact ⟨.bl _, fun q h => (by cases h)⟩
          · exact ⟨.lst _ _ (kc _ _ n1 v1), fun q h => (by cases h)⟩
          · exact ⟨.tup _ _ (kc _ _ n2 v2), fun q h => (by cases h)⟩
          · exact ⟨.dic _ (kc _ _ n3 v3), fun q h => (by cases h)⟩
          · exact ⟨.str _ (by decide) (good_of _), fun q h => V.str.inj h ▸ ⟨by decide, good_of _⟩⟩
          · exact ⟨.str _ (by decide +kernel) (good_of _), fun q h => V.str.inj h ▸ ⟨by decide +kernel, good_of _⟩⟩
        have wz : WOk z1 := ⟨by have := (w1).1; omega, (w1).2⟩
        have txt : ∀ (m : Int) (C2 : Hp), KB b B4 C2 → Bx b m C2 → m ≤ n + 60 → Q (.str z1) C2 := fun m C2 kc bc hm => k _ C2 (kB.trans kc) (bc.mono hm) wz.th fun q h => V.str.inj h ▸ wz
        have oddy : ∀ (m : Int) (C2 : Hp), KB b B4 C2 → Bx b m C2 → m ≤ n + 60 → Q y C2 := fun m C2 kc bc hm => k _ C2 (kB.trans kc) (bc.mono hm) (thm C2 kc).1 (thm C2 kc).2
        simp only [List.set_cons_succ, List.set_cons_zero]
        refine ⟨_, rfl, rfl, _, rfl, ite2 (fun _ => ⟨_, rfl, b, 3, _, rfl, bx1, by omega, by decide, by decide, fun d3 C2 _ _ offc bxc => ⟨rfl, _, rfl, ite2 (fun _ => ⟨_, rfl, oddy _ C2 (kb1.trans (KB.off offc)) bxc (by omega)⟩) (fun _ => ⟨_, rfl, txt _ C2 (kb1.trans (KB.off offc)) bxc (by omega)⟩)⟩⟩) (fun _ => iteF ⟨_, rfl, txt _ C1 kb1 bx1 (by omega)⟩)⟩
      · skip
        simp only [List.set_cons_succ, List.set_cons_zero]
        refine ⟨_, rfl, one_line, fun a1 q1 => ⟨one_line, fun a2 q2 a3 q3 => ⟨fit (by simp), fun mo qo => ?_⟩⟩⟩
        have t1 := same_alloc (o := .lst [V.str z0]) q1
        have u1 : upd X a1 (.lst [V.str z0]) a1 = _ := upd_same
        have n1 := (bxT).fresh q1
        generalize upd X a1 (.lst [V.str z0]) = B1 at t1 u1 q2 q3 qo ⊢
        have t2 := same_alloc (o := .tup [V.str (Str.ofString "a")]) q2
        have u2 : upd B1 a2 (.tup [V.str (Str.ofString "a")]) a2 = _ := upd_same
        have n2 := (Bx.go bxT t1).fresh q2
        generalize upd B1 a2 (.tup [V.str (Str.ofString "a")]) = B2 at t2 u2 q3 qo ⊢
        have t3 := same_alloc (o := .dK []) q3
        have u3 : upd B2 a3 (.dK []) a3 = _ := upd_same
        have n3 := (Bx.go bxT (t1.trans t2)).fresh q3
        generalize upd B2 a3 (.dK []) = B3 at t3 u3 qo ⊢
        have t4 := same_alloc (o := .lst [V.non, .int 5, .bl true, .ref a1, .ref a2, .ref a3, .str (Str.ofString ""), .str (Str.ofString "\n")]) qo
        have u4 : upd B3 mo (.lst [V.non, .int 5, .bl true, .ref a1, .ref a2, .ref a3, .str (Str.ofString ""), .str (Str.ofString "\n")]) mo = _ := upd_same
        have n4 := (Bx.go bxT ((t1.trans t2).trans t3)).fresh qo
        generalize upd B3 mo (.lst [V.non, .int 5, .bl true, .ref a1, .ref a2, .ref a3, .str (Str.ofString ""), .str (Str.ofString "\n")]) = B4 at t4 u4 ⊢
        have v1 := t4 _ _ (t3 _ _ (t2 _ _ u1))
        have v2 := t4 _ _ (t3 _ _ u2)
        have v3 := t4 _ _ u3
        have kB := kb.trans (KB.of (((t1.trans t2).trans t3).trans t4))
        have bB := Bx.go bxT (((t1.trans t2).trans t3).trans t4)
        clear t1 t2 t3 t4 u1 u2 u3 q1 q2 q3 qo
        refine ⟨_, rfl, pick0 (m := 8) bB (by omega) (by decide) (by decide) rfl u4 n4 fun y C1 hy kb1 bx1 => ?_⟩
        have thm : ∀ C2, KB b B4 C2 → Th C2 y ∧ ∀ q, y = .str q → WOk q := fun C2 kc => by
          simp only [List.mem_cons, List.not_mem_nil, or_false] at hy
          rcases hy with rfl | rfl | rfl | rfl | rfl | rfl | rfl | rfl
          · exact ⟨.non, fun q h => (by cases h)⟩
          · exact ⟨.int _, fun q h => (by cases h)⟩
          · exact ⟨.bl _, fun q h => (by cases h)⟩
          · exact ⟨.lst _ _ (kc _ _ n1 v1), fun q h => (by cases h)⟩
          · exact ⟨.tup _ _ (kc _ _ n2 v2), fun q h => (by cases h)⟩
          · exact ⟨.dic _ (kc _ _ n3 v3), fun q h => (by cases h)⟩
          · exact ⟨.str _ (by decide) (good_of _), fun q h => V.str.inj h ▸ ⟨by decide, good_of _⟩⟩
          · exact ⟨.str _ (by decide +kernel) (good_of _), fun q h => V.str.inj h ▸ ⟨by decide +kernel, good_of _⟩⟩
        have wz : WOk z0 := ⟨by have := (w0).1; omega, (w0).2⟩
        have txt : ∀ (m : Int) (C2 : Hp), KB b B4 C2 → Bx b m C2 → m ≤ n + 60 → Q (.str z0) C2 := fun m C2 kc bc hm => k _ C2 (kB.trans kc) (bc.mono hm) wz.th fun q h => V.str.inj h ▸ wz
        have oddy : ∀ (m : Int) (C2 : Hp), KB b B4 C2 → Bx b m C2 → m ≤ n + 60 → Q y C2 := fun m C2 kc bc hm => k _ C2 (kB.trans kc) (bc.mono hm) (thm C2 kc).1 (thm C2 kc).2
        simp only [List.set_cons_succ, List.set_cons_zero]
        refine ⟨_, rfl, rfl, _, rfl, ite2 (fun _ => ⟨_, rfl, b, 3, _, rfl, bx1, by omega, by decide, by decide, fun d3 C2 _ _ offc bxc => ⟨rfl, _, rfl, ite2 (fun _ => ⟨_, rfl, oddy _ C2 (kb1.trans (KB.off offc)) bxc (by omega)⟩) (fun _ => ⟨_, rfl, txt _ C2 (kb1.trans (KB.off offc)) bxc (by omega)⟩)⟩⟩) (fun _ => iteF ⟨_, rfl, txt _ C1 kb1 bx1 (by omega)⟩)⟩
end
end K8

set_option maxRecDepth 100000
set_option maxHeartbeats 1000000
/-! list(a text) -/
namespace My
open PySem PySem.Spec PyProof.Rows L2
theorem vals_of : ∀ {xs : List V} {us : List Value}, xs.length = us.length → (∀ (j : Nat) (x : V) (u : Value), xs[j]? = some x → us[j]? = some u → RelV x u) → Vals xs us
  | [], [], _, _ => .nil
  | x :: xs, u :: us, h, k => .cons (k 0 x u rfl rfl) (vals_of (by simpa using h) fun j y v a b => k (j + 1) y v (by simpa using a) (by simpa using b))
def signsV (z : Str) : List V := z.cps.toList.map fun c => V.str ⟨#[c]⟩
def rListT : List V → Hp → VK → Prop := fun xs H Q => ∃ z, xs = [.str z] ∧ z.length ≤ sizeLine ∧ ∀ l, H l = none → Q (.ref l) (upd H l (.lst (signsV z)))
theorem call_list_text {X : Cx} (hc : X.calm = true) : CallR X (.type "list") rListT := by
  intro pins s σ H xs us Q I r h
  obtain ⟨z, rfl, hz, q⟩ := h
  obtain ⟨u, rfl, rx⟩ := vals1 r
  obtain ⟨t, rfl⟩ := rx
  refine call_list_str (I.ok.hd hc) z t (hn := hz) fun h' tk acc' c' hk hS' hacc => ?_
  have hl : (signsV z).length = acc'.toList.length := by
    have := hacc.1
    simp [signsV, this]
  have hv : Vals (signsV z) acc'.toList := vals_of hl fun j x v a b => by
    obtain ⟨c, w, hc2, rfl⟩ := hacc.2 j v (by simpa using b)
    unfold signsV at a
    rw [List.getElem?_map] at a
    have e : z.cps.toList[j]? = some c := by simpa using hc2
    rw [e] at a
    obtain rfl := Option.some.inj a
    exact ⟨_, rfl⟩
  refine ⟨.ref s.heap.objs.size, _, I.laid (t' := tk) hk (Nat.le_refl _) (show ObjOk X.prog X.w _ h' _ (.lst (signsV z)) from ⟨?_, acc'.toList, c', hv, by simpa using hS'⟩), rfl, q _ (I.hok.fresh (Nat.le_refl _))⟩
  simpa [signsV, Str.length] using hz
end My

set_option maxRecDepth 100000
set_option maxHeartbeats 400000
namespace K8
open PySem PySem.Spec PyProof.Rows L2 GxR Gd TL My
theorem flat_signs (z : Str) : (signsV z).all flatV = true := by
  unfold signsV
  induction z.cps.toList with
  | nil => rfl
  | cons c r ih => simpa [flatV] using ih
theorem dig_in (z : Str) : inV (.str z) (signsV (Str.ofString "0123456789")) = (digS z).isSome := by
  have e : (Str.ofString "0123456789").cps.toList = [48, 49, 50, 51, 52, 53, 54, 55, 56, 57] := by decide +kernel
  have em : inV (.str z) (signsV (Str.ofString "0123456789")) = true ↔ ∃ c, 48 ≤ c ∧ c ≤ 57 ∧ z.cps.toList = [c] := by
    unfold inV signsV
    rw [e, List.any_eq_true]
    constructor
    · rintro ⟨y, hy, q⟩
      obtain ⟨c, hc, rfl⟩ := List.mem_map.mp hy
      have q : V.str ⟨#[c]⟩ = V.str z := by simpa [eqV] using q
      have q := V.str.inj q
      refine ⟨c, ?_, ?_, by rw [← q]⟩
      · simp only [List.mem_cons, List.not_mem_nil, or_false] at hc; omega
      · simp only [List.mem_cons, List.not_mem_nil, or_false] at hc; omega
    · rintro ⟨c, c0, c1, q⟩
      have hz : z = ⟨#[c]⟩ := tl_inj1 q
      subst hz
      exact ⟨V.str ⟨#[c]⟩, List.mem_map.mpr ⟨c, by simp only [List.mem_cons, List.not_mem_nil, or_false]; omega, rfl⟩, by simp [eqV]⟩
  have ed : (digS z).isSome = true ↔ ∃ c, 48 ≤ c ∧ c ≤ 57 ∧ z.cps.toList = [c] := by
    unfold digS
    split
    · rename_i c hc
      by_cases q : 48 ≤ c ∧ c ≤ 57
      · rw [if_pos q]
        exact ⟨fun _ => ⟨c, q.1, q.2, hc⟩, fun _ => rfl⟩
      · rw [if_neg q]
        refine ⟨fun h => (by cases h), ?_⟩
        rintro ⟨d, d0, d1, hd⟩
        rw [hc] at hd
        injection hd with hd _
        exact absurd (by omega) q
    · rename_i hc
      refine ⟨fun h => (by cases h), ?_⟩
      rintro ⟨d, _, _, hd⟩
      exact absurd hd (hc d)
  rw [Bool.eq_iff_iff]
  exact em.trans ed.symm
theorem if_head {K : PySem.W.Frag} {σ : L2.St} {H : Hp} {D : Ends} {a : Addr} {k0 : Str} {r : List Str} {lit : Str} {n : Nat} {A : TS} (h0 : σ[0]? = some (some (.ref a))) (hl : SqL K H a ((k0 :: r).map V.str))
    (yes : k0 = lit → (k0 :: r).length = n → A D σ H) (no : ¬(k0 = lit ∧ (k0 :: r).length = n) → D.nx σ H) :
    tIfS (tAnd (tTest (tOp rEq (tOp (rIxL K) (tVar 0) (tC (.int 0))) (tC (.str lit)))) (tTest (tOp rEq (tCB (fun xs H_1 Q => ∃ p ys, xs = [V.ref p] ∧ (SqL K H_1 p ys ∨ SqT K H_1 p ys) ∧ Q (V.int (ys.length : Int)) H_1) (tCons (tVar 0) tNil)) (tC (.int (n : Int)))))) A tNext D σ H := by
  refine ⟨_, h0, a, _, 0, _, rfl, rfl, hl, atI_nat (j := 0) rfl, rfl, _, rfl, ?_⟩
  by_cases e : k0 = lit
  · rw [decide_eq_true (by rw [e])]
    refine iteT ⟨_, h0, a, _, rfl, .inl hl, rfl, _, rfl, ?_⟩
    by_cases q : (k0 :: r).length = n
    · rw [decide_eq_true (by rw [List.length_map, q])]
      exact iteT (yes e q)
    · rw [len_no q]
      exact iteF (no fun h => q h.2)
  · rw [decide_eq_false fun h => e (V.str.inj h)]
    exact iteF (iteF (no fun h => e h.1))
section
variable {P : Program} {w : World} {K : PySem.W.Frag} {mg : Str → Option Value} {base : Heap} {aSIDES aSORTS C CE : Addr}
abbrev s_law_has_form : Stmt := top 57
theorem sc_law_has_form : FnScope ["_law_words", "_law_homes"] ["_law_words"] (defScope s_law_has_form) := ⟨rfl, rfl, rfl, by decide +kernel, rfl, by decide +kernel, by decide +kernel⟩
def spHas (K : PySem.W.Frag) : Sp := fun vs H Q _ => ∃ (a : Addr) (l : List Str), vs = [.ref a] ∧ SqL K H a (l.map V.str) ∧ l ≠ [] ∧ (∀ z ∈ l, WOk z) ∧ ∀ H', Same H H' → Q (.bl (parse l).isSome) H'
theorem ok_has_form {f f1 : Addr} {fd fd1 : FuncData} (F : Fun K "_law_has_form" "_law_has_form" s_law_has_form f fd) (T : Txt mg)
    (Nlaw_is_name : Fn K mg "_law_is_name" s_law_is_name ["_law_thing"] f1 fd1) (Glaw_is_name : FnOk P w K mg base CX0 2 f1 fd1 ["_law_thing"] spLawName) :
    FnOk P w K mg base CX0 3 f fd ["_law_words"] (spHas K) := by
  refine F.ok sc_law_has_form (fun vs H Q E h => ?_) (fun cdv A outer s H vs Q E hr h => ?_)
  · obtain ⟨a, l, rfl, _⟩ := h
    rfl
  · obtain ⟨a, l, rfl, hl, ne, wo, k⟩ := h
    obtain ⟨k0, r, rfl⟩ := List.exists_cons_of_ne_nil ne
    refine ⟨_, pss_cons (ps_set (i := 1) sc_law_has_form.nd rfl (Or.inl rfl) (pe_lst (pa_cons pe_str (pa_cons pe_str pa_nil))))
      (pss_cons (ps_if (PW.pt (pw_and (pt_cmpR op_eq (pe_ix ix_list (pv 0) pe_int (fun _ _ => rfl)) pe_str (nomark _)) (pw_and1 (pt_cmpR op_eq (pe_callB call_len_seq (by rfl) T.len_ PySem.boot_len (pa_cons (pv 0) pa_nil)) pe_int (nomark _))))) (pss_one (ps_ret (pe_and (pe_call Glaw_is_name (hr.mono (by decide)) (by rfl) Nlaw_is_name.g Nlaw_is_name.kp Nlaw_is_name.b .nil pass0 (pa_cons (pe_ix ix_list (pv 0) pe_int (fun _ _ => rfl)) pa_nil)) (pe_one (pe_cmpR op_in_seq (pe_ix ix_list (pv 0) pe_int (fun _ _ => rfl)) (pe_callTy (call_list_text rfl) (by rfl) T.list_ (by decide +kernel) (pa_cons pe_str pa_nil)) rfl))))) pss_nil)
      (pss_cons (ps_if (PW.pt (pw_and (pt_cmpR op_eq (pe_ix ix_list (pv 0) pe_int (fun _ _ => rfl)) pe_str (nomark _)) (pw_and1 (pt_cmpR op_eq (pe_callB call_len_seq (by rfl) T.len_ PySem.boot_len (pa_cons (pv 0) pa_nil)) pe_int (nomark _))))) (pss_one (ps_ret (pe_and (pe_cmpR op_in_seq (pe_ix ix_list (pv 0) pe_int (fun _ _ => rfl)) (pe_lst (pa_cons pe_str (pa_cons pe_str pa_nil))) rfl) (pe_one (pe_cmpR op_in_seq (pe_ix ix_list (pv 0) pe_int (fun _ _ => rfl)) (pv 1) rfl))))) pss_nil)
      (pss_cons (ps_if (PW.pt (pw_and (pt_cmpR op_eq (pe_ix ix_list (pv 0) pe_int (fun _ _ => rfl)) pe_str (nomark _)) (pw_and1 (pt_cmpR op_eq (pe_callB call_len_seq (by rfl) T.len_ PySem.boot_len (pa_cons (pv 0) pa_nil)) pe_int (nomark _))))) (pss_one (ps_ret (pe_and (pe_call Glaw_is_name (hr.mono (by decide)) (by rfl) Nlaw_is_name.g Nlaw_is_name.kp Nlaw_is_name.b .nil pass0 (pa_cons (pe_ix ix_list (pv 0) pe_int (fun _ _ => rfl)) pa_nil)) (pe_and (pe_call Glaw_is_name (hr.mono (by decide)) (by rfl) Nlaw_is_name.g Nlaw_is_name.kp Nlaw_is_name.b .nil pass0 (pa_cons (pe_ix ix_list (pv 0) pe_int (fun _ _ => rfl)) pa_nil)) (pe_one (pe_cmpR op_in_seq (pe_ix ix_list (pv 0) pe_int (fun _ _ => rfl)) (pv 1) rfl)))))) pss_nil)
      (pss_one (ps_ret pe_bl))))), ?_⟩
    generalize hσ : L2.start _ _ = σ0
    obtain rfl : σ0 = [some (.ref a), none] := hσ.symm.trans rfl
    refine ⟨two_line, fun u hu => ?_⟩
    have s1 : Same H (upd H u (.lst [V.str (Str.ofString "low"), .str (Str.ofString "high")])) := same_alloc hu
    have e1 : (upd H u (.lst [V.str (Str.ofString "low"), .str (Str.ofString "high")])) u = some (.lst [V.str (Str.ofString "low"), .str (Str.ofString "high")]) := upd_same
    generalize upd H u (.lst [V.str (Str.ofString "low"), .str (Str.ofString "high")]) = H1 at s1 e1 ⊢
    simp only [List.set_cons_succ, List.set_cons_zero]
    have kk := k
    have hl1 := (same_nt s1).seq hl
    dsimp only [gName]
    rw [tSeq]
    refine if_head (n := 3) rfl hl1 (fun e h3 => ?_) (fun n1 => ?_)
    · obtain ⟨x, y, z, q⟩ := three_of h3
      rw [q] at hl1 wo k
      subst e
      obtain rfl : _ = x := (List.cons.inj q).1
      refine ⟨_, rfl, a, _, 1, _, rfl, rfl, hl1, rfl, _, rfl, (wo y (by simp)).th, fun H2 s2 => ⟨_, rfl, ?_⟩⟩
      have hl2 := (same_nt s2).seq hl1
      by_cases hn : nm (.str y) = true
      · rw [hn]
        refine iteT ⟨_, rfl, a, _, 2, _, rfl, rfl, hl2, rfl, _, rfl, by decide +kernel, fun d hd => ⟨d, _, rfl, .inl (SqL.of upd_same), rfl, flat_signs _, ?_⟩⟩
        rw [if_neg (by decide), dig_in]
        have qq := k _ ((s1.trans s2).trans (same_alloc (o := .lst (signsV (Str.ofString "0123456789"))) hd))
        rw [parse_cons, if_pos rfl] at qq
        have e2 : parseP [Str.ofString "place", y, z] = (digS z).map (Row.P y) := if_pos hn
        rw [e2, Option.isSome_map] at qq
        exact qq
      · have qq := k _ (s1.trans s2)
        rw [parse_cons, if_pos rfl] at qq
        have e2 : parseP [Str.ofString "place", y, z] = none := if_neg hn
        rw [e2] at qq
        rw [Bool.not_eq_true] at hn
        rw [hn]
        exact iteF qq
    · dsimp only
      rw [tSeq]
      refine if_head (n := 3) rfl hl1 (fun e h3 => ?_) (fun n2 => ?_)
      · obtain ⟨x, y, z, q⟩ := three_of h3
        rw [q] at hl1 wo k
        subst e
        obtain rfl : _ = x := (List.cons.inj q).1
        refine ⟨_, rfl, a, _, 1, _, rfl, rfl, hl1, rfl, two_line, fun d hd => ⟨d, _, rfl, .inl (SqL.of upd_same), rfl, rfl, _, rfl, ?_⟩⟩
        have s2 := same_alloc (o := .lst [V.str (Str.ofString "staff"), .str (Str.ofString "ticket")]) hd
        show if inV (.str y) [.str "staff", .str "ticket"] = true then _ else _
        rw [kind_in]
        have qq := k _ (s1.trans s2)
        rw [parse_cons, if_neg (by decide +kernel), if_pos rfl] at qq
        by_cases hk : y = Str.ofString "staff" ∨ y = Str.ofString "ticket"
        · rw [decide_eq_true hk]
          refine iteT ⟨_, rfl, a, _, 2, _, rfl, rfl, (same_nt s2).seq hl1, rfl, _, rfl, u, _, rfl, .inl (SqL.of (s2 _ _ e1)), rfl, rfl, ?_⟩
          rw [if_neg (by decide)]
          have e2 : parseS [Str.ofString "stretch", y, z] = (sideI z).map (Row.S y) := if_pos hk
          rw [e2, Option.isSome_map, ← side_sides] at qq
          exact qq
        · rw [decide_eq_false hk]
          have e2 : parseS [Str.ofString "stretch", y, z] = none := if_neg hk
          rw [e2] at qq
          exact iteF qq
      · dsimp only
        rw [tSeq]
        refine if_head (n := 4) rfl hl1 (fun e h4 => ?_) (fun n3 => ?_)
        · obtain ⟨x, y, z, v, q⟩ := four_of h4
          rw [q] at hl1 wo k
          subst e
          obtain rfl : _ = x := (List.cons.inj q).1
          refine ⟨_, rfl, a, _, 1, _, rfl, rfl, hl1, rfl, _, rfl, (wo y (by simp)).th, fun H2 s2 => ⟨_, rfl, ?_⟩⟩
          have hl2 := (same_nt s2).seq hl1
          by_cases hy : nm (.str y) = true
          · rw [hy]
            refine iteT ⟨_, rfl, a, _, 2, _, rfl, rfl, hl2, rfl, _, rfl, (wo z (by simp)).th, fun H3 s3 => ⟨_, rfl, ?_⟩⟩
            have hl3 := (same_nt s3).seq hl2
            have qq := k _ ((s1.trans s2).trans s3)
            rw [parse_cons, if_neg (by decide +kernel), if_neg (by decide +kernel), if_pos rfl] at qq
            by_cases hz : nm (.str z) = true
            · rw [hz]
              refine iteT ⟨_, rfl, a, _, 3, _, rfl, rfl, hl3, rfl, _, rfl, u, _, rfl, .inl (SqL.of (s3 _ _ (s2 _ _ e1))), rfl, rfl, ?_⟩
              rw [if_neg (by decide)]
              have e2 : parseL [Str.ofString "long", y, z, v] = (sideI v).map (Row.L y z) := if_pos ⟨hy, hz⟩
              rw [e2, Option.isSome_map, ← side_sides] at qq
              exact qq
            · have e2 : parseL [Str.ofString "long", y, z, v] = none := if_neg fun h => hz h.2
              rw [e2] at qq
              rw [Bool.not_eq_true] at hz
              rw [hz]
              exact iteF qq
          · have qq := k _ (s1.trans s2)
            rw [parse_cons, if_neg (by decide +kernel), if_neg (by decide +kernel), if_pos rfl] at qq
            have e2 : parseL [Str.ofString "long", y, z, v] = none := if_neg fun h => hy h.1
            rw [e2] at qq
            rw [Bool.not_eq_true] at hy
            rw [hy]
            exact iteF qq
        · have qq := k _ s1
          have e0 : parse (k0 :: r) = none := by
            rw [parse_cons]
            split
            · rename_i e
              exact parseP_no fun h => n1 ⟨e, h⟩
            · split
              · rename_i e
                exact parseS_no fun h => n2 ⟨e, h⟩
              · split
                · rename_i e
                  exact parseL_no fun h => n3 ⟨e, h⟩
                · rfl
          rw [e0] at qq
          exact qq
end
end K8

set_option maxRecDepth 100000
set_option maxHeartbeats 400000
namespace K8
open PySem PySem.Spec PyProof.Rows L2 GxR Gd TL My
theorem AllR.imp {β : Type} {R R' : Hp → V → β → Prop} {H H' : Hp} {vs : List V} {bs : List β} (h : AllR R H vs bs) (m : ∀ v b, R H v b → R' H' v b) : AllR R' H' vs bs := by
  induction h with
  | nil => exact .nil
  | cons a _ ih => exact .cons (m _ _ a) ih
/-- the words behind the first -/
def g0 (p : Str × Int) (l : List Str) : Prop := ∃ b, l = [p.1, b] ∧ digS b = some p.2
def g1 (p : Str × Int) (l : List Str) : Prop := ∃ b, l = [p.1, b] ∧ sideI b = some p.2
def g2 (p : Str × Str × Int) (l : List Str) : Prop := ∃ b, l = [p.1, p.2.1, b] ∧ sideI b = some p.2.2
def RA {β : Type} (g : β → List Str → Prop) (A : List Addr) (H : Hp) (v : V) (p : β) : Prop := ∃ t l, v = .ref t ∧ t ∉ A ∧ H t = some (.lst (l.map V.str)) ∧ g p l
theorem RA.up {β : Type} {g : β → List Str → Prop} {A : List Addr} {H H' : Hp} (k : ∀ t xs, t ∉ A → H t = some (.lst xs) → H' t = some (.lst xs)) {vs : List V} {bs : List β} (h : AllR (RA g A) H vs bs) : AllR (RA g A) H' vs bs :=
  h.imp fun _ _ ⟨t, l, h1, h2, h3, h4⟩ => ⟨t, l, h1, h2, k t _ h2 h3, h4⟩
def FL2 : Row → Option (Str × Str × Int)
  | .L a c h => some (a, c, h)
  | _ => none
/-- three lists in a list -/
structure Parts (p a0 a1 a2 : Addr) (H : Hp) (l : List Row) : Prop where
  hp : H p = some (.lst [.ref a0, .ref a1, .ref a2])
  n01 : a0 ≠ a1
  n02 : a0 ≠ a2
  n12 : a1 ≠ a2
  p0 : p ≠ a0
  p1 : p ≠ a1
  p2 : p ≠ a2
  v0 : ∃ vs, H a0 = some (.lst vs) ∧ AllR (RA g0 [a0, a1, a2]) H vs (l.filterMap FP)
  v1 : ∃ vs, H a1 = some (.lst vs) ∧ AllR (RA g1 [a0, a1, a2]) H vs (l.filterMap FS)
  v2 : ∃ vs, H a2 = some (.lst vs) ∧ AllR (RA g2 [a0, a1, a2]) H vs (l.filterMap FL2)
theorem Parts.up {p a0 a1 a2 : Addr} {H H' : Hp} {l : List Row} (h : Parts p a0 a1 a2 H l) (k : ∀ t xs, H t = some (.lst xs) → H' t = some (.lst xs)) : Parts p a0 a1 a2 H' l := by
  obtain ⟨hp, x1, x2, x3, x4, x5, x6, ⟨vs0, e0, r0⟩, ⟨vs1, e1, r1⟩, ⟨vs2, e2, r2⟩⟩ := h
  exact ⟨k _ _ hp, x1, x2, x3, x4, x5, x6, ⟨vs0, k _ _ e0, RA.up (fun t xs _ => k t xs) r0⟩, ⟨vs1, k _ _ e1, RA.up (fun t xs _ => k t xs) r1⟩, ⟨vs2, k _ _ e2, RA.up (fun t xs _ => k t xs) r2⟩⟩
theorem Parts.fresh {p a0 a1 a2 t : Addr} {H : Hp} {l : List Row} (h : Parts p a0 a1 a2 H l) (e : H t = none) : t ∉ [a0, a1, a2] := by
  obtain ⟨_, e0, _⟩ := h.v0
  obtain ⟨_, e1, _⟩ := h.v1
  obtain ⟨_, e2, _⟩ := h.v2
  intro hm
  simp only [List.mem_cons, List.not_mem_nil, or_false] at hm
  rcases hm with rfl | rfl | rfl
  · rw [e] at e0; cases e0
  · rw [e] at e1; cases e1
  · rw [e] at e2; cases e2
theorem fm_le {α β : Type} (f : α → Option β) (l : List α) : (l.filterMap f).length ≤ l.length := List.length_filterMap_le f l
theorem Parts.add {p a0 a1 a2 : Addr} {H : Hp} {l : List Row} {r : Row} {ws : List Str} (h : Parts p a0 a1 a2 H l) (hr : parse ws = some r) :
    ∃ aj vs, [V.ref a0, V.ref a1, V.ref a2][srt r]? = some (.ref aj) ∧ aj ∈ [a0, a1, a2] ∧ H aj = some (.lst vs) ∧ vs.length ≤ l.length ∧ ∀ (H' : Hp) (t : Addr), (∀ u xs, H u = some (.lst xs) → H' u = some (.lst xs)) → t ∉ [a0, a1, a2] → H' t = some (.lst (ws.tail.map V.str)) → Parts p a0 a1 a2 (upd H' aj (.lst (vs ++ [.ref t]))) (l ++ [r]) := by
  obtain ⟨hp, x1, x2, x3, x4, x5, x6, ⟨vs0, e0, r0⟩, ⟨vs1, e1, r1⟩, ⟨vs2, e2, r2⟩⟩ := h
  have kt : ∀ {H' : Hp} {aj : Addr} {o : HO}, aj ∈ [a0, a1, a2] → ∀ u xs, u ∉ [a0, a1, a2] → H' u = some (.lst xs) → (upd H' aj o) u = some (.lst xs) := by
    intro H' aj o hj u xs hu e
    rw [upd_ne (fun z : u = aj => hu (by rw [z]; exact hj))]
    exact e
  have kk : ∀ {H' : Hp} {aj : Addr} {o : HO}, (∀ u xs, H u = some (.lst xs) → H' u = some (.lst xs)) → aj ∈ [a0, a1, a2] → ∀ u xs, u ∉ [a0, a1, a2] → H u = some (.lst xs) → (upd H' aj o) u = some (.lst xs) :=
    fun k hj u xs hu e => kt hj u xs hu (k _ _ e)
  have m0 : a0 ∈ [a0, a1, a2] := by simp
  have m1 : a1 ∈ [a0, a1, a2] := by simp
  have m2 : a2 ∈ [a0, a1, a2] := by simp
  rcases parse_shape hr with ⟨n, b, d, rfl, rfl, _, hd⟩ | ⟨n, b, d, rfl, rfl, _, hd⟩ | ⟨a, c, b, d, rfl, rfl, _, _, hd⟩
  · refine ⟨a0, vs0, rfl, m0, e0, by rw [r0.len]; exact fm_le _ _, fun H' t k ht e => ⟨by rw [upd_ne x4]; exact k _ _ hp, x1, x2, x3, x4, x5, x6, ⟨_, upd_same, ?_⟩, ⟨vs1, by rw [upd_ne x1.symm]; exact k _ _ e1, ?_⟩, ⟨vs2, by rw [upd_ne x2.symm]; exact k _ _ e2, ?_⟩⟩⟩
    · rw [List.filterMap_append]
      exact (RA.up (kk k m0) r0).app (.cons ⟨t, _, rfl, ht, kt m0 _ _ ht e, b, rfl, hd⟩ .nil)
    · rw [List.filterMap_append, show [Row.P n d].filterMap FS = [] from rfl, List.append_nil]
      exact RA.up (kk k m0) r1
    · rw [List.filterMap_append, show [Row.P n d].filterMap FL2 = [] from rfl, List.append_nil]
      exact RA.up (kk k m0) r2
  · refine ⟨a1, vs1, rfl, m1, e1, by rw [r1.len]; exact fm_le _ _, fun H' t k ht e => ⟨by rw [upd_ne x5]; exact k _ _ hp, x1, x2, x3, x4, x5, x6, ⟨vs0, by rw [upd_ne x1]; exact k _ _ e0, ?_⟩, ⟨_, upd_same, ?_⟩, ⟨vs2, by rw [upd_ne x3.symm]; exact k _ _ e2, ?_⟩⟩⟩
    · rw [List.filterMap_append, show [Row.S n d].filterMap FP = [] from rfl, List.append_nil]
      exact RA.up (kk k m1) r0
    · rw [List.filterMap_append]
      exact (RA.up (kk k m1) r1).app (.cons ⟨t, _, rfl, ht, kt m1 _ _ ht e, b, rfl, hd⟩ .nil)
    · rw [List.filterMap_append, show [Row.S n d].filterMap FL2 = [] from rfl, List.append_nil]
      exact RA.up (kk k m1) r2
  · refine ⟨a2, vs2, rfl, m2, e2, by rw [r2.len]; exact fm_le _ _, fun H' t k ht e => ⟨by rw [upd_ne x6]; exact k _ _ hp, x1, x2, x3, x4, x5, x6, ⟨vs0, by rw [upd_ne x2]; exact k _ _ e0, ?_⟩, ⟨vs1, by rw [upd_ne x3]; exact k _ _ e1, ?_⟩, ⟨_, upd_same, ?_⟩⟩⟩
    · rw [List.filterMap_append, show [Row.L a c d].filterMap FP = [] from rfl, List.append_nil]
      exact RA.up (kk k m2) r0
    · rw [List.filterMap_append, show [Row.L a c d].filterMap FS = [] from rfl, List.append_nil]
      exact RA.up (kk k m2) r1
    · rw [List.filterMap_append]
      exact (RA.up (kk k m2) r2).app (.cons ⟨t, _, rfl, ht, kt m2 _ _ ht e, b, rfl, hd⟩ .nil)
/-- where a row's first word stands among the three -/
theorem sort_at {ws : List Str} {r : Row} (h : parse ws = some r) : ∃ k rest, ws = k :: rest ∧ [Str.ofString "place", Str.ofString "stretch", Str.ofString "long"][srt r]? = some k ∧ srt r ≤ 2 ∧
    ∀ m, m < srt r → [Str.ofString "place", Str.ofString "stretch", Str.ofString "long"][m]? ≠ some k := by
  rcases parse_shape h with ⟨n, b, d, rfl, rfl, _⟩ | ⟨n, b, d, rfl, rfl, _⟩ | ⟨a, c, b, d, rfl, rfl, _⟩
  · exact ⟨_, _, rfl, rfl, by simp [srt], fun m hm => absurd hm (Nat.not_lt_zero _)⟩
  · refine ⟨_, _, rfl, rfl, by simp [srt], fun m hm => ?_⟩
    obtain rfl : m = 0 := by simpa [srt] using hm
    decide +kernel
  · refine ⟨_, _, rfl, rfl, by simp [srt], fun m hm => ?_⟩
    have : m = 0 ∨ m = 1 := by simp [srt] at hm; omega
    rcases this with rfl | rfl <;> decide +kernel
theorem dig_occ {b : Str} {d : Int} (h : digS b = some d) : ∃ i : Nat, (i : Int) = d ∧ Builtin.Str.occurrences (Str.ofString "0123456789") b 0 10 1 = [i] := by
  unfold digS at h
  split at h
  · rename_i c e
    split at h
    · rename_i q
      obtain rfl := Option.some.inj h
      have eb : b = ⟨#[c]⟩ := tl_inj1 (by
        show b.cps.toList = [c]
        exact e)
      subst eb
      have : c = 48 ∨ c = 49 ∨ c = 50 ∨ c = 51 ∨ c = 52 ∨ c = 53 ∨ c = 54 ∨ c = 55 ∨ c = 56 ∨ c = 57 := by omega
      rcases this with rfl | rfl | rfl | rfl | rfl | rfl | rfl | rfl | rfl | rfl
      · exact ⟨0, rfl, by decide +kernel⟩
      · exact ⟨1, rfl, by decide +kernel⟩
      · exact ⟨2, rfl, by decide +kernel⟩
      · exact ⟨3, rfl, by decide +kernel⟩
      · exact ⟨4, rfl, by decide +kernel⟩
      · exact ⟨5, rfl, by decide +kernel⟩
      · exact ⟨6, rfl, by decide +kernel⟩
      · exact ⟨7, rfl, by decide +kernel⟩
      · exact ⟨8, rfl, by decide +kernel⟩
      · exact ⟨9, rfl, by decide +kernel⟩
    · cases h
  · cases h
theorem side_eq {b : Str} {d : Int} (h : sideI b = some d) : (if decide (V.str b = V.str (Str.ofString "high")) then (1 : Int) else 0) = d := by
  unfold sideI at h
  split at h
  · rename_i q
    obtain rfl := Option.some.inj h
    subst q
    decide +kernel
  · split at h
    · rename_i q
      obtain rfl := Option.some.inj h
      subst q
      decide +kernel
    · cases h
/-- the place of a name among the places -/
theorem posOf_some {ps : List (Str × Int)} {z : Str} {j : Nat} (h : posOf ps z = some j) : (ps.map (·.1))[j]? = some z ∧ ∀ m, m < j → (ps.map (·.1))[m]? ≠ some z := by
  unfold posOf at h
  obtain ⟨hj, h1, h2⟩ := List.findIdx?_eq_some_iff_getElem.mp h
  constructor
  · rw [List.getElem?_map, List.getElem?_eq_getElem hj]
    simpa using h1
  · intro m hm e
    have hm' : m < ps.length := by omega
    rw [List.getElem?_map, List.getElem?_eq_getElem hm'] at e
    have := h2 m hm
    simp at this e
    exact this e
theorem posOf_none {ps : List (Str × Int)} {z : Str} : posOf ps z = none ↔ z ∉ ps.map (·.1) := by
  unfold posOf
  rw [List.findIdx?_eq_none_iff]
  constructor
  · intro h hm
    obtain ⟨p, hp, rfl⟩ := List.mem_map.mp hm
    have := h p hp
    simp at this
  · intro h p hp
    have : p.1 ≠ z := fun e => h (List.mem_map.mpr ⟨p, hp, e⟩)
    simpa using this
/-- the first name of the long rows that is none of the places -/
def fuL (ps : List (Str × Int)) : List (Str × Str × Int) → Option Str
  | [] => none
  | (a, c, _) :: r => match fb ps a c with
    | some z => some z
    | none => fuL ps r
theorem fuL_cons (ps : List (Str × Int)) (x : Str × Str × Int) (r : List (Str × Str × Int)) : fuL ps (x :: r) = (match fb ps x.1 x.2.1 with | some z => some z | none => fuL ps r) := by
  obtain ⟨a, c, h⟩ := x
  rfl
theorem fuL_app (ps : List (Str × Int)) : ∀ (l m : List (Str × Str × Int)), fuL ps l = none → fuL ps (l ++ m) = fuL ps m
  | [], _, _ => rfl
  | x :: r, m, h => by
    rw [fuL_cons] at h
    rw [List.cons_append, fuL_cons]
    cases e : fb ps x.1 x.2.1 with
    | some z => rw [e] at h; cases h
    | none =>
      rw [e] at h
      exact fuL_app ps r m h
theorem fu_fuL (ps : List (Str × Int)) : ∀ l : List Row, fu ps l = fuL ps (l.filterMap FL2)
  | [] => rfl
  | .P n d :: r => by
    rw [List.filterMap_cons_none rfl]
    exact fu_fuL ps r
  | .S n d :: r => by
    rw [List.filterMap_cons_none rfl]
    exact fu_fuL ps r
  | .L a c h :: r => by
    rw [show (Row.L a c h :: r).filterMap FL2 = (a, c, h) :: r.filterMap FL2 from rfl, fuL_cons, fu_cons]
    show (match fb ps a c with | some z => some z | none => fu ps r) = _
    rw [fu_fuL ps r]
theorem fuL_at {ps : List (Str × Int)} {l : List (Str × Str × Int)} {i : Nat} {x : Str × Str × Int} (h : l[i]? = some x) (h0 : fuL ps (l.take i) = none) : (∀ z, fb ps x.1 x.2.1 = some z → fuL ps l = some z) ∧ (fb ps x.1 x.2.1 = none → fuL ps (l.take (i + 1)) = none) := by
  constructor
  · intro z e
    have hl : l = l.take i ++ x :: l.drop (i + 1) := by
      have := List.take_append_drop i l
      rw [drop_atG h] at this
      exact this.symm
    rw [hl, fuL_app ps _ _ h0, fuL_cons, e]
  · intro e
    rw [take_at h, fuL_app ps _ _ h0, fuL_cons, e]
    rfl
theorem fuL_mem {ps : List (Str × Int)} : ∀ {l : List (Str × Str × Int)}, fuL ps l = none → ∀ x ∈ l, (∃ j, posOf ps x.1 = some j) ∧ ∃ j, posOf ps x.2.1 = some j
  | [], _, x, hx => absurd hx (by simp)
  | y :: r, h, x, hx => by
    rw [fuL_cons] at h
    cases e : fb ps y.1 y.2.1 with
    | some z => rw [e] at h; cases h
    | none =>
      rw [e] at h
      rcases List.mem_cons.mp hx with rfl | hx
      · unfold fb at e
        cases e1 : posOf ps x.1 with
        | none => rw [if_pos e1] at e; cases e
        | some j =>
          rw [if_neg (by rw [e1]; simp)] at e
          cases e2 : posOf ps x.2.1 with
          | none => rw [if_pos e2] at e; cases e
          | some j2 => exact ⟨⟨j, rfl⟩, j2, rfl⟩
      · exact fuL_mem h x hx
def FI (ps : List (Str × Int)) (x : Str × Str × Int) : Option (Int × Int × Int) := some (idx ps x.1, idx ps x.2.1, x.2.2)
theorem fl_fi (ps : List (Str × Int)) : ∀ l : List Row, (l.filterMap FL2).filterMap (FI ps) = l.filterMap (FL ps)
  | [] => rfl
  | .P n d :: r => by
    rw [List.filterMap_cons_none rfl, List.filterMap_cons_none rfl]
    exact fl_fi ps r
  | .S n d :: r => by
    rw [List.filterMap_cons_none rfl, List.filterMap_cons_none rfl]
    exact fl_fi ps r
  | .L a c h :: r => by
    show (idx ps a, idx ps c, h) :: (r.filterMap FL2).filterMap (FI ps) = (idx ps a, idx ps c, h) :: r.filterMap (FL ps)
    rw [fl_fi ps r]
theorem in_strs (z : Str) (zs : List Str) : inV (.str z) (zs.map V.str) = decide (z ∈ zs) := by
  rw [Bool.eq_iff_iff, decide_eq_true_iff]
  unfold inV
  rw [List.any_eq_true]
  constructor
  · rintro ⟨y, hy, q⟩
    obtain ⟨x, hx, rfl⟩ := List.mem_map.mp hy
    have q : V.str x = V.str z := by simpa [eqV] using q
    rw [← V.str.inj q]
    exact hx
  · intro h
    exact ⟨.str z, List.mem_map.mpr ⟨z, h, rfl⟩, by simp [eqV]⟩
end K8

set_option maxRecDepth 100000
set_option maxHeartbeats 800000
namespace K8
open PySem PySem.Spec PyProof.Rows L2 GxR Gd TL My
theorem idxK {X : Cx} {K : PySem.W.Frag} (h : X.K = K) : MtR X "list.index" (rIndex K) := h ▸ mt_index
theorem strs_flat (zs : List Str) : (zs.map V.str).all flatV = true := by
  rw [List.all_eq_true]
  intro x hx
  obtain ⟨z, _, rfl⟩ := List.mem_map.mp hx
  rfl
theorem strs_at {zs : List Str} {j : Nat} {k : Str} (h1 : zs[j]? = some k) : (zs.map V.str)[j]? = some (.str k) := by rw [List.getElem?_map, h1]; rfl
theorem strs_eq (k : Str) : eqV (.str k) (.str k) = true := by simp [eqV]
theorem strs_no {zs : List Str} {j : Nat} {k : Str} (h2 : ∀ m, m < j → zs[m]? ≠ some k) : ∀ (m : Nat) (z' : V), m < j → (zs.map V.str)[m]? = some z' → eqV z' (.str k) = false := by
  intro m z' hm e
  rw [List.getElem?_map] at e
  cases e2 : zs[m]? with
  | none => rw [e2] at e; cases e
  | some y =>
    rw [e2] at e
    obtain rfl := Option.some.inj e
    have : y ≠ k := fun h => h2 m hm (by rw [e2, h])
    simp [eqV, this]
theorem cut_words {ws : List Str} {r : Row} (h : parse ws = some r) : cutV (ws.map V.str) (some 1) none = ws.tail.map V.str := by
  rcases parse_shape h with ⟨n, b, d, rfl, rfl, _⟩ | ⟨n, b, d, rfl, rfl, _⟩ | ⟨a, c, b, d, rfl, rfl, _⟩ <;> rfl
theorem rows_ifx {z : Str} (wz : WOk z) {σ : L2.St} (h0 : σ[0]? = some (some (.str z))) {H : Hp} {G : VK} (k : ∀ a, H a = none → G (.ref a) (upd H a (.lst ((rowsIn z).map V.str)))) :
    tC (V.str (Str.ofString "")) σ H fun y H2 => rNe (V.str z) y H2 fun x H' => ∃ k, x = V.bl k ∧ if k = true then tM1 (fun x xs H Q => ∃ a b, x = V.str a ∧ xs = [V.str b] ∧ (b.length == 0) = false ∧ a.length + 2 ≤ sizeLine ∧ rNewStrs (Txt.split a b) H Q) (tVar 0) (tC (V.str (Str.ofString "\n"))) σ H' G else tLst tNil σ H' G := by
  by_cases e : z = Str.empty
  · have q := k
    rw [show rowsIn z = [] from if_pos e] at q
    refine ⟨rfl, false, congrArg V.bl (by subst e; decide +kernel), iteF ⟨Nat.zero_le _, q⟩⟩
  · have q := k
    rw [show rowsIn z = PySem.Txt.split z (Str.ofString "\n") from if_neg e] at q
    refine ⟨rfl, true, congrArg V.bl ?_, iteT ⟨_, h0, ⟨_, rfl⟩, z, _, rfl, rfl, by decide +kernel, fit2 (by have := wz.1; omega), q⟩⟩
    have : ¬ V.str z = V.str (Str.ofString "") := fun h => e ((V.str.inj h).trans (by decide +kernel))
    rw [decide_eq_false this]
    rfl
section
variable {P : Program} {w : World} {K : PySem.W.Frag} {mg : Str → Option Value} {base : Heap}
abbrev s_law_read : Stmt := top 58
theorem sc_law_read : FnScope ["_law_text_here", "_law_parts", "_law_behind", "_law_number", "_law_row", "_law_sorts", "_law_places", "_law_stretches", "_law_due_here", "_law_names_here", "_law_one", "_law_longs", "_law_words", "_law_name", "_law_roads"] ["_law_text_here"] (defScope s_law_read) := ⟨rfl, rfl, rfl, by decide +kernel, rfl, by decide +kernel, by decide +kernel⟩
def spRead (K : PySem.W.Frag) (Pt : Addr) : Sp := fun vs H Q _ => ∃ (v : V), vs = [v] ∧ Th H v ∧ (∀ z, v = .str z → WOk z) ∧ TabG H Pt ∧ ∀ H' u, KT Pt H H' → Dp K H' u (resD (readV v)) → Q u H'
theorem ok_read {f f1 f2 Pt : Addr} {fd fd1 fd2 : FuncData} (F : Fun K "_law_read" "_law_read" s_law_read f fd) (T : Txt mg)
    (Nlaw_has_form : Fn K mg "_law_has_form" s_law_has_form ["_law_words"] f1 fd1) (Glaw_has_form : FnOk P w K mg base CX0 3 f1 fd1 ["_law_words"] (spHas K))
    (Nlaw_due : Fn K mg "_law_due" s_law_due ["_law_places", "_law_stretches", "_law_longs"] f2 fd2) (Glaw_due : FnOk P w K mg base CX0 4 f2 fd2 ["_law_places", "_law_stretches", "_law_longs"] spLawDue) :
    FnOk P w K mg base CX0 10 f fd ["_law_text_here"] (spRead K Pt) := by
  refine F.ok sc_law_read (fun vs H Q E h => ?_) (fun cdv A outer s H vs Q E hr h => ?_)
  · obtain ⟨v, rfl, _⟩ := h
    rfl
  · obtain ⟨v, rfl, th, wk, tb, k⟩ := h
    by_cases hv : ∃ z, v = .str z
    · obtain ⟨z, rfl⟩ := hv
      have wz := wk z rfl
      have wr := rowsIn_wok wz
      have lr := rowsIn_len wz
      have kz : ∀ H' u, KT Pt H H' → Dp K H' u (resD (scan 0 0 (rowsIn z))) → Q u H' := k
      refine ⟨_, pss_cons (ps_if (pt_not (pt_val (pe_callB call_isi (by rfl) T.isinstance_ (by decide +kernel) (pa_cons (pv 0) (pa_cons (pe_bltn (v := .ty "str") (by rfl) T.str_ (by decide +kernel) rfl) pa_nil))))) (pss_one (ps_ret (pe_tup (pa_cons pe_str (pa_cons pe_int pa_nil))))) pss_nil)
      (pss_cons (ps_set (i := 1) sc_law_read.nd rfl (Or.inl rfl) (pe_lst (pa_cons (pe_lst pa_nil) (pa_cons (pe_lst pa_nil) (pa_cons (pe_lst pa_nil) pa_nil)))))
      (pss_cons (ps_set (i := 2) sc_law_read.nd rfl (Or.inl rfl) pe_int)
      (pss_cons (ps_for PassesOwn.never rfl (pi_enum (by rfl) T.enumerate_ (pa_cons (pe_ifExp (pt_cmpR op_ne (pv 0) pe_str (nomark _)) (pe_split (pv 0) pe_str) (pe_lst pa_nil)) pa_nil)) (pg_tup (by rfl) (pgs_cons (pg_name (i := 3) sc_law_read.nd rfl (Or.inl rfl)) (pgs_cons (pg_name (i := 4) sc_law_read.nd rfl (Or.inl rfl)) pgs_nil))) (pss_cons (ps_set (i := 12) sc_law_read.nd rfl (Or.inl rfl) (pe_split (pv 4) pe_str))
          (pss_cons (ps_set (i := 5) sc_law_read.nd rfl (Or.inl rfl) (pe_lst (pa_cons pe_str (pa_cons pe_str (pa_cons pe_str pa_nil)))))
          (pss_cons (ps_if (PW.pt (pw_or (pt_not (pt_val (pe_call Glaw_has_form (hr.mono (by decide)) (by rfl) Nlaw_has_form.g Nlaw_has_form.kp Nlaw_has_form.b .nil pass0 (pa_cons (pv 12) pa_nil)))) (pw_or1 (pt_cmpR op_lt (pe_bmK (K := K) rfl PySem.F.plainAttrs_list PySem.F.slot_list_index PySem.F.type_list_index (idxK (K := K) rfl) (pv 5) (pa_cons (pe_ix (ixL (K := K) rfl) (pv 12) pe_int (fun _ _ => rfl)) pa_nil)) (pv 2) (nomark _))))) (pss_one (ps_ret (pe_tup (pa_cons pe_str (pa_cons (pe_op op_add (pv 3) pe_int) pa_nil))))) pss_nil)
          (pss_cons (ps_set (i := 2) sc_law_read.nd rfl (Or.inl rfl) (pe_bmK (K := K) rfl PySem.F.plainAttrs_list PySem.F.slot_list_index PySem.F.type_list_index (idxK (K := K) rfl) (pv 5) (pa_cons (pe_ix (ixL (K := K) rfl) (pv 12) pe_int (fun _ _ => rfl)) pa_nil)))
          (pss_one (ps_expr (pe_bm PySem.F.plainAttrs_list PySem.F.slot_list_append PySem.F.type_list_append mt_append (pe_ix (ixL (K := K) rfl) (pv 1) (pv 2) (fun _ _ => rfl)) (pa_cons (pe_slice sl_list (pv 12) (po_some pe_int) po_none) pa_nil)))))))))
      (pss_cons (ps_setLc (i := 6) (own := [("_law_words", 12)]) (g := gName 12) (tt := tYes) rfl sc_law_read.nd rfl rfl (sw_true rfl rfl rfl (by decide +kernel)) (pi_list (pe_ix (ixL (K := K) rfl) (pv 1) pe_int (fun _ _ => rfl))) (blkOk_by (own := [("_law_words", 12)]) (N := ["_law_text_here", "_law_parts", "_law_behind", "_law_number", "_law_row", "_law_sorts", "_law_places", "_law_stretches", "_law_due_here", "_law_names_here", "_law_one", "_law_longs", "_law_words", "_law_name", "_law_roads"]) (sc := defScope s_law_read) (by decide +kernel)) (fun _ _ _ _ _ => (pg_name (i := 12) sc_law_read.nd rfl (Or.inl rfl))) (fun _ _ _ _ _ => pts_nil) (fun _ _ _ _ _ => (pe_tup (pa_cons (pe_ix (ixL (K := K) rfl) (pv 12) pe_int (fun _ _ => rfl)) (pa_cons (pe_bmK (K := K) rfl PySem.F.plainAttrs_str PySem.F.slot_str_index PySem.F.type_str_index mt_sindex pe_str (pa_cons (pe_ix (ixL (K := K) rfl) (pv 12) pe_int (fun _ _ => rfl)) pa_nil)) pa_nil)))))
      (pss_cons (ps_setLc (i := 7) (own := [("_law_words", 12)]) (g := gName 12) (tt := tYes) rfl sc_law_read.nd rfl rfl (sw_true rfl rfl rfl (by decide +kernel)) (pi_list (pe_ix (ixL (K := K) rfl) (pv 1) pe_int (fun _ _ => rfl))) (blkOk_by (own := [("_law_words", 12)]) (N := ["_law_text_here", "_law_parts", "_law_behind", "_law_number", "_law_row", "_law_sorts", "_law_places", "_law_stretches", "_law_due_here", "_law_names_here", "_law_one", "_law_longs", "_law_words", "_law_name", "_law_roads"]) (sc := defScope s_law_read) (by decide +kernel)) (fun _ _ _ _ _ => (pg_name (i := 12) sc_law_read.nd rfl (Or.inl rfl))) (fun _ _ _ _ _ => pts_nil) (fun _ _ _ _ _ => (pe_tup (pa_cons (pe_ix (ixL (K := K) rfl) (pv 12) pe_int (fun _ _ => rfl)) (pa_cons (pe_callTy call_int1 (by rfl) T.int_ (by decide +kernel) (pa_cons (pe_cmpR op_eq (pe_ix (ixL (K := K) rfl) (pv 12) pe_int (fun _ _ => rfl)) pe_str (nomark _)) pa_nil)) pa_nil)))))
      (pss_cons (ps_set (i := 8) sc_law_read.nd rfl (Or.inl rfl) (pe_call Glaw_due (hr.mono (by decide)) (by rfl) Nlaw_due.g Nlaw_due.kp Nlaw_due.b .nil pass0 (pa_cons (pv 6) (pa_cons (pv 7) (pa_cons pe_non pa_nil)))))
      (pss_cons (ps_if (pt_cmpR op_notN (pv 8) pe_non (nomark _)) (pss_one (ps_ret (pv 8))) pss_nil)
      (pss_cons (ps_set (i := 9) sc_law_read.nd rfl (Or.inr rfl) (pe_lc (own := [("_law_name", 13), ("_law_roads", 14)]) (g := gTup K 2 (gCons (gName 13) (gCons (gName 14) gNil))) (tt := tYes) rfl sc_law_read.nd (pi_list (pv 6)) (blkOk_by (own := [("_law_name", 13), ("_law_roads", 14)]) (N := ["_law_text_here", "_law_parts", "_law_behind", "_law_number", "_law_row", "_law_sorts", "_law_places", "_law_stretches", "_law_due_here", "_law_names_here", "_law_one", "_law_longs", "_law_words", "_law_name", "_law_roads"]) (sc := defScope s_law_read) (by decide +kernel)) (fun _ _ _ _ _ => (pg_tup (by rfl) (pgs_cons (pg_name (i := 13) sc_law_read.nd rfl (Or.inl rfl)) (pgs_cons (pg_name (i := 14) sc_law_read.nd rfl (Or.inl rfl)) pgs_nil)))) (fun _ _ _ _ _ => pts_nil) (fun _ _ _ _ _ => (pv 13))))
      (pss_cons (ps_for PassesOwn.never rfl (pi_list (pe_ix (ixL (K := K) rfl) (pv 1) pe_int (fun _ _ => rfl))) (pg_name (i := 12) sc_law_read.nd rfl (Or.inl rfl)) (pss_one (ps_for PassesOwn.never rfl (pi_list (pe_slice sl_list (pv 12) po_none (po_some pe_int))) (pg_name (i := 10) sc_law_read.nd rfl (Or.inl rfl)) (pss_one (ps_if (pt_cmpR op_notIn_seq (pv 10) (pv 9) rfl) (pss_one (ps_ret (pe_tup (pa_cons pe_str (pa_cons (pv 10) pa_nil))))) pss_nil)))))
      (pss_cons (ps_setLc (i := 11) (own := [("_law_words", 12)]) (g := gName 12) (tt := tYes) rfl sc_law_read.nd rfl rfl (sw_true rfl rfl rfl (by decide +kernel)) (pi_list (pe_ix (ixL (K := K) rfl) (pv 1) pe_int (fun _ _ => rfl))) (blkOk_by (own := [("_law_words", 12)]) (N := ["_law_text_here", "_law_parts", "_law_behind", "_law_number", "_law_row", "_law_sorts", "_law_places", "_law_stretches", "_law_due_here", "_law_names_here", "_law_one", "_law_longs", "_law_words", "_law_name", "_law_roads"]) (sc := defScope s_law_read) (by decide +kernel)) (fun _ _ _ _ _ => (pg_name (i := 12) sc_law_read.nd rfl (Or.inl rfl))) (fun _ _ _ _ _ => pts_nil) (fun _ _ _ _ _ => (pe_tup (pa_cons (pe_bmK (K := K) rfl PySem.F.plainAttrs_list PySem.F.slot_list_index PySem.F.type_list_index (idxK (K := K) rfl) (pv 9) (pa_cons (pe_ix (ixL (K := K) rfl) (pv 12) pe_int (fun _ _ => rfl)) pa_nil)) (pa_cons (pe_bmK (K := K) rfl PySem.F.plainAttrs_list PySem.F.slot_list_index PySem.F.type_list_index (idxK (K := K) rfl) (pv 9) (pa_cons (pe_ix (ixL (K := K) rfl) (pv 12) pe_int (fun _ _ => rfl)) pa_nil)) (pa_cons (pe_callTy call_int1 (by rfl) T.int_ (by decide +kernel) (pa_cons (pe_cmpR op_eq (pe_ix (ixL (K := K) rfl) (pv 12) pe_int (fun _ _ => rfl)) pe_str (nomark _)) pa_nil)) pa_nil))))))
      (pss_cons (ps_set (i := 8) sc_law_read.nd rfl (Or.inl rfl) (pe_call Glaw_due (hr.mono (by decide)) (by rfl) Nlaw_due.g Nlaw_due.kp Nlaw_due.b .nil pass0 (pa_cons (pv 6) (pa_cons (pv 7) (pa_cons (pv 11) pa_nil)))))
      (pss_one (ps_ret (pe_ifExp (pt_cmpR op_isN (pv 8) pe_non (nomark _)) (pe_tup (pa_cons pe_str (pa_cons (pe_tup (pa_cons (pe_callTy call_tuple_of (by rfl) T.tuple_ (by decide +kernel) (pa_cons (pv 6) pa_nil)) (pa_cons (pe_callTy call_tuple_of (by rfl) T.tuple_ (by decide +kernel) (pa_cons (pv 7) pa_nil)) (pa_cons (pe_callTy call_tuple_of (by rfl) T.tuple_ (by decide +kernel) (pa_cons (pv 11) pa_nil)) pa_nil)))) pa_nil))) (pv 8))))))))))))))), ?_⟩
      generalize hσ : L2.start _ _ = σ0
      obtain rfl : σ0 = [some (.str z), none, none, none, none, none, none, none, none, none, none, none, none, none, none] := hσ.symm.trans rfl
      obtain ⟨ty0, ty, cs⟩ := th.ty (K := K)
      rcases cs with ⟨i, h, _⟩ | ⟨b, h, _⟩ | ⟨z', h, _, rfl⟩ | ⟨n1, n2, n3, ht⟩
      · cases h
      · cases h
      · clear h
        refine ⟨_, rfl, _, _, _, _, true, rfl, .ty "str", ty, (by rfl), _, rfl, iteF ?_⟩
        refine ⟨Nat.zero_le _, fun a0 h0 => ⟨Nat.zero_le _, fun a1 h1 => ⟨Nat.zero_le _, fun a2 h2 => ⟨three_line, fun p hp => ?_⟩⟩⟩⟩
        have sA : Same H (upd (upd (upd (upd H a0 (.lst [])) a1 (.lst [])) a2 (.lst [])) p (.lst [.ref a0, .ref a1, .ref a2])) := (((same_alloc h0).trans (same_alloc h1)).trans (same_alloc h2)).trans (same_alloc hp)
        have n01 : a0 ≠ a1 := fun e => by rw [← e, upd_same] at h1; cases h1
        have n12 : a1 ≠ a2 := fun e => by rw [← e, upd_same] at h2; cases h2
        have n02 : a0 ≠ a2 := fun e => by rw [← e, upd_ne n01, upd_same] at h2; cases h2
        have p2 : p ≠ a2 := fun e => by rw [e, upd_same] at hp; cases hp
        have p1 : p ≠ a1 := fun e => by rw [e, upd_ne n12, upd_same] at hp; cases hp
        have p0 : p ≠ a0 := fun e => by rw [e, upd_ne n02, upd_ne n01, upd_same] at hp; cases hp
        have e1 : H a1 = none := by rw [upd_ne n01.symm] at h1; exact h1
        have e2 : H a2 = none := by rw [upd_ne n12.symm, upd_ne n02.symm] at h2; exact h2
        have pa : Parts p a0 a1 a2 (upd (upd (upd (upd H a0 (.lst [])) a1 (.lst [])) a2 (.lst [])) p (.lst [.ref a0, .ref a1, .ref a2])) [] := by
          refine ⟨upd_same, n01, n02, n12, p0, p1, p2, ⟨[], ?_, .nil⟩, ⟨[], ?_, .nil⟩, ⟨[], ?_, .nil⟩⟩
          · rw [upd_ne p0.symm, upd_ne n02, upd_ne n01]; exact upd_same
          · rw [upd_ne p1.symm, upd_ne n12]; exact upd_same
          · rw [upd_ne p2.symm]; exact upd_same
        generalize upd (upd (upd (upd H a0 (.lst [])) a1 (.lst [])) a2 (.lst [])) p (.lst [.ref a0, .ref a1, .ref a2]) = H1 at sA pa ⊢
        clear n01 n12 n02 p0 p1 p2 h1 h2 hp
        have k1 := same_kt tb sA
        clear sA
        simp only [List.set_cons_succ, List.set_cons_zero]
        refine ⟨_, rfl, ?_⟩
        simp only [List.set_cons_succ, List.set_cons_zero]
        refine rows_ifx wz rfl fun a ha => ?_
        have na := pa.fresh ha
        have s2 : Same H1 (upd H1 a (.lst ((rowsIn z).map V.str))) := same_alloc ha
        have ea : (upd H1 a (.lst ((rowsIn z).map V.str))) a = some (.lst ((rowsIn z).map V.str)) := upd_same
        generalize upd H1 a (.lst ((rowsIn z).map V.str)) = H2 at s2 ea ⊢
        generalize rowsIn z = rows at wr lr kz ea ⊢
        replace pa := pa.up (H' := H2) fun t xs h => s2 _ _ h
        have k2 := k1.trans (same_kt k1.tab s2)
        clear s2 k1
        refine ⟨a, _, rfl, SqL.of ea, for_it (D := ⟨_, _, fun _ _ => False, fun _ _ => False⟩) (walk_enum (K := K) (xs := rows.map V.str)) (fun i σ H' => ∃ (u3 u4 u5 u12 : Option V) (b : Nat) (l0 : List Row), σ = [some (.str z), some (.ref p), some (.int (b : Nat)), u3, u4, u5, none, none, none, none, none, none, u12, none, none] ∧ Parsed (rows.take i) l0 ∧ scan 0 0 rows = pre l0 (scan i b (rows.drop i)) ∧ KT Pt H H' ∧ Parts p a0 a1 a2 H' l0 ∧ H' a = some (.lst (rows.map V.str)) ∧ a ∉ [a0, a1, a2]) ?_ ?_ ?_ ?_⟩
        · exact ⟨_, _, _, _, 0, [], rfl, rfl, (pre_nil _).symm, k2, pa, ea, na⟩
        · rintro i σ H' _ ⟨_, _, _, _, _, _, _, _, _, _, _, e, _⟩
          exact SqL.of e
        · rintro i v σ X1 X2 hi ⟨u3, u4, u5, u12, b, l0, rfl, ln, sc, k3, pa3, ea3, na⟩ ⟨T1, X, Y, rfl, hT1, rfl, z1, z2⟩
          obtain rfl := Option.some.inj z1
          replace z2 : (rows.map V.str)[i]? = some Y := z2
          rw [List.getElem?_map] at z2
          cases er : rows[i]? with
          | none => rw [er] at z2; cases z2
          | some y =>
            rw [er] at z2
            obtain rfl := Option.some.inj z2
            have wy := wr y (List.mem_of_getElem? er)
            rw [drop_atG er] at sc
            refine ⟨T1, _, rfl, SqT.of upd_same, rfl, _, _, rfl, _, _, rfl, rfl, ?_⟩
            have s1 : Same X1 (upd X1 T1 (.tup [.int (i : Nat), .str y])) := same_alloc hT1
            generalize upd X1 T1 (.tup [.int (i : Nat), .str y]) = X2 at s1 ⊢
            simp only [List.set_cons_succ, List.set_cons_zero]
            refine ⟨_, rfl, ⟨_, rfl⟩, y, _, rfl, rfl, by decide +kernel, fit2 (by have := wy.1; omega), fun q hq => ?_⟩
            have s2 : Same X1 (upd X2 q (.lst ((PySem.Txt.split y (Str.ofString " ")).map V.str))) := s1.trans (same_alloc hq)
            have eq : (upd X2 q (.lst ((PySem.Txt.split y (Str.ofString " ")).map V.str))) q = some (.lst ((wordsOf y).map V.str)) := upd_same
            generalize upd X2 q (.lst ((PySem.Txt.split y (Str.ofString " ")).map V.str)) = X3 at s2 eq ⊢
            clear s1 hq
            simp only [List.set_cons_succ, List.set_cons_zero]
            refine ⟨three_line, fun so hso => ?_⟩
            have s3 := s2.trans (same_alloc (o := .lst [.str (Str.ofString "place"), .str (Str.ofString "stretch"), .str (Str.ofString "long")]) hso)
            have eso : (upd X3 so (.lst [.str (Str.ofString "place"), .str (Str.ofString "stretch"), .str (Str.ofString "long")])) so = some (.lst ([Str.ofString "place", Str.ofString "stretch", Str.ofString "long"].map V.str)) := upd_same
            have eq3 := same_alloc (o := .lst [.str (Str.ofString "place"), .str (Str.ofString "stretch"), .str (Str.ofString "long")]) hso _ _ eq
            generalize upd X3 so (.lst [.str (Str.ofString "place"), .str (Str.ofString "stretch"), .str (Str.ofString "long")]) = X4 at s3 eso eq3 ⊢
            clear s2 eq
            simp only [List.set_cons_succ, List.set_cons_zero]
            refine ⟨_, rfl, q, wordsOf y, rfl, SqL.of eq3, (by obtain ⟨k0, r, hh⟩ := split_ne y (Str.ofString " "); unfold wordsOf; rw [hh]; simp), fun p hp => split_wok wy hp, fun X5 s5 => ⟨_, rfl, ?_⟩⟩
            have s6 := s3.trans s5
            replace eso := s5 _ _ eso
            replace eq3 := s5 _ _ eq3
            clear s3 s5
            have k6 := k3.trans (same_kt k3.tab s6)
            have ret : scan 0 0 rows = .inl (i + 1) → ∀ t, X5 t = none → Q (.ref t) (upd X5 t (.tup [.str (Str.ofString "text"), .int ((i : Nat) + 1)])) := fun hs t ht => by
              refine kz _ _ (k6.trans (KT.alloc k6.tab ht)) ?_
              rw [hs]
              refine .tup (SqT.of upd_same) (.cons (.str _) (.cons ?_ .nil))
              rw [show (((i + 1 : Nat) : Nat) : Int) = (i : Int) + 1 from by omega]
              exact .int _
            cases ep : parse (wordsOf y) with
            | none =>
              have es : scan i b (y :: rows.drop (i + 1)) = .inl (i + 1) := by
                unfold scan
                rw [ep]
              rw [es] at sc
              exact iteT (iteT ⟨_, rfl, _, _, rfl, rfl, two_line, fun t ht => ret sc t ht⟩)
            | some r =>
              obtain ⟨k0, rest, ew, hk, hk2, hno⟩ := sort_at ep
              have at0 : atI ((wordsOf y).map V.str) 0 = some (.str k0) := by rw [ew]; exact atI_nat (j := 0) rfl
              refine iteF ⟨_, rfl, .inl ⟨rfl, _, SqL.of eso⟩, _, rfl, q, _, 0, _, rfl, rfl, SqL.of eq3, at0, so, _, _, srt r, _, rfl, rfl, SqL.of eso, rfl, strs_flat _, strs_at hk, strs_eq _, strs_no hno, ?_⟩
              refine ⟨_, rfl, _, _, rfl, rfl, _, rfl, ?_⟩
              by_cases c : srt r < b
              · have es : scan i b (y :: rows.drop (i + 1)) = .inl (i + 1) := by
                  unfold scan
                  rw [ep]
                  exact if_pos c
                rw [es] at sc
                rw [decide_eq_true (by omega)]
                exact iteT ⟨_, rfl, _, _, rfl, rfl, two_line, fun t ht => ret sc t ht⟩
              · rw [decide_eq_false (by omega)]
                refine iteF ⟨_, rfl, .inl ⟨rfl, _, SqL.of eso⟩, _, rfl, q, _, 0, _, rfl, rfl, SqL.of eq3, at0, so, _, _, srt r, _, rfl, rfl, SqL.of eso, rfl, strs_flat _, strs_at hk, strs_eq _, strs_no hno, ?_⟩
                simp only [List.set_cons_succ, List.set_cons_zero]
                have pa5 := pa3.up (H' := X5) fun t xs h => s6 _ _ h
                obtain ⟨aj, vs, hj1, hj2, hj3, hj4, hj5⟩ := pa5.add ep
                have nj : H aj = none := by
                  simp only [List.mem_cons, List.not_mem_nil, or_false] at hj2
                  rcases hj2 with rfl | rfl | rfl
                  · exact h0
                  · exact e1
                  · exact e2
                have njP : aj ≠ Pt := fun z => by
                  obtain ⟨ps, q1, _⟩ := tb
                  rw [z, q1] at nj
                  cases nj
                refine ⟨_, rfl, _, rfl, p, _, _, _, rfl, rfl, SqL.of pa5.hp, atI_nat (j := srt r) hj1, .inl ⟨rfl, _, SqL.of hj3⟩, _, rfl, _, rfl, ?_⟩
                refine ⟨q, _, rfl, SqL.of eq3, fun t ht => ?_⟩
                have s7 : Same X5 (upd X5 t (.lst (cutV ((wordsOf y).map V.str) (some 1) none))) := same_alloc ht
                have et : (upd X5 t (.lst (cutV ((wordsOf y).map V.str) (some 1) none))) t = some (.lst (cutV ((wordsOf y).map V.str) (some 1) none)) := upd_same
                generalize upd X5 t (.lst (cutV ((wordsOf y).map V.str) (some 1) none)) = X6 at s7 et ⊢
                rw [cut_words ep] at et
                have ft : t ∉ [a0, a1, a2] := pa5.fresh ht
                have nat : a ≠ aj := fun z => na (by rw [z]; exact hj2)
                have li : l0.length = i := by
                  have q1 := parsed_len ln
                  rw [List.length_map] at hi
                  rw [q1, List.length_take]; omega
                refine ⟨aj, vs, .ref t, rfl, rfl, s7 _ _ hj3, Nat.lt_of_le_of_lt hj4 (by rw [sizeLine_eq]; rw [List.length_map] at hi; omega), ?_⟩
                refine ⟨_, _, _, _, srt r, l0 ++ [r], rfl, ?_, ?_, KT.put (k6.trans (same_kt k6.tab s7)) nj njP, hj5 X6 t (fun u xs h => s7 _ _ h) ft et, ?_, na⟩
                · unfold Parsed at ln ⊢
                  rw [take_at er, List.map_append, List.map_append, ln]
                  show _ ++ [parse (wordsOf y)] = _ ++ [some r]
                  rw [ep]
                · have es : scan i b (y :: rows.drop (i + 1)) = (match scan (i + 1) (srt r) (rows.drop (i + 1)) with | .inl e => .inl e | .inr l => .inr (r :: l)) := by
                    rw [scan, ep]
                    exact if_neg c
                  rw [es] at sc
                  rw [sc]
                  cases scan (i + 1) (srt r) (rows.drop (i + 1)) with
                  | inl e => rfl
                  | inr l =>
                    show Sum.inr (l0 ++ (r :: l)) = Sum.inr (l0 ++ [r] ++ l)
                    rw [List.append_assoc]
                    rfl
                · rw [upd_ne nat]
                  exact s7 _ _ (s6 _ _ ea3)
        · rintro σ X ⟨u3, u4, u5, u12, b, l0, rfl, ln, sc, k3, pa3, _, _⟩
          have len : (rows.map V.str).length = rows.length := List.length_map _
          rw [len, List.drop_eq_nil_of_le (Nat.le_refl _)] at sc
          rw [len, List.take_of_length_le (Nat.le_refl _)] at ln
          obtain ⟨okP, okS⟩ := fp_ok ln
          replace ln := parsed_len ln
          have sc : scan 0 0 rows = .inr l0 := by
            rw [sc]
            show Sum.inr (l0 ++ []) = _
            rw [List.append_nil]
          rw [sc] at kz
          obtain ⟨hp, _, _, _, _, _, _, ⟨vs0, x0, r0⟩, ⟨vs1, x1, r1⟩, ⟨vs2, x2, r2⟩⟩ := pa3
          have lI : l0.length ≤ 200002 := by omega
          clear ln len wr lr ea pa k2 na ha ty th wk k
          have f0 := fm_le FP l0
          have f1 := fm_le FS l0
          have f2 := fm_le FL2 l0
          refine ⟨_, rfl, p, _, 0, _, rfl, rfl, SqL.of hp, atI_nat (j := 0) rfl, a0, rfl, ⟨_, SqL.of x0⟩, fun D hD => filt_itR (R := RP) keepP (walk_list (K := K) (xs := vs0)) (src := l0.filterMap FP) (F := some) r0.len.symm (by rw [sizeLine_eq]; omega) hD (fun H' kb => (KB.seq' hD kb).seq (SqL.of x0)) ?_ ?_⟩
          · rintro i v r H' C B hv hr kb hne kk _
            obtain ⟨b', hb, t, ws, rfl, nt, ht, b1, rfl, hg⟩ := r0.get hv
            rw [hr] at hb
            obtain rfl := Option.some.inj hb
            have ht' := KB.same hD kb _ _ ht
            have new : ∀ {t : Addr}, H' t = none → t ≠ D := fun h e => hne (e ▸ h)
            obtain ⟨j, ej, oj⟩ := dig_occ hg
            refine ⟨wipe1 (by simp), lcY ⟨_, rfl, t, _, 0, _, rfl, rfl, SqL.of ht', atI_nat (j := 0) rfl, rfl, _, rfl, t, _, 1, _, rfl, rfl, SqL.of ht', atI_nat (j := 1) rfl, _, _, j, [], rfl, rfl, oj, two_line, fun q hq => ?_⟩⟩
            exact kk _ _ _ rfl (same_alloc hq) ⟨q, rfl, by rw [hide_ne (new hq), ← ej]; exact upd_same⟩
          · intro H1 xp kb1 eP dP'
            rw [List.filterMap_some] at dP'
            have dP' := dP'.nt keepP (hide_nt D H1)
            have s1 := KB.same hD kb1
            clear kb1
            simp only [List.set_cons_succ, List.set_cons_zero]
            have x1' := s1 _ _ x1
            have hp1 := s1 _ _ hp
            refine ⟨_, rfl, p, _, 1, _, rfl, rfl, SqL.of hp1, atI_nat (j := 1) rfl, a1, rfl, ⟨_, SqL.of x1'⟩, fun D2 hD2 => filt_itR (R := RP) keepP (walk_list (K := K) (xs := vs1)) (src := l0.filterMap FS) (F := some) r1.len.symm (by rw [sizeLine_eq]; omega) hD2 (fun H' kb => (KB.seq' hD2 kb).seq (SqL.of x1')) ?_ ?_⟩
            · rintro i v r H' C B hv hr kb hne kk _
              obtain ⟨b', hb, t, ws, rfl, nt, ht, b1, rfl, hg⟩ := r1.get hv
              rw [hr] at hb
              obtain rfl := Option.some.inj hb
              have ht' := KB.same hD2 kb _ _ (s1 _ _ ht)
              have new : ∀ {t : Addr}, H' t = none → t ≠ D2 := fun h e => hne (e ▸ h)
              refine ⟨wipe1 (by simp), lcY ⟨_, rfl, t, _, 0, _, rfl, rfl, SqL.of ht', atI_nat (j := 0) rfl, _, rfl, t, _, 1, _, rfl, rfl, SqL.of ht', atI_nat (j := 1) rfl, rfl, .inr ⟨_, rfl, two_line, fun q hq => ?_⟩⟩⟩
              exact kk _ _ _ rfl (same_alloc hq) ⟨q, rfl, by rw [hide_ne (new hq), ← side_eq hg]; exact upd_same⟩
            · intro H2 xs kb2 eS dS
              rw [List.filterMap_some] at dS
              replace dS := dS.nt keepP (hide_nt D2 H2)
              have s2 := KB.same hD2 kb2
              have s12 := s1.trans s2
              have eP2 := s2 _ _ eP
              have dP2 := dP'.nt keepP (same_nt s2)
              clear kb2 dP' eP x1' hp1 s2
              simp only [List.set_cons_succ, List.set_cons_zero]
              have hnm : ∀ q ∈ l0.filterMap FP, nm (.str q.1) = true := fun q hq => (okP q hq).nm
              have dr := due_dr (K := K) eP2 dP2 hnm eS dS okS (v3 := .non) (lo := none) rfl
              refine ⟨_, rfl, _, rfl, .ref D, .ref D2, .non, rfl, deepP eP2 dP2 (fun q hq => name_wok (okP q hq)), deepP eS dS (fun q hq => kind_wok (okS q hq).1), deepN, fun H3 u s3 du => ?_⟩
              have k4 := (k3.trans (same_kt k3.tab s12)).trans (same_kt (same_kt k3.tab s12).tab s3)
              simp only [List.set_cons_succ, List.set_cons_zero]
              have bad : ∀ {lo : Option (List (Int × Int × Int))} {v3 u : V} {t : Tag} {d : PyData} {HA HB : Hp}, KT Pt H HB → Same HA HB → DR K HA (dueD HA (.ref D) (.ref D2) v3) (dueP (l0.filterMap FP) (l0.filterMap FS) lo) → DueV HB u (dueD HA (.ref D) (.ref D2) v3) → dueP (l0.filterMap FP) (l0.filterMap FS) lo = some (t, d) → resR l0 = .bad t d → u ≠ .non ∧ Q u HB := by
                intro lo v3 u t d HA HB kb sb dr du ed hres
                rw [ed] at dr
                cases ex : dueD HA (.ref D) (.ref D2) v3 with
                | none => rw [ex] at dr; exact False.elim dr
                | some tx =>
                  obtain ⟨t', x⟩ := tx
                  rw [ex] at dr du
                  obtain ⟨rfl, dx⟩ := dr
                  obtain ⟨pt, rfl, hpt⟩ := du
                  refine ⟨by simp, kz _ _ kb ?_⟩
                  show Dp K HB (.ref pt) (match resR l0 with | .bad t d => PyData.tuple [.str (Str.ofString t.s), d] | .place z => .tuple [.str (Str.ofString "place"), .str z] | .told ps st lo => .tuple [.str (Str.ofString "told"), toldP ps st lo])
                  rw [hres]
                  exact .tup (SqT.of hpt) (.cons (.str _) (.cons (dp_nt (same_nt sb) dx) .nil))
              have good : ∀ {lo : Option (List (Int × Int × Int))} {v3 u : V} {HA HB : Hp}, DR K HA (dueD HA (.ref D) (.ref D2) v3) (dueP (l0.filterMap FP) (l0.filterMap FS) lo) → DueV HB u (dueD HA (.ref D) (.ref D2) v3) → dueP (l0.filterMap FP) (l0.filterMap FS) lo = none → u = .non := by
                intro lo v3 u HA HB dr du ed
                rw [ed] at dr
                cases ex : dueD HA (.ref D) (.ref D2) v3 with
                | some tx => obtain ⟨t', x⟩ := tx; rw [ex] at dr; exact False.elim dr
                | none => rw [ex] at du; exact du
              refine ⟨_, rfl, rfl, _, rfl, ?_⟩
              cases ed : dueP (l0.filterMap FP) (l0.filterMap FS) none with
              | some td =>
                obtain ⟨t, d⟩ := td
                obtain ⟨q1, q2⟩ := bad k4 s3 dr du ed (by unfold resR; rw [ed])
                rw [decide_eq_false q1]
                exact iteT ⟨_, rfl, q2⟩
              | none =>
                obtain rfl := good dr du ed
                clear du dr
                refine iteF ?_
                obtain ⟨sp, wok⟩ := dueP_ok okP okS ed
                have lp : (l0.filterMap FP).length ≤ 6 := wok.p6
                have s34 := s12.trans s3
                have eP3 := s3 _ _ eP2
                have eS3 := s3 _ _ eS
                have dP3 := dP2.nt keepP (same_nt s3)
                have dS3 := dS.nt keepP (same_nt s3)
                clear eP2 eS dP2 dS s3 s12
                refine ⟨_, rfl, D, rfl, ⟨_, SqL.of eP3⟩, fun L9 hL9 => strs_it (walk_list (K := K) (xs := xp)) (out := (l0.filterMap FP).map (·.1)) (by rw [List.length_map, dP3.len]) (by rw [List.length_map]; omega) hL9 (fun H' kb => (KB.seq' hL9 kb).seq (SqL.of eP3)) ?_ ?_⟩
                · rintro i v H' C B hv kb kk
                  obtain ⟨q, hq, t, rfl, ht⟩ := dP3.get hv
                  have ht' := KB.same hL9 kb _ _ ht
                  refine ⟨t, _, rfl, SqT.of ht', rfl, _, _, rfl, _, _, rfl, rfl, wipe2 (by simp) (by simp), lcY ⟨_, rfl, kk q.1 _ ?_ (Same.refl _)⟩⟩
                  rw [List.getElem?_map, hq]; rfl
                · intro H4 kb4 e9
                  have s4 := KB.same hL9 kb4
                  have s04 := s34.trans s4
                  have k5 := k4.trans (same_kt k4.tab s4)
                  have eP4 := s4 _ _ eP3
                  have eS4 := s4 _ _ eS3
                  have dP4 := dP3.nt keepP (same_nt s4)
                  have dS4 := dS3.nt keepP (same_nt s4)
                  have hp4 := s04 _ _ hp
                  have x2' := s04 _ _ x2
                  replace r2 := RA.up (H' := H4) (fun t xs _ h => s04 _ _ h) r2
                  clear eP3 eS3 dP3 dS3 s34 kb4 s4 s04 x0 x1 x2 r0 r1 hp k4
                  simp only [List.set_cons_succ, List.set_cons_zero]
                  refine ⟨_, rfl, p, _, 2, _, rfl, rfl, SqL.of hp4, atI_nat (j := 2) rfl, a2, rfl, ⟨_, SqL.of x2'⟩, for_it (D := ⟨_, _, fun _ _ => False, fun _ _ => False⟩) (walk_list (K := K) (xs := vs2)) (fun i σ H' => ∃ (u10 u12 : Option V), σ = [some (.str z), some (.ref p), some (.int (b : Nat)), u3, u4, u5, some (.ref D), some (.ref D2), some .non, some (.ref L9), u10, none, u12, none, none] ∧ Same H4 H' ∧ fuL (l0.filterMap FP) ((l0.filterMap FL2).take i) = none) ?_ ?_ ?_ ?_⟩
                  · exact ⟨_, _, rfl, Same.refl _, rfl⟩
                  · rintro i σ H' _ ⟨_, _, _, sA, _⟩
                    exact SqL.of (sA _ _ x2')
                  · rintro i v σ Y1 Y2 hi ⟨u10, u12', rfl, sA, f0'⟩ ⟨rfl, hv⟩
                    obtain ⟨⟨a, c, h⟩, hb, t, ws, rfl, nt, ht, b1, rfl, hg⟩ := r2.get hv
                    obtain ⟨g1, g2⟩ := fuL_at hb f0'
                    have plc : ∀ {HB : Hp} {one : Str}, Same H4 HB → fb (l0.filterMap FP) a c = some one → ∀ q, HB q = none → Q (.ref q) (upd HB q (.tup [.str (Str.ofString "place"), .str one])) := by
                      intro HB one sB hf q hq
                      refine kz _ _ (k5.trans (same_kt k5.tab (sB.trans (same_alloc hq)))) ?_
                      show Dp K _ (.ref q) (match resR l0 with | .bad t d => PyData.tuple [.str (Str.ofString t.s), d] | .place z => .tuple [.str (Str.ofString "place"), .str z] | .told ps st lo => .tuple [.str (Str.ofString "told"), toldP ps st lo])
                      rw [show resR l0 = .place one by unfold resR; rw [ed, fu_fuL, g1 one hf]]
                      exact .tup (SqT.of upd_same) (.cons (.str _) (.cons (.str _) .nil))
                    have ht5 := sA _ _ ht
                    simp only [List.set_cons_succ, List.set_cons_zero]
                    refine ⟨_, rfl, _, rfl, t, _, rfl, SqL.of ht5, fun sl hsl => ?_⟩
                    have sB : Same H4 (upd Y2 sl (.lst [.str a, .str c])) := sA.trans (same_alloc hsl)
                    have esl : (upd Y2 sl (.lst [.str a, .str c])) sl = some (.lst [.str a, .str c]) := upd_same
                    refine ⟨sl, rfl, ⟨_, SqL.of upd_same⟩, ?_⟩
                    change (∃ W : Nat → Nat → L2.St → Hp → Prop, (∃ m, W 0 m _ (upd Y2 sl (.lst [.str a, .str c]))) ∧ _)
                    generalize upd Y2 sl (.lst [.str a, .str c]) = Y3 at sB esl ⊢
                    refine for_it (D := ⟨_, _, fun _ _ => False, fun _ _ => False⟩) (walk_list (K := K) (xs := [.str a, .str c])) (fun j σ H' => ∃ (u10 : Option V), σ = [some (.str z), some (.ref p), some (.int (b : Nat)), u3, u4, u5, some (.ref D), some (.ref D2), some .non, some (.ref L9), u10, none, some (.ref t), none, none] ∧ Same H4 H' ∧ H' sl = some (.lst [.str a, .str c]) ∧ (1 ≤ j → posOf (l0.filterMap FP) a ≠ none) ∧ (2 ≤ j → posOf (l0.filterMap FP) c ≠ none)) ?_ ?_ ?_ ?_
                    · exact ⟨_, rfl, sB, esl, fun h => absurd h (by omega), fun h => absurd h (by omega)⟩
                    · rintro j σ H' _ ⟨_, _, _, e, _⟩
                      exact SqL.of e
                    · rintro j v σ Z1 Z2 hj ⟨u10, rfl, sC, esc, c1, c2⟩ ⟨rfl, hv2⟩
                      have e9c := sC _ _ e9
                      have hj2 : j = 0 ∨ j = 1 := by simp at hj; omega
                      rcases hj2 with rfl | rfl
                      · obtain rfl : .str a = v := Option.some.inj hv2
                        simp only [List.set_cons_succ, List.set_cons_zero]
                        refine ⟨_, rfl, _, rfl, L9, _, rfl, .inl (SqL.of e9c), rfl, strs_flat _, _, rfl, ?_⟩
                        rw [if_pos rfl, in_strs]
                        by_cases hm : posOf (l0.filterMap FP) a = none
                        · rw [decide_eq_false (posOf_none.mp hm)]
                          exact iteT ⟨_, rfl, two_line, fun q hq => plc sC (by unfold fb; rw [if_pos hm]) q hq⟩
                        · rw [decide_eq_true (Classical.not_not.mp fun h => hm (posOf_none.mpr h))]
                          exact iteF ⟨_, rfl, sC, esc, fun _ => hm, fun h => absurd h (by omega)⟩
                      · obtain rfl : .str c = v := Option.some.inj hv2
                        simp only [List.set_cons_succ, List.set_cons_zero]
                        refine ⟨_, rfl, _, rfl, L9, _, rfl, .inl (SqL.of e9c), rfl, strs_flat _, _, rfl, ?_⟩
                        rw [if_pos rfl, in_strs]
                        by_cases hm : posOf (l0.filterMap FP) c = none
                        · rw [decide_eq_false (posOf_none.mp hm)]
                          exact iteT ⟨_, rfl, two_line, fun q hq => plc sC (by unfold fb; rw [if_neg (c1 (Nat.le_refl 1)), if_pos hm]) q hq⟩
                        · rw [decide_eq_true (Classical.not_not.mp fun h => hm (posOf_none.mpr h))]
                          exact iteF ⟨_, rfl, sC, esc, fun _ => c1 (Nat.le_refl 1), fun _ => hm⟩
                    · rintro σ Y ⟨u10, rfl, sC, _, c1, c2⟩
                      refine ⟨_, _, rfl, sC, g2 ?_⟩
                      unfold fb
                      rw [if_neg (c1 (Nat.le_succ 1)), if_neg (c2 (Nat.le_refl 2))]
                  · rintro σ Y ⟨u10, u12', rfl, sA, fz⟩
                    rw [← r2.len.symm, List.take_of_length_le (Nat.le_refl _)] at fz
                    obtain ⟨ps, eps⟩ : ∃ ps, ps = l0.filterMap FP := ⟨_, rfl⟩
                    have eP5 := sA _ _ eP4
                    have eS5 := sA _ _ eS4
                    have dP5 := dP4.nt keepP (same_nt sA)
                    have dS5 := dS4.nt keepP (same_nt sA)
                    have hp5 := sA _ _ hp4
                    have x25 := sA _ _ x2'
                    have e95 := sA _ _ e9
                    have k6 := k5.trans (same_kt k5.tab sA)
                    replace r2 := RA.up (H' := Y) (fun t xs _ h => sA _ _ h) r2
                    clear eP4 eS4 dP4 dS4 hp4 x2' e9 k5 sA
                    refine ⟨_, rfl, p, _, 2, _, rfl, rfl, SqL.of hp5, atI_nat (j := 2) rfl, a2, rfl, ⟨_, SqL.of x25⟩, fun D6 hD6 => filt_itR (R := RL) keepL (walk_list (K := K) (xs := vs2)) (src := l0.filterMap FL2) (F := FI (l0.filterMap FP)) r2.len.symm (by rw [sizeLine_eq]; omega) hD6 (fun H' kb => (KB.seq' hD6 kb).seq (SqL.of x25)) ?_ ?_⟩
                    · rintro i v r H' C B hv hr kb hne kk _
                      obtain ⟨⟨a, c, h⟩, hb, t, ws, rfl, nt, ht, b1, rfl, hg⟩ := r2.get hv
                      rw [hr] at hb
                      obtain rfl := Option.some.inj hb
                      have ht' := KB.same hD6 kb _ _ ht
                      have e9' := KB.same hD6 kb _ _ e95
                      have new : ∀ {t : Addr}, H' t = none → t ≠ D6 := fun h e => hne (e ▸ h)
                      obtain ⟨⟨j1, hj1⟩, j2, hj2⟩ := fuL_mem fz _ (List.mem_of_getElem? hr)
                      obtain ⟨n1, n2⟩ := posOf_some hj1
                      obtain ⟨m1, m2⟩ := posOf_some hj2
                      refine ⟨wipe1 (by simp), lcY ⟨_, rfl, .inl ⟨rfl, _, SqL.of e9'⟩, _, rfl, t, _, 0, _, rfl, rfl, SqL.of ht', atI_nat (j := 0) rfl, L9, _, _, j1, _, rfl, rfl, SqL.of e9', rfl, strs_flat _, strs_at n1, strs_eq _, strs_no n2, ?_⟩⟩
                      refine ⟨_, rfl, .inl ⟨rfl, _, SqL.of e9'⟩, _, rfl, t, _, 1, _, rfl, rfl, SqL.of ht', atI_nat (j := 1) rfl, L9, _, _, j2, _, rfl, rfl, SqL.of e9', rfl, strs_flat _, strs_at m1, strs_eq _, strs_no m2, ?_⟩
                      refine ⟨_, rfl, t, _, 2, _, rfl, rfl, SqL.of ht', atI_nat (j := 2) rfl, rfl, .inr ⟨_, rfl, three_line, fun q hq => ?_⟩⟩
                      have i1 : idx (l0.filterMap FP) a = (j1 : Nat) := by unfold idx; rw [hj1]; rfl
                      have i2 : idx (l0.filterMap FP) c = (j2 : Nat) := by unfold idx; rw [hj2]; rfl
                      refine kk _ _ _ rfl (same_alloc hq) ⟨q, rfl, ?_⟩
                      rw [hide_ne (new hq), upd_same, side_eq hg]
                      show _ = some (HO.tup [.int (idx (l0.filterMap FP) a), .int (idx (l0.filterMap FP) c), .int h])
                      rw [i1, i2]
                    · intro H6 xl kb6 eL dL
                      rw [fl_fi] at dL
                      replace dL := dL.nt keepL (hide_nt D6 H6)
                      have s6 := KB.same hD6 kb6
                      have eP6 := s6 _ _ eP5
                      have eS6 := s6 _ _ eS5
                      have dP6 := dP5.nt keepP (same_nt s6)
                      have dS6 := dS5.nt keepP (same_nt s6)
                      clear kb6 eP5 eS5 dP5 dS5 hp5 x25 e95 r2
                      have dr2 := due_dr (K := K) eP6 dP6 hnm eS6 dS6 okS (v3 := .ref D6) (lo := some (l0.filterMap (FL (l0.filterMap FP)))) ⟨D6, xl, rfl, eL, dL⟩
                      simp only [List.set_cons_succ, List.set_cons_zero]
                      refine ⟨_, rfl, _, rfl, _, rfl, .ref D, .ref D2, .ref D6, rfl, deepP eP6 dP6 (fun q hq => name_wok (okP q hq)), deepP eS6 dS6 (fun q hq => kind_wok (okS q hq).1), deepL eL dL, fun H7 u s7 du => ?_⟩
                      have k7 := k6.trans (same_kt k6.tab (s6.trans s7))
                      simp only [List.set_cons_succ, List.set_cons_zero]
                      refine ⟨_, rfl, rfl, _, rfl, ?_⟩
                      cases ed2 : dueP (l0.filterMap FP) (l0.filterMap FS) (some (l0.filterMap (FL (l0.filterMap FP)))) with
                      | some td =>
                        obtain ⟨t, d⟩ := td
                        obtain ⟨q1, q2⟩ := bad k7 s7 dr2 du ed2 (by unfold resR; rw [ed, fu_fuL, fz, ed2])
                        rw [decide_eq_false q1]
                        exact iteF ⟨_, rfl, q2⟩
                      | none =>
                        obtain rfl := good dr2 du ed2
                        have eP7 := s7 _ _ eP6
                        have eS7 := s7 _ _ eS6
                        have eL7 := s7 _ _ eL
                        have dP7 := dP6.nt keepP (same_nt s7)
                        have dS7 := dS6.nt keepP (same_nt s7)
                        have dL7 := dL.nt keepL (same_nt s7)
                        refine iteT ⟨_, rfl, D, xp, rfl, .inl ⟨SqL.of eP7, fun q1 hq1 => ?_⟩⟩
                        have t1 : Same H7 (upd H7 q1 (.tup xp)) := same_alloc hq1
                        have v1 : (upd H7 q1 (.tup xp)) q1 = some (.tup xp) := upd_same
                        generalize upd H7 q1 (.tup xp) = G1 at t1 v1 ⊢
                        refine ⟨_, rfl, D2, xs, rfl, .inl ⟨SqL.of (t1 _ _ eS7), fun q2 hq2 => ?_⟩⟩
                        have t2 : Same G1 (upd G1 q2 (.tup xs)) := same_alloc hq2
                        have v2 : (upd G1 q2 (.tup xs)) q2 = some (.tup xs) := upd_same
                        generalize upd G1 q2 (.tup xs) = G2 at t2 v2 ⊢
                        refine ⟨_, rfl, D6, xl, rfl, .inl ⟨SqL.of (t2 _ _ (t1 _ _ eL7)), fun q3 hq3 => ?_⟩⟩
                        have t3 : Same G2 (upd G2 q3 (.tup xl)) := same_alloc hq3
                        have v3 : (upd G2 q3 (.tup xl)) q3 = some (.tup xl) := upd_same
                        generalize upd G2 q3 (.tup xl) = G3 at t3 v3 ⊢
                        refine ⟨three_line, fun q4 hq4 => ?_⟩
                        have t4 : Same G3 (upd G3 q4 (.tup [.ref q1, .ref q2, .ref q3])) := same_alloc hq4
                        have v4 : (upd G3 q4 (.tup [.ref q1, .ref q2, .ref q3])) q4 = some (.tup [.ref q1, .ref q2, .ref q3]) := upd_same
                        generalize upd G3 q4 (.tup [.ref q1, .ref q2, .ref q3]) = G4 at t4 v4 ⊢
                        refine ⟨two_line, fun q5 hq5 => ?_⟩
                        have t5 : Same G4 (upd G4 q5 (.tup [.str (Str.ofString "told"), .ref q4])) := same_alloc hq5
                        have t75 := (((t1.trans t2).trans t3).trans t4).trans t5
                        refine kz _ _ (k7.trans (same_kt k7.tab t75)) ?_
                        show Dp K _ (.ref q5) (match resR l0 with | .bad t d => PyData.tuple [.str (Str.ofString t.s), d] | .place z => .tuple [.str (Str.ofString "place"), .str z] | .told ps st lo => .tuple [.str (Str.ofString "told"), toldP ps st lo])
                        rw [show resR l0 = .told (l0.filterMap FP) (l0.filterMap FS) (l0.filterMap (FL (l0.filterMap FP))) by unfold resR; rw [ed, fu_fuL, fz, ed2]]
                        refine .tup (SqT.of upd_same) (.cons (.str _) (.cons (.tup (SqT.of (t5 _ _ v4)) (.cons (.tup (SqT.of (t5 _ _ (t4 _ _ (t3 _ _ (t2 _ _ v1))))) ?_) (.cons (.tup (SqT.of (t5 _ _ (t4 _ _ (t3 _ _ v2)))) ?_) (.cons (.tup (SqT.of (t5 _ _ (t4 _ _ v3))) ?_) .nil)))) .nil))
                        · exact rp_dp (dP7.nt keepP (same_nt t75))
                        · exact rp_dp (dS7.nt keepP (same_nt t75))
                        · exact rl_dp (dL7.nt keepL (same_nt t75))
      · exact absurd rfl (n3 z)
    · skip
      refine ⟨_, pss_cons (ps_if (pt_not (pt_val (pe_callB call_isi (by rfl) T.isinstance_ (by decide +kernel) (pa_cons (pv 0) (pa_cons (pe_bltn (v := .ty "str") (by rfl) T.str_ (by decide +kernel) rfl) pa_nil))))) (pss_one (ps_ret (pe_tup (pa_cons pe_str (pa_cons pe_int pa_nil))))) pss_nil)
      (pss_cons (ps_set (i := 1) sc_law_read.nd rfl (Or.inl rfl) (pe_lst (pa_cons (pe_lst pa_nil) (pa_cons (pe_lst pa_nil) (pa_cons (pe_lst pa_nil) pa_nil)))))
      (pss_cons (ps_set (i := 2) sc_law_read.nd rfl (Or.inl rfl) pe_int)
      (pss_cons (ps_for PassesOwn.never rfl (pi_enum (by rfl) T.enumerate_ (pa_cons (pe_ifExp (pt_cmpR op_ne (pv 0) pe_str (nomark _)) (pe_split (pv 0) pe_str) (pe_lst pa_nil)) pa_nil)) (pg_tup (by rfl) (pgs_cons (pg_name (i := 3) sc_law_read.nd rfl (Or.inl rfl)) (pgs_cons (pg_name (i := 4) sc_law_read.nd rfl (Or.inl rfl)) pgs_nil))) (pss_cons (ps_set (i := 12) sc_law_read.nd rfl (Or.inl rfl) (pe_split (pv 4) pe_str))
          (pss_cons (ps_set (i := 5) sc_law_read.nd rfl (Or.inl rfl) (pe_lst (pa_cons pe_str (pa_cons pe_str (pa_cons pe_str pa_nil)))))
          (pss_cons (ps_if (PW.pt (pw_or (pt_not (pt_val (pe_call Glaw_has_form (hr.mono (by decide)) (by rfl) Nlaw_has_form.g Nlaw_has_form.kp Nlaw_has_form.b .nil pass0 (pa_cons (pv 12) pa_nil)))) (pw_or1 (pt_cmpR op_lt (pe_bmK (K := K) rfl PySem.F.plainAttrs_list PySem.F.slot_list_index PySem.F.type_list_index (idxK (K := K) rfl) (pv 5) (pa_cons (pe_ix (ixL (K := K) rfl) (pv 12) pe_int (fun _ _ => rfl)) pa_nil)) (pv 2) (nomark _))))) (pss_one (ps_ret (pe_tup (pa_cons pe_str (pa_cons (pe_op op_add (pv 3) pe_int) pa_nil))))) pss_nil)
          (pss_cons (ps_set (i := 2) sc_law_read.nd rfl (Or.inl rfl) (pe_bmK (K := K) rfl PySem.F.plainAttrs_list PySem.F.slot_list_index PySem.F.type_list_index (idxK (K := K) rfl) (pv 5) (pa_cons (pe_ix (ixL (K := K) rfl) (pv 12) pe_int (fun _ _ => rfl)) pa_nil)))
          (pss_one (ps_expr (pe_bm PySem.F.plainAttrs_list PySem.F.slot_list_append PySem.F.type_list_append mt_append (pe_ix (ixL (K := K) rfl) (pv 1) (pv 2) (fun _ _ => rfl)) (pa_cons (pe_slice sl_list (pv 12) (po_some pe_int) po_none) pa_nil)))))))))
      (pss_cons (ps_setLc (i := 6) (own := [("_law_words", 12)]) (g := gName 12) (tt := tYes) rfl sc_law_read.nd rfl rfl (sw_true rfl rfl rfl (by decide +kernel)) (pi_list (pe_ix (ixL (K := K) rfl) (pv 1) pe_int (fun _ _ => rfl))) (blkOk_by (own := [("_law_words", 12)]) (N := ["_law_text_here", "_law_parts", "_law_behind", "_law_number", "_law_row", "_law_sorts", "_law_places", "_law_stretches", "_law_due_here", "_law_names_here", "_law_one", "_law_longs", "_law_words", "_law_name", "_law_roads"]) (sc := defScope s_law_read) (by decide +kernel)) (fun _ _ _ _ _ => (pg_name (i := 12) sc_law_read.nd rfl (Or.inl rfl))) (fun _ _ _ _ _ => pts_nil) (fun _ _ _ _ _ => (pe_tup (pa_cons (pe_ix (ixL (K := K) rfl) (pv 12) pe_int (fun _ _ => rfl)) (pa_cons (pe_bmK (K := K) rfl PySem.F.plainAttrs_str PySem.F.slot_str_index PySem.F.type_str_index mt_sindex pe_str (pa_cons (pe_ix (ixL (K := K) rfl) (pv 12) pe_int (fun _ _ => rfl)) pa_nil)) pa_nil)))))
      (pss_cons (ps_setLc (i := 7) (own := [("_law_words", 12)]) (g := gName 12) (tt := tYes) rfl sc_law_read.nd rfl rfl (sw_true rfl rfl rfl (by decide +kernel)) (pi_list (pe_ix (ixL (K := K) rfl) (pv 1) pe_int (fun _ _ => rfl))) (blkOk_by (own := [("_law_words", 12)]) (N := ["_law_text_here", "_law_parts", "_law_behind", "_law_number", "_law_row", "_law_sorts", "_law_places", "_law_stretches", "_law_due_here", "_law_names_here", "_law_one", "_law_longs", "_law_words", "_law_name", "_law_roads"]) (sc := defScope s_law_read) (by decide +kernel)) (fun _ _ _ _ _ => (pg_name (i := 12) sc_law_read.nd rfl (Or.inl rfl))) (fun _ _ _ _ _ => pts_nil) (fun _ _ _ _ _ => (pe_tup (pa_cons (pe_ix (ixL (K := K) rfl) (pv 12) pe_int (fun _ _ => rfl)) (pa_cons (pe_callTy call_int1 (by rfl) T.int_ (by decide +kernel) (pa_cons (pe_cmpR op_eq (pe_ix (ixL (K := K) rfl) (pv 12) pe_int (fun _ _ => rfl)) pe_str (nomark _)) pa_nil)) pa_nil)))))
      (pss_cons (ps_set (i := 8) sc_law_read.nd rfl (Or.inl rfl) (pe_call Glaw_due (hr.mono (by decide)) (by rfl) Nlaw_due.g Nlaw_due.kp Nlaw_due.b .nil pass0 (pa_cons (pv 6) (pa_cons (pv 7) (pa_cons pe_non pa_nil)))))
      (pss_cons (ps_if (pt_cmpR op_notN (pv 8) pe_non (nomark _)) (pss_one (ps_ret (pv 8))) pss_nil)
      (pss_cons (ps_set (i := 9) sc_law_read.nd rfl (Or.inr rfl) (pe_lc (own := [("_law_name", 13), ("_law_roads", 14)]) (g := gTup K 2 (gCons (gName 13) (gCons (gName 14) gNil))) (tt := tYes) rfl sc_law_read.nd (pi_list (pv 6)) (blkOk_by (own := [("_law_name", 13), ("_law_roads", 14)]) (N := ["_law_text_here", "_law_parts", "_law_behind", "_law_number", "_law_row", "_law_sorts", "_law_places", "_law_stretches", "_law_due_here", "_law_names_here", "_law_one", "_law_longs", "_law_words", "_law_name", "_law_roads"]) (sc := defScope s_law_read) (by decide +kernel)) (fun _ _ _ _ _ => (pg_tup (by rfl) (pgs_cons (pg_name (i := 13) sc_law_read.nd rfl (Or.inl rfl)) (pgs_cons (pg_name (i := 14) sc_law_read.nd rfl (Or.inl rfl)) pgs_nil)))) (fun _ _ _ _ _ => pts_nil) (fun _ _ _ _ _ => (pv 13))))
      (pss_cons (ps_for PassesOwn.never rfl (pi_list (pe_ix (ixL (K := K) rfl) (pv 1) pe_int (fun _ _ => rfl))) (pg_name (i := 12) sc_law_read.nd rfl (Or.inl rfl)) (pss_one (ps_for PassesOwn.never rfl (pi_list (pe_slice sl_list (pv 12) po_none (po_some pe_int))) (pg_name (i := 10) sc_law_read.nd rfl (Or.inl rfl)) (pss_one (ps_if (pt_cmpR op_notIn_seq (pv 10) (pv 9) rfl) (pss_one (ps_ret (pe_tup (pa_cons pe_str (pa_cons (pv 10) pa_nil))))) pss_nil)))))
      (pss_cons (ps_setLc (i := 11) (own := [("_law_words", 12)]) (g := gName 12) (tt := tYes) rfl sc_law_read.nd rfl rfl (sw_true rfl rfl rfl (by decide +kernel)) (pi_list (pe_ix (ixL (K := K) rfl) (pv 1) pe_int (fun _ _ => rfl))) (blkOk_by (own := [("_law_words", 12)]) (N := ["_law_text_here", "_law_parts", "_law_behind", "_law_number", "_law_row", "_law_sorts", "_law_places", "_law_stretches", "_law_due_here", "_law_names_here", "_law_one", "_law_longs", "_law_words", "_law_name", "_law_roads"]) (sc := defScope s_law_read) (by decide +kernel)) (fun _ _ _ _ _ => (pg_name (i := 12) sc_law_read.nd rfl (Or.inl rfl))) (fun _ _ _ _ _ => pts_nil) (fun _ _ _ _ _ => (pe_tup (pa_cons (pe_bmK (K := K) rfl PySem.F.plainAttrs_list PySem.F.slot_list_index PySem.F.type_list_index (idxK (K := K) rfl) (pv 9) (pa_cons (pe_ix (ixL (K := K) rfl) (pv 12) pe_int (fun _ _ => rfl)) pa_nil)) (pa_cons (pe_bmK (K := K) rfl PySem.F.plainAttrs_list PySem.F.slot_list_index PySem.F.type_list_index (idxK (K := K) rfl) (pv 9) (pa_cons (pe_ix (ixL (K := K) rfl) (pv 12) pe_int (fun _ _ => rfl)) pa_nil)) (pa_cons (pe_callTy call_int1 (by rfl) T.int_ (by decide +kernel) (pa_cons (pe_cmpR op_eq (pe_ix (ixL (K := K) rfl) (pv 12) pe_int (fun _ _ => rfl)) pe_str (nomark _)) pa_nil)) pa_nil))))))
      (pss_cons (ps_set (i := 8) sc_law_read.nd rfl (Or.inl rfl) (pe_call Glaw_due (hr.mono (by decide)) (by rfl) Nlaw_due.g Nlaw_due.kp Nlaw_due.b .nil pass0 (pa_cons (pv 6) (pa_cons (pv 7) (pa_cons (pv 11) pa_nil)))))
      (pss_one (ps_ret (pe_ifExp (pt_cmpR op_isN (pv 8) pe_non (nomark _)) (pe_tup (pa_cons pe_str (pa_cons (pe_tup (pa_cons (pe_callTy call_tuple_of (by rfl) T.tuple_ (by decide +kernel) (pa_cons (pv 6) pa_nil)) (pa_cons (pe_callTy call_tuple_of (by rfl) T.tuple_ (by decide +kernel) (pa_cons (pv 7) pa_nil)) (pa_cons (pe_callTy call_tuple_of (by rfl) T.tuple_ (by decide +kernel) (pa_cons (pv 11) pa_nil)) pa_nil)))) pa_nil))) (pv 8))))))))))))))), ?_⟩
      have e0 : readV v = .inl 0 := by
        unfold readV
        split
        · rename_i z
          exact absurd ⟨z, rfl⟩ hv
        · rfl
      rw [e0] at k
      have out : ∀ t, H t = none → Q (.ref t) (upd H t (.tup [.str (Str.ofString "text"), .int 0])) := fun t ht => k _ _ (KT.alloc tb ht) (.tup (SqT.of upd_same) (.cons (.str _) (.cons (.int _) .nil)))
      obtain ⟨t, ty, cs⟩ := th.ty (K := K)
      rcases cs with ⟨i, rfl, rfl⟩ | ⟨b, rfl, rfl⟩ | ⟨z, rfl, _, rfl⟩ | ⟨n1, n2, n3, ht⟩
      · exact ⟨_, rfl, _, _, _, _, false, rfl, .ty "str", ty, (by rfl), _, rfl, iteT ⟨two_line, out⟩⟩
      · exact ⟨_, rfl, _, _, _, _, false, rfl, .ty "str", ty, (by rfl), _, rfl, iteT ⟨two_line, out⟩⟩
      · exact absurd ⟨z, rfl⟩ hv
      · rcases ht with rfl | rfl | rfl | rfl
        · exact ⟨_, rfl, _, _, _, _, false, rfl, .ty "str", ty, (by rfl), _, rfl, iteT ⟨two_line, out⟩⟩
        · exact ⟨_, rfl, _, _, _, _, false, rfl, .ty "str", ty, (by rfl), _, rfl, iteT ⟨two_line, out⟩⟩
        · exact ⟨_, rfl, _, _, _, _, false, rfl, .ty "str", ty, (by rfl), _, rfl, iteT ⟨two_line, out⟩⟩
        · exact ⟨_, rfl, _, _, _, _, false, rfl, .ty "str", ty, (by rfl), _, rfl, iteT ⟨two_line, out⟩⟩
end
end K8

set_option maxRecDepth 100000
set_option maxHeartbeats 1800000
/-! LcX: a list comprehension whose element may let an exception out of a call. -/
namespace My
open PySem PySem.Spec PyProof.Rows L2

/-- a block whose calls' exceptions go on -/
abbrev CxX (X : Cx) (E : XK) (s : Shared) (H : Hp) (scope : Scope) (cenv : Env) (fp : List Addr) : Cx :=
  { X.blk s H scope cenv fp with xe := fun u s' => ∃ pins σ H1 s1, Inv (X.blk s H scope cenv fp) pins σ H1 s1 ∧ CX X.prog X.w X.stack H1 s1 E u s' }
section
variable {X : Cx} {pins : List (Addr × Obj)} {σ σ1 : L2.St} {H H1 : Hp} {s s1 s' : Shared} {E : XK} {scope : Scope} {cenv : Env} {fp : List Addr}
theorem toX (I : Inv (X.blk s H scope cenv fp) pins σ1 H1 s1) : Inv (CxX X E s H scope cenv fp) pins σ1 H1 s1 :=
  ⟨⟨I.ok.mod, I.ok.kind, I.ok.glob, I.ok.blt, I.ok.above, I.ok.inj, I.ok.has, I.ok.cab, I.ok.hd, I.ok.frames, I.ok.stk, I.ok.exf, I.ok.bs, I.ok.bsz, I.ok.noex, I.ok.exfs, I.ok.funs, I.ok.frf⟩,
    I.os, I.bare, I.base, I.loc, I.cell, I.free, I.freeC, I.pin, I.hok, I.len⟩
theorem ofX (I : Inv (CxX X E s H scope cenv fp) pins σ1 H1 s1) : Inv (X.blk s H scope cenv fp) pins σ1 H1 s1 :=
  ⟨⟨I.ok.mod, I.ok.kind, I.ok.glob, I.ok.blt, I.ok.above, I.ok.inj, I.ok.has, I.ok.cab, I.ok.hd, I.ok.frames, I.ok.stk, I.ok.exf, I.ok.bs, I.ok.bsz, I.ok.noex, I.ok.exfs, I.ok.funs, I.ok.frf⟩,
    I.os, I.bare, I.base, I.loc, I.cell, I.free, I.freeC, I.pin, I.hok, I.len⟩
/-- what a call in the block lets out is taken -/
theorem passX : ∀ (pins : List (Addr × Obj)) (σ1 : L2.St) (H1 : Hp) (s1 : Shared) (e : Value) (s' : Shared), Inv (CxX X E s H scope cenv fp) pins σ1 H1 s1 → CX (CxX X E s H scope cenv fp).prog (CxX X E s H scope cenv fp).w (CxX X E s H scope cenv fp).stack H1 s1 E e s' → (CxX X E s H scope cenv fp).xe e s' :=
  fun pins σ1 H1 s1 e s' I c => ⟨pins, σ1, H1, s1, ofX I, c⟩

/-- out of the block: noted, the block let go, on in the def's own air -/
theorem comp_out {W : WX} {C : Addr} {m : Str → Option Value} (hs : X.stack = X.env :: X.outer) (hf : X.env.frame = some X.env.locals) (tk : Takes X W) (hW : ∀ cls d σ H, E cls d H → W cls d σ H)
    (hcf : cenv.frame = X.env.frame) (cL : cenv.locals = C) (I : Inv X pins σ H1 s1) (f : FpOk X pins H1 C) (hn : s1.heap.Ns C m) {u : Value} (c : CX X.prog X.w X.stack H1 s1 E u s') :
    notedBy (model X.prog X.w) X.A cenv (CompFails (model X.prog X.w) X.A X.xe cenv) u s' := by
  obtain ⟨nC, f1, f2, f3, f4, f5⟩ := f
  obtain ⟨a, B, Hq, cls, d, rfl, fly, okB, ub, nea, os, gbare, wE⟩ := c
  have hfrs : X.A.frames = some (X.env :: X.outer) := by rw [I.ok.frames, hs]
  have nCs : C ∉ frs X.stack := fun hm => (List.mem_cons.mp (I.stkSub C hm)).elim f1 f2
  show wpAny _ X.A (noteFrame (.ref a) cenv) _ _ s'
  rw [noteFrame_env _ hcf]
  obtain ⟨oC, es, ep, hoC, hdC, rC⟩ := id hn
  have hB : B.get? C = some oC := ub.keep C oC hoC nC nCs
  have hC' : s'.heap.Ns C m := ⟨oC, es, ep, fly.1 _ _ hB, hdC, rC⟩
  have nC' : Hq C = none := ub.free C oC hoC nC
  rw [hs] at fly
  refine HandSPX.looks_onZ Zc.steady hfrs hf fly fun h1 hh up => ?_
  have hn1 : h1.Ns cenv.locals m := by rw [cL]; exact hC'.upToSlots up
  refine ⟨m, hn1, fun h2 m2 hn2 hs2 => ?_⟩
  rw [cL] at hs2 hn1 hn2
  obtain ⟨Bm, bm1, bm2⟩ := restrict B fun b => decide (b ≠ C)
  have bmC : Bm.get? C = none := bm2 C (by simp)
  have bmN : ∀ b, b ≠ C → Bm.get? b = B.get? b := fun b hb => bm1 b (by simp [hb])
  have bmS : ∀ b o, Bm.get? b = some o → b ≠ C ∧ B.get? b = some o := fun b o e => by
    have hb : b ≠ C := fun z => by rw [z, bmC] at e; cases e
    exact ⟨hb, by rw [← bmN b hb]; exact e⟩
  obtain ⟨b1, b0, g1, oe, vs, T, oT, tvs, hea, hz, hda, h1', hnT, hTe, hT, hdT, hfl⟩ := hh
  have k2 : ∀ b o, b ≠ C → h1.get? b = some o → h2.get? b = some o := fun b o hb e => (hs2.2 b hb).trans e
  have dC : ∀ b o vs, h1.get? b = some o → o.data = .fields vs → b ≠ C := fun b o vs e q z => by
    subst z
    obtain ⟨o', es', ep', e', q', _⟩ := hn1
    rw [e] at e'; cases e'
    rw [q] at q'; cases q'
  have ha2 := k2 a oe (dC a oe vs hea hda) hea
  have hT2 := k2 T oT (dC T oT tvs hT hdT) hT
  have bN : ∀ b, B.get? b = none → Bm.get? b = none := fun b e => by
    cases q : Bm.get? b with
    | none => rfl
    | some o => rw [(bmS b o q).2] at e; cases e
  have st2 : Bm.StaysIn h2 := fun b o e => k2 b o (bmS b o e).1 (b1 b o (bmS b o e).2)
  have held2 : HandSPX.HeldZ Bm (X.env :: X.outer) a (Zc cls d) X.env.locals h2 :=
    ⟨st2, bN a b0, funFrames_none (Heap.FunFrames.sameBut hs2 hn2 g1) fun b hb => bN b (g1.mem hb).1, oe, vs, T, oT, tvs, ha2, hz, hda, h1', bN T hnT, hTe, hT2, hdT, hfl⟩
  unfold PySem.passOn
  refine wpAny_bind (wpAny_field ha2 hda h1' ?_)
  rw [if_neg (show ¬ (Value.ref T == Value.none) = true by simp)]
  rw [hcf, hf]
  refine wpAny_bind (HandSPX.setFlight_onZ held2 fun hfl held3 up3 => wpAny_throw (tk _ _ ?_))
  obtain ⟨G, q1, q2⟩ := restrict hfl fun b => (Bm.get? b).isSome || decide (b ∈ frs X.stack)
  have st3 : Bm.StaysIn hfl := held3.1
  have gb1 : ∀ b o, Bm.get? b = some o → G.get? b = some o := fun b o e => by
    rw [q1 b (by simp [e])]
    exact st3 b o e
  have gf1 : ∀ b, b ∈ frs X.stack → G.get? b = hfl.get? b := fun b hb => q1 b (by simp [hb])
  have ogr : ∀ b o, G.get? b = some o → hfl.get? b = some o ∧ ((Bm.get? b).isSome = true ∨ b ∈ frs X.stack) := fun b o e => by
    cases q : ((Bm.get? b).isSome || decide (b ∈ frs X.stack)) with
    | false => rw [q2 b q] at e; cases e
    | true =>
      rw [q1 b q] at e
      exact ⟨e, (by simpa [Bool.or_eq_true] using q)⟩
  have hokM : HOk X.prog X.w Hq Bm := fun b o q => (okB b o q).stay (fun c v hc r => by
    rw [bmN c (fun z => by
      subst z
      rcases hc with hc | hc
      · rw [hc, q] at nC'; cases nC'
      · rw [hc] at nC'; cases nC')]
    exact r) (fun _ r => r) fun _ _ r => r
  -- the frames' slots on the way
  have fSl : ∀ b o, s1.heap.get? b = some o → b ∈ frs X.stack → ∃ sl, hfl.get? b = some { o with slots := sl } := fun b o e hb => by
    obtain ⟨_, o', e', nd⟩ := I.stack.mem hb
    rw [e] at e'; cases e'
    obtain ⟨sl, e1⟩ := ub.slot b o e hb
    obtain ⟨sl1, e2⟩ := up b _ e1 nd
    have hbC : b ≠ C := fun z => nCs (z ▸ hb)
    obtain ⟨sl2, e3⟩ := up3 b _ (k2 b _ hbC e2) nd
    exact ⟨sl2, e3⟩
  refine ⟨a, Bm, { s1 with heap := G, gens := s'.gens, drawn := s'.drawn, toks := s'.toks }, pins, σ, Hq, cls, d, rfl, ?_, fun b o e hb => ?_, Heap.UpToSlots.of_keeps fun b o e => (ogr b o e).1, .inr (.inr ?_), nea, os, gbare, hW _ _ _ _ wE⟩
  · refine I.call (ch := [C]) ⟨fun b o e n hb hc => gb1 b o (by rw [bmN b (by simpa using hc)]; exact ub.keep b o e n hb), fun b o e n hb _ => ?_, fun b o e n _ => ub.free b o e n, fun b o e hc => ?_, ub.tups, ub.frzs, ub.tbls⟩ (hokM.kept gb1) gbare (fun b hb => ?_)
    · obtain ⟨sl, q⟩ := fSl b o e hb
      exact ⟨sl, by rw [gf1 b hb]; exact q⟩
    · by_cases hbf : b ∈ frs X.stack
      · obtain ⟨sl, q⟩ := fSl b o e hbf
        exact ⟨_, by rw [gf1 b hbf]; exact q⟩
      · obtain ⟨o', q⟩ := ub.there b o e hbf
        exact ⟨o', gb1 b o' (by rw [bmN b (by simpa using hc)]; exact q)⟩
    · have e : b = C := by simpa using hb
      subst e
      exact ⟨f3, f1, f4, f5⟩
  · obtain ⟨e', h⟩ := ogr b o e
    rcases h with h | h
    · obtain ⟨o1, q⟩ := Option.isSome_iff_exists.mp h
      have z := st3 b o1 q
      rw [e'] at z; cases z
      exact q
    · exact absurd h hb
  · rw [hs]; exact held3
end
end My

set_option maxRecDepth 100000
set_option maxHeartbeats 1800000
/-! LcX2: name = [body for ..], the element's calls may let exceptions out: the rule. -/
namespace My
open PySem PySem.Spec PyProof.Rows L2
section
variable {X : Cx}
theorem lcx_core {E : XK} {W0 : WX} {pp : List (Addr × Obj)} {s : Shared} {σ : L2.St} {H : Hp} {Q : VK} {body tg src : Expr} {ifs : List Expr} {scope : Scope} {own : List (Str × Nat)} {pos at2 : Pos} {wi : TI} {g : TG} {tt : TT} {tbody : TE} {use : Option (Value → Sem Unit)} {Qf : Value → Shared → Prop}
    (hstk : X.stack = X.env :: X.outer) (hfrm : X.env.frame = some X.env.locals) (tk : Takes X W0) (hW : ∀ cls d σ H, E cls d H → W0 cls d σ H)
    (calm : X.calm = true) (nod : X.N.Nodup) (I : Inv X pp σ H s) (hit : PI X tg src wi) (blk : BlkOk X.N X.env.scope scope own)
    (htg : ∀ (s : Shared) (H : Hp) (C : Addr) (cl : List (Str × Addr)) (fp : List Addr), PG (CxX X E s H scope (compEnvC scope cl C X.env) fp) tg g) (hts : ∀ (s : Shared) (H : Hp) (C : Addr) (cl : List (Str × Addr)) (fp : List Addr), PTs (CxX X E s H scope (compEnvC scope cl C X.env) fp) ifs tt)
    (hel : ∀ (s : Shared) (H : Hp) (C : Addr) (cl : List (Str × Addr)) (fp : List Addr), PE (CxX X E s H scope (compEnvC scope cl C X.env) fp) body tbody) (hfs : ∀ x, foldedSetIterable src X.env x = pure x)
    (h : tLc wi g tt tbody (own.map (·.2)) σ H Q)
    (hend : ∀ D cenv s' m H', Inv X pp σ H' s' → Q (.ref D) H' → s'.heap.Ns cenv.locals m → FpOk X pp H' cenv.locals → compEnds (model X.prog X.w) X.A X.xe use Qf (.ref D) cenv (.ok .next) s') :
    wpAny (model X.prog X.w) X.A (comprehension (.ListComp body [⟨tg, src, ifs, 0⟩] scope pos) scope X.env at2 (newList []) false (eval src X.env) use) Qf X.xe s := by
  have hFr : ∀ y ∈ scope.names, y.2 = .free → ∃ c, X.env.cells.lookup y.1 = some c := fun y hny e => by
    rcases blk.free y hny e with k | k
    · exact I.ok.has _ (.inl k)
    · exact I.ok.has _ (.inr k)
  refine comprehension_at (use := use) rfl hfs (closure_ok hFr) blk.kind (fun y hny e => by rw [blk.uniq y hny, e])
    (thn (hit.run pp s σ H _ I h) fun uv r1 gx => thn gx fun wv r2 g2 => ?_)
  obtain ⟨it, fp, tn, J, H2, e, J2, T, a2, p2, q⟩ := g2
  subst e
  refine wpAny_newObj_type (newEnv_comp ?_) (show 0 ≤ sizeLine from by decide)
  generalize eD : r2.heap.objs.size = D
  have nD : H2 D = none := J2.hok.fresh (Nat.le_of_eq eD)
  obtain ⟨Wf, ⟨k0, v0⟩, oneTurn⟩ := q D nD
  generalize es3 : ({ r2 with heap := r2.heap.push { cls := .type "list", data := .seq ([] : List Value).toArray } } : Shared) = r3
  have J3 : Inv X pp σ (upd H2 D (.lst [])) r3 := by
    rw [← es3]
    refine J2.laid (t' := r2.toks) (fun b o e => Heap.get?_push_of_some _ e) (Nat.le_of_eq eD) ⟨Nat.zero_le _, [], 0, .nil, ?_⟩
    rw [← eD]
    exact Heap.get?_push_size _ rfl
  have q3 : r3.heap = r2.heap.push { cls := .type "list", data := .seq ([] : List Value).toArray } := by rw [← es3]
  have low : ∀ b ∈ fp, b < r2.heap.objs.size := fun b hb => by
    obtain ⟨o, e, _⟩ := T.obj _ _ a2 b hb
    exact Heap.lt_size e
  have p3 : ∀ b ∈ fp, FpOk X pp (upd H2 D (.lst [])) b ∧ b < r3.heap.objs.size := fun b hb => by
    have lt0 := low b hb
    refine ⟨⟨?_, (p2 b hb).2⟩, by rw [q3, Heap.size_push]; exact Nat.lt_succ_of_lt lt0⟩
    rw [upd_ne (by rw [← eD]; exact Nat.ne_of_lt lt0)]
    exact (p2 b hb).1
  have a3 : tn 0 r3.heap := T.keep _ _ _ a2 fun b _ o e => by rw [q3]; exact Heap.get?_push_of_some _ e
  have J4 := toX (E := E) (block_start J3 blk nod p3)
  have rg := htg r3 (upd H2 D (.lst [])) r3.heap.objs.size (cellsFrom (r3.heap.objs.size + 1) scope.names (cloFrom X.env.cells scope.names [])) fp
  have rt := hts r3 (upd H2 D (.lst [])) r3.heap.objs.size (cellsFrom (r3.heap.objs.size + 1) scope.names (cloFrom X.env.cells scope.names [])) fp
  have rx := hel r3 (upd H2 D (.lst [])) r3.heap.objs.size (cellsFrom (r3.heap.objs.size + 1) scope.names (cloFrom X.env.cells scope.names [])) fp
  show codeAny _ _ (.compStart (.ListComp body [⟨tg, src, ifs, 0⟩] scope pos) 0 (.ref it) (.ref D) (compEnvC scope (cellsFrom (r3.heap.objs.size + 1) scope.names (cloFrom X.env.cells scope.names [])) r3.heap.objs.size X.env)) (compEnds (model X.prog X.w) X.A X.xe use Qf (.ref D) (compEnvC scope (cellsFrom (r3.heap.objs.size + 1) scope.names (cloFrom X.env.cells scope.names [])) r3.heap.objs.size X.env)) { r3 with heap := pushCells (r3.heap.push { cls := .type "dict", data := .dict #[] }) scope.names }
  have nop : ∀ b ∈ fp, (upd H2 D (.lst [])) b = none := fun b hb => (p3 b hb).1.1
  have cFr : (compEnvC scope (cellsFrom (r3.heap.objs.size + 1) scope.names (cloFrom X.env.cells scope.names [])) r3.heap.objs.size X.env).frame = X.env.frame := rfl
  generalize ece : compEnvC scope (cellsFrom (r3.heap.objs.size + 1) scope.names (cloFrom X.env.cells scope.names [])) r3.heap.objs.size X.env = ce at J4 rg rt rx cFr ⊢
  have eL : ce.locals = r3.heap.objs.size := by subst ece; rfl
  generalize eH : upd H2 D (.lst []) = H3 at J3 J4 rg rt rx v0 nop p3
  generalize es4 : ({ r3 with heap := pushCells (r3.heap.push { cls := .type "dict", data := .dict #[] }) scope.names } : Shared) = r4 at J4 ⊢
  have a4 : tn 0 r4.heap := T.keep _ _ _ a3 fun b _ o e => by rw [← es4]; exact pushCells_keeps _ _ _ _ (Heap.get?_push_of_some _ e)
  have steady : ∀ {σ' : L2.St} {H' : Hp} {s' : Shared}, Inv (CxX X E r3 H3 scope ce fp) [] σ' H' s' → (∀ b ∈ fp, H' b = none) → ∀ b ∈ fp, FpOk (CxX X E r3 H3 scope ce fp) [] H' b := fun {σ' H' s'} I' hns b hb =>
    ⟨hns b hb, (I'.ok.exf b hb).1, I'.ok.exfs b hb, .inl hb, fun x c e => (I'.ok.exf b hb).2 x c e, fun p hp => absurd (show p ∈ ([] : List (Addr × Obj)) ++ [] from hp) (by simp)⟩
  -- back in the def's context
  have back : ∀ {pins' : List (Addr × Obj)} {σ' : L2.St} {H' : Hp} {s' : Shared}, Inv (CxX X E r3 H3 scope ce fp) pins' σ' H' s' → Inv X pp σ H' s' ∧ FpOk X pp H' ce.locals ∧ ∃ m, s'.heap.Ns ce.locals m := fun {pins' σ' H' s'} J6 => by
    have nC : H' r3.heap.objs.size = none := by
      have z : H' ce.locals = none := J6.free
      rw [eL] at z
      exact z
    obtain ⟨m, hns, _⟩ := J6.loc
    refine ⟨J3.call' (ch := fp) J6.os J6.base J6.hok J6.bare fun b hb => ⟨(p3 b hb).1.2.2.2.1, (p3 b hb).1.2.1, (p3 b hb).1.2.2.2.2.1, (p3 b hb).1.2.2.2.2.2⟩, ?_, m, hns⟩
    rw [eL]
    exact J3.fpOk (Nat.le_refl _) nC
  have out : ∀ (u : Value) (s' : Shared), (CxX X E r3 H3 scope ce fp).xe u s' → notedBy (model X.prog X.w) X.A ce (fun e s' => compEnds (model X.prog X.w) X.A X.xe use Qf (.ref D) ce (.error e) s') u s' := fun u s' ⟨pins', σ', H', s1', J6, c⟩ => by
    obtain ⟨J7, fp7, m, hns⟩ := back (toX J6)
    have z := comp_out hstk hfrm tk hW cFr rfl J7 fp7 hns c
    cases use <;> exact z
  have loop : codeAny (model X.prog X.w) X.A (.compLoop (.ListComp body [⟨tg, src, ifs, 0⟩] scope pos) 0 (.ref it) (.ref D) ce) (compEnds (model X.prog X.w) X.A X.xe use Qf (.ref D) ce) r4 := by
    refine compLoop_any (fun n s' => ∃ i H', Inv (CxX X E r3 H3 scope ce fp) [] (wipe σ (own.map (·.2))) H' s' ∧ tn i s'.heap ∧ (∀ b ∈ fp, H' b = none) ∧ Wf i n H') ?_ k0 ⟨0, H3, J4, a4, nop, v0⟩
    rintro n r5 ⟨i, H5, J5, a5, b5, w5⟩
    rcases oneTurn i n H5 w5 with ⟨ss, qe⟩ | ⟨gg, Nf, gN, stp⟩
    · have dn := T.done (CxX X E r3 H3 scope ce fp) rfl rfl rfl calm i [] r5 _ H5 (fun _ _ => False) J5 (steady J5 b5) a5 ss
      refine thnF dn fun r r6 ⟨er, J6⟩ => ?_
      subst er
      obtain ⟨J7, fp7, m, hns⟩ := back J6
      exact hend D ce r6 m H5 J7 qe hns fp7
    · have tm := T.item (CxX X E r3 H3 scope ce fp) rfl rfl rfl calm i [] r5 _ H5 (fun _ _ => False) J5 (steady J5 b5) a5 gg
      refine thnF tm fun r r6 ⟨u, er, g6⟩ => ?_
      subst er
      refine thnF g6 fun _ r7 ⟨x, H7, J7, rl7, y1, a7, b7⟩ => ?_
      have I7' := J7.pinned (steady J7 b7) (T.obj _ _ a7)
      refine wpAny_mono (rg.run _ r7 _ H7 x u _ I7' rl7 (stp x H7 y1)) (fun _ r8 ⟨σ8, H8, J8, ew, z8⟩ => ?_) out
      refine wpAny_mono (rt.run _ r8 σ8 H8 _ J8 z8) (fun b r9 ⟨H9, J9, z9⟩ => ?_) out
      have close : ∀ {s' : Shared} {H' : Hp}, Inv (CxX X E r3 H3 scope ce fp) ([] ++ pinsAt fp r7.heap) σ8 H' s' → Nf H' → ∃ m, m < n ∧ ∃ i H', Inv (CxX X E r3 H3 scope ce fp) [] (wipe σ (own.map (·.2))) H' s' ∧ tn i s'.heap ∧ (∀ b ∈ fp, H' b = none) ∧ Wf i m H' := fun {s' H'} I' nn => by
        obtain ⟨m', lm, w'⟩ := gN H' nn
        have pin' : ∀ b ∈ fp, ∀ o, r7.heap.get? b = some o → s'.heap.get? b = some o ∧ H' b = none := fun b hb o e =>
          let z := I'.pin (b, o) (List.mem_append_right _ (List.mem_append_right _ (mem_pinsAt hb e)))
          ⟨z.1, z.2.1⟩
        have el : (wipe σ (own.map (·.2))).length = σ8.length := by rw [← ew, wipe_length]
        refine ⟨m', lm, i + 1, H', (I'.unpinned (pins := [])).weak el (fun j v e => ?_), T.keep _ _ _ a7 fun b hb o e => (pin' b hb o e).1, fun b hb => ?_, w'⟩
        · rw [← ew] at e
          exact (wipe_some e).1
        · obtain ⟨o, e, _⟩ := T.obj _ _ a7 b hb
          exact (pin' b hb o e).2
      cases b with
      | false =>
        simp only [Bool.false_eq_true, if_false] at z9 ⊢
        exact close J9 z9
      | true =>
        simp only [if_true] at z9 ⊢
        refine wpAny_mono (rx.run _ r9 σ8 H9 _ J9 z9) (fun z r10 ⟨yv, H10, J10, rl10, acc, eD10, lz, nn⟩ => ?_) out
        exact app_ok (X := CxX X E r3 H3 scope ce fp) J10 eD10 lz rl10 fun r11 J11 => close J11 nn
  exact codeAny_compStart_list loop (T.self X.A 0 _ _ _ a4 loop)
/-- name = [..] on one line, the name a local, the element's calls may let exceptions out -/
theorem ps_setLcX {E : XK} {W0 : WX} {i : Nat} {y : Str} {py : Pos} {body tg src : Expr} {ifs : List Expr} {scope : Scope} {own : List (Str × Nat)} {pos spos : Pos} {wi : TI} {g : TG} {tt : TT} {tbody : TE}
    (hstk : X.stack = X.env :: X.outer) (hfrm : X.env.frame = some X.env.locals) (tk : Takes X W0) (hW : ∀ cls d σ H, E cls d H → W0 cls d σ H)
    (calm : X.calm = true) (nod : X.N.Nodup) (hny : X.N[i]? = some y) (hlo : X.env.scope.names.lookup y = some .local)
    (hswp : swapsWith (.ListComp body [⟨tg, src, ifs, 0⟩] scope pos) (some (.Name y py)) spos.line X.env = pure true) (hit : PI X tg src wi) (blk : BlkOk X.N X.env.scope scope own)
    (htg : ∀ (s : Shared) (H : Hp) (C : Addr) (cl : List (Str × Addr)) (fp : List Addr), PG (CxX X E s H scope (compEnvC scope cl C X.env) fp) tg g) (hts : ∀ (s : Shared) (H : Hp) (C : Addr) (cl : List (Str × Addr)) (fp : List Addr), PTs (CxX X E s H scope (compEnvC scope cl C X.env) fp) ifs tt)
    (hel : ∀ (s : Shared) (H : Hp) (C : Addr) (cl : List (Str × Addr)) (fp : List Addr), PE (CxX X E s H scope (compEnvC scope cl C X.env) fp) body tbody) (hfs : ∀ x, foldedSetIterable src X.env x = pure x := by intro _; rfl) :
    PS X (.Assign [.Name y py] (.ListComp body [⟨tg, src, ifs, 0⟩] scope pos) spos) (tAsg (tLc wi g tt tbody (own.map (·.2))) (gName i)) := by
  refine ⟨fun pp s σ H D I h => ?_⟩
  rw [exec_Assign_Name_used _ _ _ _ hswp]
  refine wpAny_bind (wpAny_standAt (wpAny_bind ?_))
  show wpAny _ X.A (do let _ ← comprehension (.ListComp body [⟨tg, src, ifs, 0⟩] scope pos) scope X.env (firstIterPos [⟨tg, src, ifs, 0⟩] pos) (newList []) false (eval src X.env) (some (assign (.Name y py) X.env))) _ _ s
  have h : tLc wi g tt tbody (own.map (·.2)) σ H (fun x H1 => gName i x σ H1 D.nx) := h
  refine wpAny_bind (thn (lcx_core (Qf := fun _ s' => SP X pp D .next s') hstk hfrm tk hW calm nod I hit blk htg hts hel hfs h fun L ce s' m H' I' q hns f => ?_) fun _ s' hq => wpAny_pure (wpAny_pure hq))
  show wpAny _ _ (assign (.Name y py) X.env (.ref L)) _ _ _
  refine wpAny_assign_Name (store_ok2 (v := V.ref L) I' nod hny (.inl hlo) rfl (fun r2 J2 ⟨a, sam, hae⟩ => ?_) (.inr hlo))
  obtain ⟨c0, c1, p2, p3, c4, c5⟩ := f
  have hne : ce.locals ≠ a := by
    rcases hae with z | z
    · rw [z]; exact c1
    · exact fun e => c4 y a z e.symm
  refine ⟨m, hns.sameBut sam hne, fun q3 sam3 => ?_⟩
  exact ⟨_, H', J2.turned (t' := r2.toks) (fun b o hb e => (sam3.2 b hb).trans e) c0 c1 p3 c4 c5, q⟩
end
end My

set_option maxRecDepth 100000
set_option maxHeartbeats 800000
namespace K8
open PySem PySem.Spec PyProof.Rows L2 GxR Gd TL My
theorem fm_all {α β : Type} (f : α → β) : ∀ l : List α, l.filterMap (fun a => some (f a)) = l.map f
  | [] => rfl
  | a :: r => by
    rw [List.filterMap_cons, List.map_cons, fm_all f r]
section
variable {P : Program} {w : World} {K : PySem.W.Frag} {mg : Str → Option Value} {base : Heap} {aSIDES aSORTS C CE : Addr} {cl : Tag → Addr}
theorem ok_line_of_rows {f f1 fI Pt : Addr} {fd fd1 fdI : FuncData} (F : Fun K "line_of_rows" "line_of_rows" s_line_of_rows f fd) (T : Txt mg) (TC : ClsT K C) (gSIDES : mg "SIDES" = some (.ref aSIDES)) (cSIDES : Cst K aSIDES sides)
    (ML : Mk K C fI) (gL : mg "Line" = some (.ref C)) (bI : Binds K fdI ["self", "places", "stretches", "longs"] []) (bI2 : Binds K fdI ["self", "places", "stretches", "longs"] [.none])
    (GinitD : FnOk P w K mg base (CX P w) 6 fI fdI ["self", "places", "stretches", "longs"] (spInitD K C cl Pt))
    (Nlong_of_words : Fn K mg "_long_of_words" s_long_of_words ["line", "words"] f1 fd1) (Glong_of_words : FnOk P w K mg base (CX P w) 5 f1 fd1 ["line", "words"] (spLongW K C CE)) :
    FnOk P w K mg base (CX P w) 8 f fd ["rows"] (spLineOf K C CE cl Pt) := by
  refine F.okX sc_line_of_rows (fun vs H Q E h => ?_) (fun cdv A outer s H vs Q E hr h => ?_)
  · obtain ⟨a, rows, l, rfl, _⟩ := h
    rfl
  · obtain ⟨a, rows, l, rfl, hl, pr, wk, rl, tb, kb, kp, kt⟩ := h
    obtain ⟨okP, okS⟩ := fp_ok pr
    have ll := parsed_len pr
    refine ⟨_, pss_cons (ps_setLc (i := 1) (own := [("row", 6)]) (g := gName 6) (tt := tYes) rfl sc_line_of_rows.nd rfl rfl (sw_true rfl rfl rfl (by decide +kernel)) (pi_list (pv 0)) (blkOk_by (own := [("row", 6)]) (N := ["rows", "parted", "places", "stretches", "line", "longs", "row", "words"]) (sc := defScope s_line_of_rows) (by decide +kernel)) (fun _ _ _ _ _ => (pg_name (i := 6) sc_line_of_rows.nd rfl (Or.inl rfl))) (fun _ _ _ _ _ => pts_nil) (fun _ _ _ _ _ => (pe_split (pv 6) pe_str)))
      (pss_cons (ps_setLc (i := 2) (own := [("words", 7)]) (g := gName 7) rfl sc_line_of_rows.nd rfl rfl (sw_true rfl rfl rfl (by decide +kernel)) (pi_list (pv 1)) (blkOk_by (own := [("words", 7)]) (N := ["rows", "parted", "places", "stretches", "line", "longs", "row", "words"]) (sc := defScope s_line_of_rows) (by decide +kernel)) (fun _ _ _ _ _ => (pg_name (i := 7) sc_line_of_rows.nd rfl (Or.inl rfl))) (fun _ _ _ _ _ => pts_one (pt_cmpR op_eq (pe_ix (ixL (K := K) rfl) (pv 7) pe_int (fun _ _ => rfl)) pe_str (nomark _))) (fun _ _ _ _ _ => (pe_tup (pa_cons (pe_ix (ixL (K := K) rfl) (pv 7) pe_int (fun _ _ => rfl)) (pa_cons (pe_callTy call_int_str (by rfl) T.int_ (by decide +kernel) (pa_cons (pe_ix (ixL (K := K) rfl) (pv 7) pe_int (fun _ _ => rfl)) pa_nil)) pa_nil)))))
      (pss_cons (ps_setLc (i := 3) (own := [("words", 7)]) (g := gName 7) rfl sc_line_of_rows.nd rfl rfl (sw_true rfl rfl rfl (by decide +kernel)) (pi_list (pv 1)) (blkOk_by (own := [("words", 7)]) (N := ["rows", "parted", "places", "stretches", "line", "longs", "row", "words"]) (sc := defScope s_line_of_rows) (by decide +kernel)) (fun _ _ _ _ _ => (pg_name (i := 7) sc_line_of_rows.nd rfl (Or.inl rfl))) (fun _ _ _ _ _ => pts_one (pt_cmpR op_eq (pe_ix (ixL (K := K) rfl) (pv 7) pe_int (fun _ _ => rfl)) pe_str (nomark _))) (fun _ _ _ _ _ => (pe_tup (pa_cons (pe_ix (ixL (K := K) rfl) (pv 7) pe_int (fun _ _ => rfl)) (pa_cons (pe_bmK (K := K) rfl PySem.F.plainAttrs_tuple PySem.F.slot_tuple_index PySem.F.type_tuple_index (tidxK (K := K) rfl) (pe_glob (v := .ref aSIDES) (by rfl) gSIDES rfl) (pa_cons (pe_ix (ixL (K := K) rfl) (pv 7) pe_int (fun _ _ => rfl)) pa_nil)) pa_nil)))))
      (pss_cons (ps_set (i := 4) sc_line_of_rows.nd rfl (Or.inr rfl) (pe_make ML GinitD (hr.mono (by decide)) (by rfl) gL bI2 (dvs := [.non]) (.cons rfl .nil) (passes_call (takes_of rfl rfl rfl rfl) (fun _ _ _ _ h => h)) (pa_cons (pv 2) (pa_cons (pv 3) pa_nil))))
      (pss_cons (ps_setLcX rfl rfl (takes_of rfl rfl rfl rfl) (fun _ _ _ _ h => h) (i := 5) (own := [("words", 7)]) (g := gName 7) rfl sc_line_of_rows.nd rfl rfl (sw_true rfl rfl rfl (by decide +kernel)) (pi_list (pv 1)) (blkOk_by (own := [("words", 7)]) (N := ["rows", "parted", "places", "stretches", "line", "longs", "row", "words"]) (sc := defScope s_line_of_rows) (by decide +kernel)) (fun _ _ _ _ _ => (pg_name (i := 7) sc_line_of_rows.nd rfl (Or.inl rfl))) (fun _ _ _ _ _ => pts_one (pt_cmpR op_eq (pe_ix (ixL (K := K) rfl) (pv 7) pe_int (fun _ _ => rfl)) pe_str (nomark _))) (fun _ _ _ _ _ => (pe_call Glong_of_words (hr.mono (by decide)) (by rfl) Nlong_of_words.g Nlong_of_words.kp Nlong_of_words.b .nil passX (pa_cons (pv 4) (pa_cons (pv 7) pa_nil)))))
      (pss_one (ps_ret (pe_make ML GinitD (hr.mono (by decide)) (by rfl) gL bI .nil (passes_call (takes_of rfl rfl rfl rfl) (fun _ _ _ _ h => h)) (pa_cons (pv 2) (pa_cons (pv 3) (pa_cons (pv 5) pa_nil)))))))))), ?_⟩
    generalize hσ : L2.start _ _ = σ0
    obtain rfl : σ0 = [some (.ref a), none, none, none, none, none, none, none] := hσ.symm.trans rfl
    refine ⟨_, rfl, a, rfl, ⟨_, hl⟩, fun D hD => filt_itR (R := RW) keepW (walk_list (K := K) (xs := rows.map V.str)) (src := rows) (F := fun z => some (wordsOf z)) (by rw [List.length_map]) (by rw [sizeLine_eq]; omega) hD (fun H' kb => (KB.seq' hD kb).seq hl) ?_ ?_⟩
    · rintro i v z H' C B hv hz kb hne k _
      rw [List.getElem?_map, hz] at hv
      obtain rfl := Option.some.inj hv
      have wz := wk z (List.mem_of_getElem? hz)
      refine ⟨wipe1 (by simp), lcY ⟨_, rfl, ⟨_, rfl⟩, _, _, rfl, rfl, by decide +kernel, fit2 (by have := wz.1; omega), fun p hp => ?_⟩⟩
      have npD : p ≠ D := fun e => hne (e ▸ hp)
      exact k _ _ _ rfl (same_alloc hp) ⟨p, rfl, by rw [hide_ne npD]; exact upd_same⟩
    · intro H1 ys kb1 eD dW
      rw [fm_all] at dW
      have dW := dW.nt keepW (hide_nt D H1)
      have s1 := KB.same hD kb1
      clear kb1
      have lY : ys.length = l.length := by rw [dW.len, List.length_map, ll]
      have lI : l.length < 1000000 := by rw [ll]; exact rl
      have word : ∀ {H' : Hp} {i : Nat} {v : V} {r : Row}, Same H1 H' → ys[i]? = some v → l[i]? = some r → ∃ q z, v = .ref q ∧ parse (wordsOf z) = some r ∧ WOk z ∧ SqL K H' q ((wordsOf z).map V.str) := by
        intro H' i v r s hv hr
        obtain ⟨z, hz, pz⟩ := parsed_at pr hr
        obtain ⟨ws, hw, t, rfl, ht⟩ := dW.get hv
        rw [List.getElem?_map, hz] at hw
        obtain rfl := Option.some.inj hw
        exact ⟨t, z, rfl, pz, wk z (List.mem_of_getElem? hz), SqL.of (s _ _ ht)⟩
      simp only [List.set_cons_succ, List.set_cons_zero]
      refine ⟨_, rfl, D, rfl, ⟨_, SqL.of eD⟩, fun D2 hD2 => filt_itR (R := RP) keepP (walk_list (K := K) (xs := ys)) (src := l) (F := FP) lY.symm (by rw [sizeLine_eq]; omega) hD2 (fun H' kb => (KB.seq' hD2 kb).seq (SqL.of eD)) ?_ ?_⟩
      · rintro i v r H' C B hv hr kb hne k kn
        obtain ⟨q, z, rfl, pz, _, hq⟩ := word (KB.same hD2 kb) hv hr
        have new : ∀ {t : Addr}, H' t = none → t ≠ D2 := fun h e => hne (e ▸ h)
        rcases parse_shape pz with ⟨n, b, d, rfl, ew, nk, hd⟩ | ⟨n, b, d, rfl, ew, _⟩ | ⟨a1, c1, b, d, rfl, ew, _⟩ <;> rw [ew] at hq
        · obtain ⟨d1, d2⟩ := dig_int hd
          refine ⟨wipe1 (by simp), _, rfl, q, _, 0, _, rfl, rfl, hq, atI_nat (j := 0) rfl, rfl, true, by rw [decide_eq_true rfl], iteT ?_⟩
          refine ⟨_, rfl, q, _, 1, _, rfl, rfl, hq, atI_nat (j := 1) rfl, _, rfl, q, _, 2, _, rfl, rfl, hq, atI_nat (j := 2) rfl, _, d, rfl, d1, by omega, two_line, fun t ht => ?_⟩
          exact k _ _ _ rfl (same_alloc ht) ⟨t, rfl, by rw [hide_ne (new ht)]; exact upd_same⟩
        · exact ⟨wipe1 (by simp), _, rfl, q, _, 0, _, rfl, rfl, hq, atI_nat (j := 0) rfl, rfl, false, by decide +kernel, iteF (kn _ rfl (Same.refl _))⟩
        · exact ⟨wipe1 (by simp), _, rfl, q, _, 0, _, rfl, rfl, hq, atI_nat (j := 0) rfl, rfl, false, by decide +kernel, iteF (kn _ rfl (Same.refl _))⟩
      · intro H2 xp kb2 eP dP'
        have dP' := dP'.nt keepP (hide_nt D2 H2)
        have s2 := KB.same hD2 kb2
        have eD2 := s2 _ _ eD
        clear kb2
        simp only [List.set_cons_succ, List.set_cons_zero]
        refine ⟨_, rfl, D, rfl, ⟨_, SqL.of eD2⟩, fun D3 hD3 => filt_itR (R := RP) keepP (walk_list (K := K) (xs := ys)) (src := l) (F := FS) lY.symm (by rw [sizeLine_eq]; omega) hD3 (fun H' kb => (KB.seq' hD3 kb).seq (SqL.of eD2)) ?_ ?_⟩
        · rintro i v r H' C B hv hr kb hne k kn
          obtain ⟨q, z, rfl, pz, _, hq⟩ := word (s2.trans (KB.same hD3 kb)) hv hr
          have new : ∀ {t : Addr}, H' t = none → t ≠ D3 := fun h e => hne (e ▸ h)
          rcases parse_shape pz with ⟨n, b, d, rfl, ew, _⟩ | ⟨n, b, d, rfl, ew, nk, hd⟩ | ⟨a1, c1, b, d, rfl, ew, _⟩ <;> rw [ew] at hq
          · exact ⟨wipe1 (by simp), _, rfl, q, _, 0, _, rfl, rfl, hq, atI_nat (j := 0) rfl, rfl, false, by decide +kernel, iteF (kn _ rfl (Same.refl _))⟩
          · obtain ⟨j, ej, j1, j2, _, _⟩ := side_idx hd
            refine ⟨wipe1 (by simp), _, rfl, q, _, 0, _, rfl, rfl, hq, atI_nat (j := 0) rfl, rfl, true, by rw [decide_eq_true rfl], iteT ?_⟩
            refine ⟨_, rfl, q, _, 1, _, rfl, rfl, hq, atI_nat (j := 1) rfl, .inr (.inl ⟨rfl, cSIDES.2⟩), _, rfl, q, _, 2, _, rfl, rfl, hq, atI_nat (j := 2) rfl, aSIDES, sides, _, j, rfl, rfl, cSIDES.1 _, j1, j2, two_line, fun t ht => ?_⟩
            exact k _ _ _ rfl (same_alloc ht) ⟨t, rfl, by rw [hide_ne (new ht), ← ej]; exact upd_same⟩
          · exact ⟨wipe1 (by simp), _, rfl, q, _, 0, _, rfl, rfl, hq, atI_nat (j := 0) rfl, rfl, false, by decide +kernel, iteF (kn _ rfl (Same.refl _))⟩
        · intro H3 xs kb3 eS dS
          have dS := dS.nt keepP (hide_nt D3 H3)
          have s3 := KB.same hD3 kb3
          have eD3 := s3 _ _ eD2
          have eP3 := s3 _ _ eP
          have dP3 := dP'.nt keepP (same_nt s3)
          have s13 := s2.trans s3
          clear kb3 eP dP' eD2
          have tb3 := same_kt tb (s1.trans s13)
          simp only [List.set_cons_succ, List.set_cons_zero]
          refine ⟨_, rfl, _, rfl, fun x dx hx0 hdx ne => ?_⟩
          have s34 : Same H3 (upd (upd H3 dx (.own x)) x (.ins C dx [])) := (same_alloc hdx).trans (same_alloc (by rw [upd_ne ne.symm]; exact hx0))
          have e4 := same_nt s34
          refine ⟨x, dx, D2, D3, .non, xp, xs, l.filterMap FP, l.filterMap FS, none, rfl, upd_same, s34 _ _ eP3, dP3.nt keepP e4, okP, s34 _ _ eS, dS.nt keepP e4, okS, rfl, (same_kt tb3.tab s34).tab, fun t d ed H' ex u ki hex du => ?_, fun ed H5 sp ok0 ki hLine => ⟨rfl, ?_⟩⟩
          · have k35 : KT Pt H3 H' := ⟨fun c o n h => ki.keep c o (ne_of_none h hx0) n (s34 c o h), ki.tab⟩
            exact kb t d (by unfold resR; rw [ed]) H' ex u (tb3.trans k35) hex du
          have k35 : KT Pt H3 H5 := ⟨fun c o n h => ki.keep c o (ne_of_none h hx0) n (s34 c o h), ki.tab⟩
          have n35 := KT.nt tb3.tab k35
          have k5 := tb3.trans k35
          have eP5 := n35 _ _ (by simp) eP3
          have eS5 := n35 _ _ (by simp) eS
          have eD5 := n35 _ _ (by simp) eD3
          have dP5 := dP3.nt keepP n35
          have dS5 := dS.nt keepP n35
          have n15 := (same_nt s13).trans n35
          have word5 : ∀ {H' : Hp} {i : Nat} {v : V} {r : Row}, Same H5 H' → ys[i]? = some v → l[i]? = some r → ∃ q z, v = .ref q ∧ parse (wordsOf z) = some r ∧ WOk z ∧ SqL K H' q ((wordsOf z).map V.str) := by
            intro H' i v r s hv hr
            obtain ⟨q, z, e, h1, h2, h3⟩ := word (Same.refl _) hv hr
            exact ⟨q, z, e, h1, h2, (n15.trans (same_nt s)).seq h3⟩
          clear word eP3 eS eD3 dP3 dS s13 s34 e4 n15 ki k35 n35 tb3 hx0 hdx
          simp only [List.set_cons_succ, List.set_cons_zero]
          refine ⟨_, rfl, D, rfl, ⟨_, SqL.of eD5⟩, fun D6 hD6 => filt_itP (R := RL) (fun i => fu (l.filterMap FP) (l.take i) = none) rfl keepL (walk_list (K := K) (xs := ys)) (src := l) (F := FL (l.filterMap FP)) lY.symm (by rw [sizeLine_eq]; omega) hD6 (fun H' kb => (KB.seq' hD6 kb).seq (SqL.of eD5)) ?_ ?_⟩
          · rintro i v r H' C' B h0 hv hr kb6 hne k kn
            obtain ⟨q, z, rfl, pz, wz, hq⟩ := word5 (KB.same hD6 kb6) hv hr
            have hLine' := hLine.nt (same_nt (KB.same hD6 kb6))
            have new : ∀ {t : Addr}, H' t = none → t ≠ D6 := fun h e => hne (e ▸ h)
            obtain ⟨f1, f2⟩ := fu_at hr h0
            rcases parse_shape pz with ⟨n, b, d, rfl, ew, _⟩ | ⟨n, b, d, rfl, ew, _⟩ | ⟨a1, c1, b, d, rfl, ew, na, nc, hd⟩ <;> rw [ew] at hq
            · exact ⟨wipe1 (by simp), _, rfl, q, _, 0, _, rfl, rfl, hq, atI_nat (j := 0) rfl, rfl, false, by decide +kernel, iteF (kn _ (f2 rfl) rfl (Same.refl _))⟩
            · exact ⟨wipe1 (by simp), _, rfl, q, _, 0, _, rfl, rfl, hq, atI_nat (j := 0) rfl, rfl, false, by decide +kernel, iteF (kn _ (f2 rfl) rfl (Same.refl _))⟩
            · refine ⟨wipe1 (by simp), _, rfl, q, _, 0, _, rfl, rfl, hq, atI_nat (j := 0) rfl, rfl, true, by rw [decide_eq_true rfl], iteT ?_⟩
              refine ⟨_, rfl, _, rfl, x, q, _, _, a1, c1, b, d, rfl, hLine', hq, name_wok na, name_wok nc, hd, fun y hy e he => ?_, fun hz t H4 ht s e => ?_⟩
              · exact kp y (by unfold resR; rw [ed, f1 y hy]) H' e (k5.trans (same_kt k5.tab (KB.same hD6 kb6))) he
              · exact k _ _ _ (f2 hz) rfl s ⟨t, rfl, by rw [hide_ne (new ht)]; exact e⟩
          · intro H6 xl h0 kb6 eL dL'
            have h0 : fu (l.filterMap FP) l = none := by
              rw [lY, List.take_of_length_le (Nat.le_refl _)] at h0
              exact h0
            have dL6 := dL'.nt keepL (hide_nt D6 H6)
            have s6 := KB.same hD6 kb6
            have n6 := same_nt s6
            have k6 := k5.trans (same_kt k5.tab s6)
            have eP6 := s6 _ _ eP5
            have eS6 := s6 _ _ eS5
            have dP6 := dP5.nt keepP n6
            have dS6 := dS5.nt keepP n6
            clear kb6 dL' dP5 dS5 eP5 eS5 eD5
            simp only [List.set_cons_succ, List.set_cons_zero]
            refine ⟨_, rfl, _, rfl, _, rfl, fun y dy hy0 hdy ne => ?_⟩
            have s7 : Same H6 (upd (upd H6 dy (.own y)) y (.ins C dy [])) := (same_alloc hdy).trans (same_alloc (by rw [upd_ne ne.symm]; exact hy0))
            have e7 := same_nt s7
            refine ⟨y, dy, D2, D3, .ref D6, xp, xs, l.filterMap FP, l.filterMap FS, some (l.filterMap (FL (l.filterMap FP))), rfl, upd_same, s7 _ _ eP6, dP6.nt keepP e7, okP, s7 _ _ eS6, dS6.nt keepP e7, okS, ⟨D6, xl, rfl, s7 _ _ eL, dL6.nt keepL e7⟩, (same_kt k6.tab s7).tab, fun t d ed2 H' ex u ki hex du => ?_, fun ed2 H8 sp8 ok8 ki hLine8 => ⟨rfl, ?_⟩⟩
            · have k68 : KT Pt H6 H' := ⟨fun c o n h => ki.keep c o (ne_of_none h hy0) n (s7 c o h), ki.tab⟩
              exact kb t d (by unfold resR; rw [ed, h0, ed2]) H' ex u (k6.trans k68) hex du
            · have k68 : KT Pt H6 H8 := ⟨fun c o n h => ki.keep c o (ne_of_none h hy0) n (s7 c o h), ki.tab⟩
              exact kt _ _ _ (by unfold resR; rw [ed, h0, ed2]; rfl) y H8 sp8 (k6.trans k68) hLine8
end
end K8

set_option maxRecDepth 100000
set_option maxHeartbeats 400000
namespace K8
open PySem PySem.Spec PyProof.Rows L2 GxR Gd TL My
/-! ### what is shown is short -/
structure Shw (d : PyData) (k m : Nat) : Prop where
  sh : d.showable = true
  dep : d.depth ≤ k
  len : d.shown.length ≤ m
theorem Shw.mono {d : PyData} {k m k' m' : Nat} (h : Shw d k m) (hk : k ≤ k') (hm : m ≤ m') : Shw d k' m' := ⟨h.sh, Nat.le_trans h.dep hk, Nat.le_trans h.len hm⟩
theorem shw_str {z : Str} {n : Nat} (g : Good z) (h : z.length ≤ n) : Shw (.str z) 0 (10 * n + 2) := by
  refine ⟨rfl, Nat.le_refl 0, ?_⟩
  have e := StrLaws.reprText_len z fun c hc => Nat.lt_trans (g c hc) (by decide)
  show (reprText z).length ≤ _
  omega
theorem shw_int {i : Int} {k : Nat} (hk : 0 < k) (h9 : k ≤ 30) (h : i.natAbs < 10 ^ k) : Shw (.int i) 0 (k + 1) := by
  have h31 : i.natAbs < 10 ^ 31 := Nat.lt_of_lt_of_le h (Nat.pow_le_pow_right (by decide) (by omega))
  refine ⟨(sb_int h31).sh, Nat.le_refl 0, ?_⟩
  show (Str.ofString (toString i)).length ≤ _
  rw [PySem.ofString_length]
  exact int_text_length_le10 hk h
theorem shw_all {k m : Nat} : ∀ {ds : List PyData}, (∀ d ∈ ds, Shw d k m) → PyData.showableAll ds = true ∧ PyData.depthAll ds ≤ k ∧ ((PyData.shownAll ds).map (·.length)).sum ≤ ds.length * m ∧ (PyData.shownAll ds).length = ds.length
  | [], _ => ⟨rfl, Nat.zero_le _, Nat.zero_le _, rfl⟩
  | d :: r, h => by
    obtain ⟨a1, a2, a3, a4⟩ := shw_all (ds := r) fun x hx => h x (List.mem_cons_of_mem _ hx)
    have b := h d List.mem_cons_self
    refine ⟨?_, ?_, ?_, ?_⟩
    · unfold PyData.showableAll; rw [b.sh, a1]; rfl
    · unfold PyData.depthAll; exact Nat.max_le.mpr ⟨b.dep, a2⟩
    · unfold PyData.shownAll
      have := b.len
      rw [List.length_cons, Nat.succ_mul, List.map_cons, List.sum_cons]
      omega
    · unfold PyData.shownAll
      rw [List.length_cons, List.length_cons, a4]
theorem shw_list {k m : Nat} {ds : List PyData} (h : ∀ d ∈ ds, Shw d k m) : Shw (.list ds) (k + 1) (ds.length * (m + 2) + 3) := by
  obtain ⟨a1, a2, a3, a4⟩ := shw_all h
  refine ⟨by unfold PyData.showable; exact a1, by unfold PyData.depth; omega, ?_⟩
  have e := listText_len_le (PyData.shownAll ds)
  show (listText (PyData.shownAll ds)).length ≤ _
  rw [a4] at e
  rw [Nat.mul_add]
  omega
theorem shw_tuple {k m : Nat} {ds : List PyData} (h : ∀ d ∈ ds, Shw d k m) : Shw (.tuple ds) (k + 1) (ds.length * (m + 2) + 3) := by
  obtain ⟨a1, a2, a3, a4⟩ := shw_all h
  refine ⟨by unfold PyData.showable; exact a1, by unfold PyData.depth; omega, ?_⟩
  have e := tupleText_len_le (PyData.shownAll ds)
  show (tupleText (PyData.shownAll ds)).length ≤ _
  rw [a4] at e
  rw [Nat.mul_add]
  omega
/-- a pair of unlike things -/
theorem shw_pair {k m n : Nat} {a b : PyData} (ha : Shw a k m) (hb : Shw b k n) : Shw (.tuple [a, b]) (k + 1) (m + n + 7) := by
  refine ⟨?_, ?_, ?_⟩
  · unfold PyData.showable PyData.showableAll PyData.showableAll PyData.showableAll; rw [ha.sh, hb.sh]; rfl
  · unfold PyData.depth PyData.depthAll PyData.depthAll PyData.depthAll
    have := ha.dep
    have := hb.dep
    omega
  · have e := tupleText_len_le (PyData.shownAll [a, b])
    show (tupleText (PyData.shownAll [a, b])).length ≤ _
    have e1 : PyData.shownAll [a, b] = [a.shown, b.shown] := by unfold PyData.shownAll PyData.shownAll PyData.shownAll; rfl
    rw [e1] at e ⊢
    simp only [List.map_cons, List.map_nil, List.sum_cons, List.sum_nil, List.length_cons, List.length_nil] at e
    have := ha.len
    have := hb.len
    omega
/-! ### what stands in a read text -/
theorem dig_range {b : Str} {d : Int} (h : digS b = some d) : 0 ≤ d ∧ d ≤ 9 := by
  unfold digS at h
  split at h
  · rename_i c e
    split at h
    · rename_i q
      obtain rfl := Option.some.inj h
      omega
    · cases h
  · cases h
theorem scan_parsed : ∀ {n b : Nat} {rows : List Str} {l : List Row}, scan n b rows = .inr l → Parsed rows l
  | _, _, [], l, h => by
    have h : Sum.inr [] = Sum.inr l := h
    obtain rfl := Sum.inr.inj h
    rfl
  | n, b, z :: r, l, h => by
    unfold scan at h
    cases e : parse (wordsOf z) with
    | none => rw [e] at h; cases h
    | some w =>
      rw [e] at h
      replace h : (if srt w < b then Sum.inl (n + 1) else match scan (n + 1) (srt w) r with | .inl e => .inl e | .inr l => .inr (w :: l)) = Sum.inr l := h
      split at h
      · cases h
      · cases e2 : scan (n + 1) (srt w) r with
        | inl x => rw [e2] at h; cases h
        | inr l' =>
          rw [e2] at h
          obtain rfl := Sum.inr.inj h
          have ih := scan_parsed e2
          show (parse (wordsOf z)) :: _ = some w :: _
          rw [e]
          exact congrArg _ ih
theorem scan_le : ∀ {n b : Nat} {rows : List Str} {m : Nat}, scan n b rows = .inl m → m ≤ n + rows.length
  | _, _, [], m, h => by cases h
  | n, b, z :: r, m, h => by
    unfold scan at h
    cases e : parse (wordsOf z) with
    | none =>
      rw [e] at h
      have := Sum.inl.inj h
      rw [List.length_cons]
      omega
    | some w =>
      rw [e] at h
      replace h : (if srt w < b then Sum.inl (n + 1) else match scan (n + 1) (srt w) r with | .inl e => .inl e | .inr l => .inr (w :: l)) = Sum.inl m := h
      split at h
      · have := Sum.inl.inj h
        rw [List.length_cons]
        omega
      · cases e2 : scan (n + 1) (srt w) r with
        | inr x => rw [e2] at h; cases h
        | inl x =>
          rw [e2] at h
          obtain rfl := Sum.inl.inj h
          have := scan_le e2
          rw [List.length_cons]
          omega
structure Fine (ps st : List (Str × Int)) (lo : List (Int × Int × Int)) (n : Nat) : Prop where
  p : ∀ p ∈ ps, NameOk p.1 ∧ 0 ≤ p.2 ∧ p.2 ≤ 9
  s : ∀ p ∈ st, (p.1 = Str.ofString "staff" ∨ p.1 = Str.ofString "ticket") ∧ 0 ≤ p.2 ∧ p.2 ≤ 1
  l : ∀ p ∈ lo, (0 ≤ p.1 ∧ p.1 ≤ n) ∧ (0 ≤ p.2.1 ∧ p.2.1 ≤ n) ∧ 0 ≤ p.2.2 ∧ p.2.2 ≤ 1
  np : ps.length ≤ n
  ns : st.length ≤ n
  nl : lo.length ≤ n
theorem idx_le (ps : List (Str × Int)) (z : Str) : 0 ≤ idx ps z ∧ idx ps z ≤ ps.length := by
  unfold idx
  cases e : posOf ps z with
  | none => exact ⟨Int.le_refl 0, Int.natCast_nonneg _⟩
  | some j =>
    have := posOf_some e
    have h : j < (ps.map (·.1)).length := (List.getElem?_eq_some_iff.mp this.1).1
    rw [List.length_map] at h
    exact ⟨Int.natCast_nonneg _, by show ((j : Nat) : Int) ≤ _; omega⟩
theorem fine_of {rows : List Str} {l : List Row} {n : Nat} (h : Parsed rows l) (hn : rows.length ≤ n) : Fine (l.filterMap FP) (l.filterMap FS) (l.filterMap (FL (l.filterMap FP))) n := by
  obtain ⟨okP, okS⟩ := fp_ok h
  have ll := parsed_len h
  have lp := fm_le FP l
  refine ⟨fun p hp => ⟨okP p hp, ?_⟩, okS, fun p hp => ?_, by omega, by have := fm_le FS l; omega, by have := fm_le (FL (l.filterMap FP)) l; omega⟩
  · obtain ⟨r, hr, e⟩ := List.mem_filterMap.mp hp
    obtain ⟨i, hi⟩ := List.getElem?_of_mem hr
    obtain ⟨z, _, hz⟩ := parsed_at h hi
    rcases parse_shape hz with ⟨n, b, d, rfl, _, hn, hd⟩ | ⟨n, b, d, rfl, _⟩ | ⟨a, c, b, d, rfl, _⟩
    · obtain rfl := Option.some.inj e
      exact dig_range hd
    · cases e
    · cases e
  · obtain ⟨r, hr, e⟩ := List.mem_filterMap.mp hp
    obtain ⟨i, hi⟩ := List.getElem?_of_mem hr
    obtain ⟨z, _, hz⟩ := parsed_at h hi
    rcases parse_shape hz with ⟨n, b, d, rfl, _, hn, hd⟩ | ⟨n, b, d, rfl, _⟩ | ⟨a, c, b, d, rfl, _, _, _, hd⟩
    · cases e
    · cases e
    · obtain rfl := Option.some.inj e
      obtain ⟨_, _, _, _, x1, x2⟩ := side_idx hd
      have q1 := idx_le (l.filterMap FP) a
      have q2 := idx_le (l.filterMap FP) c
      exact ⟨⟨q1.1, by have := q1.2; show idx _ a ≤ _; omega⟩, ⟨q2.1, by have := q2.2; show idx _ c ≤ _; omega⟩, x1, x2⟩
theorem place_ok {rows : List Str} {l : List Row} {ps : List (Str × Int)} {z : Str} (h : Parsed rows l) (e : fu ps l = some z) : NameOk z := by
  have key : ∀ m : List Row, (∀ r ∈ m, r ∈ l) → fu ps m = some z → NameOk z := by
    intro m
    induction m with
    | nil => intro _ e; cases e
    | cons x r ih =>
      intro hm e
      rw [fu_cons] at e
      cases e1 : fb1 ps x with
      | none =>
        rw [e1] at e
        exact ih (fun y hy => hm y (List.mem_cons_of_mem _ hy)) e
      | some y =>
        rw [e1] at e
        obtain rfl := Option.some.inj e
        obtain ⟨i, hi⟩ := List.getElem?_of_mem (hm x List.mem_cons_self)
        obtain ⟨w, _, hz⟩ := parsed_at h hi
        rcases parse_shape hz with ⟨n, b, d, rfl, _⟩ | ⟨n, b, d, rfl, _⟩ | ⟨a, c, b, d, rfl, _, na, nc, _⟩
        · cases e1
        · cases e1
        · have e1 : fb ps a c = some y := e1
          unfold fb at e1
          split at e1
          · obtain rfl := Option.some.inj e1
            exact na
          · split at e1
            · obtain rfl := Option.some.inj e1
              exact nc
            · cases e1
  exact key l (fun _ h => h) e
theorem shw_dP {p : Str × Int} (g : Good p.1) (h : p.1.length ≤ 6) (h0 : 0 ≤ p.2) (h9 : p.2 ≤ 9) : Shw (dP p) 1 71 :=
  (shw_pair (shw_str g h) (shw_int (k := 1) (by decide) (by decide) (by omega))).mono (Nat.le_refl 1) (by decide)
theorem shw_dL {p : Int × Int × Int} (h1 : 0 ≤ p.1 ∧ p.1 ≤ 300000) (h2 : 0 ≤ p.2.1 ∧ p.2.1 ≤ 300000) (h3 : 0 ≤ p.2.2 ∧ p.2.2 ≤ 1) : Shw (dL p) 1 40 := by
  refine (shw_tuple (k := 0) (m := 7) (ds := [.int p.1, .int p.2.1, .int p.2.2]) fun d hd => ?_).mono (Nat.le_refl 1) (by show 3 * 9 + 3 ≤ 40; decide)
  simp only [List.mem_cons, List.not_mem_nil, or_false] at hd
  rcases hd with rfl | rfl | rfl
  · exact shw_int (k := 6) (by decide) (by decide) (by omega)
  · exact shw_int (k := 6) (by decide) (by decide) (by omega)
  · exact shw_int (k := 6) (by decide) (by decide) (by omega)
theorem kind_len {z : Str} (h : z = Str.ofString "staff" ∨ z = Str.ofString "ticket") : z.length ≤ 6 ∧ Good z := by
  rcases h with rfl | rfl <;> exact ⟨by decide +kernel, good_of _⟩
abbrev top8 : Nat := 200002
theorem plP_sh {t : Tag} {d : PyData} : ∀ {ps : List (Str × Int)} {as : List Str}, (∀ p ∈ ps, NameOk p.1 ∧ 0 ≤ p.2 ∧ p.2 ≤ 9) → plP as ps = some (t, d) → Shw d 0 62
  | [], _, _, h => by cases h
  | p :: r, as, hp, h => by
    obtain ⟨n1, n2, n3⟩ := hp p List.mem_cons_self
    unfold plP at h
    split at h
    · cases h
      exact shw_str n1.good n1.2.1
    · split at h
      · exact plP_sh (fun q hq => hp q (List.mem_cons_of_mem _ hq)) h
      · cases h
        exact (shw_int (k := 1) (by decide) (by decide) (by omega)).mono (Nat.le_refl 0) (by decide)
theorem loP_sh {t : Tag} {d : PyData} {tp : Int} : ∀ {lo : List (Int × Int × Int)} {low : Int}, (∀ p ∈ lo, Shw (dL p) 1 40) → loP tp low lo = some (t, d) → Shw d 1 40
  | [], _, _, h => by cases h
  | p :: r, low, hp, h => by
    unfold loP at h
    split at h
    · exact loP_sh (fun q hq => hp q (List.mem_cons_of_mem _ hq)) h
    · cases h
      exact hp p List.mem_cons_self
theorem due_cases {ps st : List (Str × Int)} {o : Option (List (Int × Int × Int))} {td : Tag × PyData} (h : dueP ps st o = some td) : psP ps = some td ∨ stP ((ps.length : Int) - 1) st = some td ∨ ∃ l, o = some l ∧ lsP ((ps.length : Int) - 1) l = some td := by
  unfold dueP at h
  cases e1 : psP ps with
  | some x => rw [e1] at h; exact .inl h
  | none =>
    rw [e1] at h
    cases e2 : stP ((ps.length : Int) - 1) st with
    | some x => simp only [e2] at h; exact .inr (.inl h)
    | none =>
      simp only [e2] at h
      cases o with
      | none => cases h
      | some l => exact .inr (.inr ⟨l, rfl, h⟩)
theorem due_sh {ps st : List (Str × Int)} {lo : List (Int × Int × Int)} {o : Option (List (Int × Int × Int))} (f : Fine ps st lo top8) (ho : o = none ∨ o = some lo) {t : Tag} {d : PyData} (h : dueP ps st o = some (t, d)) : Shw d 2 14600200 := by
  have big : ∀ {m n : Nat}, m ≤ 71 → n ≤ top8 → n * (m + 2) + 3 ≤ 14600200 := fun {m n} hm hn => by
    have := Nat.mul_le_mul hn (show m + 2 ≤ 73 by omega)
    have : top8 * 73 = 14600146 := by decide
    omega
  have pd : ∀ x ∈ ps.map dP, Shw x 1 71 := fun x hx => by
    obtain ⟨p, hp, rfl⟩ := List.mem_map.mp hx
    obtain ⟨n1, n2, n3⟩ := f.p p hp
    exact shw_dP n1.good n1.2.1 n2 n3
  have sd : ∀ x ∈ st.map dP, Shw x 1 71 := fun x hx => by
    obtain ⟨p, hp, rfl⟩ := List.mem_map.mp hx
    obtain ⟨n1, n2, n3⟩ := f.s p hp
    exact shw_dP (kind_len n1).2 (kind_len n1).1 n2 (by omega)
  have l1 : ∀ p ∈ lo, Shw (dL p) 1 40 := fun p hp => by
    obtain ⟨⟨n1, n2⟩, ⟨n3, n4⟩, n5⟩ := f.l p hp
    exact shw_dL ⟨n1, by have : (top8 : Int) = 200002 := rfl; omega⟩ ⟨n3, by have : (top8 : Int) = 200002 := rfl; omega⟩ n5
  have ld : ∀ x ∈ lo.map dL, Shw x 1 40 := fun x hx => by
    obtain ⟨p, hp, rfl⟩ := List.mem_map.mp hx
    exact l1 p hp
  rcases due_cases h with e1 | e2 | ⟨l, rfl, e3⟩
  · unfold psP at e1
    split at e1
    · exact (plP_sh f.p e1).mono (by decide) (by decide)
    · cases e1
      exact (shw_list pd).mono (by decide) (by rw [List.length_map]; exact big (Nat.le_refl 71) f.np)
  · unfold stP at e2
    split at e2
    · cases e2
    · cases e2
      exact (shw_list sd).mono (by decide) (by rw [List.length_map]; exact big (Nat.le_refl 71) f.ns)
  · rcases ho with ho | ho
    · cases ho
    · obtain rfl := Option.some.inj ho
      unfold lsP at e3
      split at e3
      · exact (loP_sh l1 e3).mono (by decide) (by decide)
      · cases e3
        exact (shw_list ld).mono (by decide) (by rw [List.length_map]; exact big (by decide) f.nl)
theorem tag_sh (t : Tag) : Shw (.str (Str.ofString t.s)) 0 92 := shw_str (good_of _) (n := 9) (by cases t <;> decide +kernel)
/-- what a text's reading comes to can be shown -/
theorem res_sh {v : V} (hv : ∀ z, v = .str z → WOk z) : (resD (readV v)).showable = true ∧ (resD (readV v)).depth ≤ 100 ∧ (resD (readV v)).shown.length ≤ sizeLine := by
  have fin : ∀ {d : PyData} {k m : Nat}, Shw d k m → k ≤ 100 → m ≤ 16000000 → d.showable = true ∧ d.depth ≤ 100 ∧ d.shown.length ≤ sizeLine := fun h hk hm => ⟨h.sh, Nat.le_trans h.dep hk, Nat.le_trans h.len (by rw [sizeLine_eq]; omega)⟩
  have text : ∀ n : Nat, n ≤ 300000 → Shw (.tuple [.str (Str.ofString "text"), .int (n : Nat)]) 1 106 := fun n hn =>
    (shw_pair (shw_str (good_of _) (n := 9) (by decide +kernel)) (shw_int (k := 6) (by decide) (by decide) (by omega))).mono (Nat.le_refl 1) (by decide)
  cases e : readV v with
  | inl n =>
    have hn : n ≤ 300000 := by
      unfold readV at e
      split at e
      · rename_i z
        have := scan_le e
        have := rowsIn_len (hv z rfl)
        omega
      · obtain rfl := Sum.inl.inj e
        decide
    exact fin (text n hn) (by decide) (by decide)
  | inr l =>
    obtain ⟨rows, hr, lr⟩ : ∃ rows, Parsed rows l ∧ rows.length ≤ top8 := by
      unfold readV at e
      split at e
      · rename_i z
        exact ⟨_, scan_parsed e, rowsIn_len (hv z rfl)⟩
      · cases e
    have f := fine_of hr lr
    show (match resR l with | .bad t d => PyData.tuple [.str (Str.ofString t.s), d] | .place z => .tuple [.str (Str.ofString "place"), .str z] | .told ps st lo => .tuple [.str (Str.ofString "told"), toldP ps st lo]).showable = true ∧ (match resR l with | .bad t d => PyData.tuple [.str (Str.ofString t.s), d] | .place z => .tuple [.str (Str.ofString "place"), .str z] | .told ps st lo => .tuple [.str (Str.ofString "told"), toldP ps st lo]).depth ≤ 100 ∧ (match resR l with | .bad t d => PyData.tuple [.str (Str.ofString t.s), d] | .place z => .tuple [.str (Str.ofString "place"), .str z] | .told ps st lo => .tuple [.str (Str.ofString "told"), toldP ps st lo]).shown.length ≤ sizeLine
    have bad : ∀ {t : Tag} {d : PyData}, Shw d 2 14600200 → (PyData.tuple [.str (Str.ofString t.s), d]).showable = true ∧ (PyData.tuple [.str (Str.ofString t.s), d]).depth ≤ 100 ∧ (PyData.tuple [.str (Str.ofString t.s), d]).shown.length ≤ sizeLine := fun {t d} h =>
      fin (shw_pair ((tag_sh t).mono (Nat.zero_le 2) (Nat.le_refl 92)) h) (by decide) (by decide)
    cases e1 : dueP (l.filterMap FP) (l.filterMap FS) none with
    | some td =>
      obtain ⟨t, d⟩ := td
      rw [show resR l = .bad t d by unfold resR; rw [e1]]
      exact bad (due_sh f (.inl rfl) e1)
    | none =>
      cases e2 : fu (l.filterMap FP) l with
      | some z =>
        rw [show resR l = .place z by unfold resR; rw [e1, e2]]
        have n := place_ok hr e2
        exact fin (shw_pair (shw_str (good_of _) (n := 9) (by decide +kernel)) (shw_str n.good n.2.1)) (by decide) (by decide)
      | none =>
        cases e3 : dueP (l.filterMap FP) (l.filterMap FS) (some (l.filterMap (FL (l.filterMap FP)))) with
        | some td =>
          obtain ⟨t, d⟩ := td
          rw [show resR l = .bad t d by unfold resR; rw [e1, e2, e3]]
          exact bad (due_sh f (.inr rfl) e3)
        | none =>
          rw [show resR l = .told (l.filterMap FP) (l.filterMap FS) (l.filterMap (FL (l.filterMap FP))) by unfold resR; rw [e1, e2, e3]]
          obtain ⟨sp, ok⟩ := dueP_ok (fun p hp => (f.p p hp).1) f.s e3
          have lp : (l.filterMap FP).length ≤ 6 := ok.p6
          have ls : (l.filterMap FS).length ≤ 6 := by
            have := ok.sl
            have q : (l.filterMap FS).length + 1 = (l.filterMap FP).length := this
            omega
          have lo : (l.filterMap (FL (l.filterMap FP))).length ≤ 6 := by
            have q : (l.filterMap (FL (l.filterMap FP))).length ≤ 2 := ok.ll
            omega
          have tp : ∀ {ds : List PyData} {m : Nat}, (∀ d ∈ ds, Shw d 1 m) → m ≤ 71 → ds.length ≤ 6 → Shw (.tuple ds) 2 441 := fun {ds m} h hm hl =>
            (shw_tuple (m := 71) fun d hd => (h d hd).mono (Nat.le_refl 1) hm).mono (Nat.le_refl 2) (by omega)
          have pd : ∀ x ∈ (l.filterMap FP).map dP, Shw x 1 71 := fun x hx => by
            obtain ⟨p, hp, rfl⟩ := List.mem_map.mp hx
            obtain ⟨n1, n2, n3⟩ := f.p p hp
            exact shw_dP n1.good n1.2.1 n2 n3
          have sd : ∀ x ∈ (l.filterMap FS).map dP, Shw x 1 71 := fun x hx => by
            obtain ⟨p, hp, rfl⟩ := List.mem_map.mp hx
            obtain ⟨n1, n2, n3⟩ := f.s p hp
            exact shw_dP (kind_len n1).2 (kind_len n1).1 n2 (by omega)
          have ld : ∀ x ∈ (l.filterMap (FL (l.filterMap FP))).map dL, Shw x 1 40 := fun x hx => by
            obtain ⟨p, hp, rfl⟩ := List.mem_map.mp hx
            obtain ⟨⟨n1, n2⟩, ⟨n3, n4⟩, n5⟩ := f.l p hp
            exact shw_dL ⟨n1, by have : (top8 : Int) = 200002 := rfl; omega⟩ ⟨n3, by have : (top8 : Int) = 200002 := rfl; omega⟩ n5
          have t3 : Shw (toldP (l.filterMap FP) (l.filterMap FS) (l.filterMap (FL (l.filterMap FP)))) 3 2000 := by
            refine (shw_tuple (k := 2) (m := 441) (ds := [.tuple ((l.filterMap FP).map dP), .tuple ((l.filterMap FS).map dP), .tuple ((l.filterMap (FL (l.filterMap FP))).map dL)]) fun d hd => ?_).mono (Nat.le_refl 3) (by show 3 * 443 + 3 ≤ 2000; decide)
            simp only [List.mem_cons, List.not_mem_nil, or_false] at hd
            rcases hd with rfl | rfl | rfl
            · exact tp pd (Nat.le_refl 71) (by rw [List.length_map]; exact lp)
            · exact tp sd (Nat.le_refl 71) (by rw [List.length_map]; exact ls)
            · exact tp ld (by decide) (by rw [List.length_map]; exact lo)
          exact fin (shw_pair ((shw_str (good_of _) (n := 9) (by decide +kernel)).mono (Nat.zero_le 3) (Nat.le_refl _)) t3) (by decide) (by decide)
end K8

set_option maxRecDepth 100000
set_option maxHeartbeats 4000000
/-! The end of a law with tables whose own def shows dicts. -/
namespace Gd
open PySem PySem.Spec PyProof.Rows L2 GxR
open Classical in
noncomputable def hm0 (K : PySem.W.Frag) (a : Addr) (vs : List Value) (ns : List Int) (T : List Addr) (o1 : Obj) : Hp := fun b => if b = sysModules then some (.frz o1 smU) else h0 K a vs ns T b
theorem hm0_inv {K : PySem.W.Frag} {a b : Addr} {vs : List Value} {ns : List Int} {T : List Addr} {o1 : Obj} {u : HO} (h : hm0 K a vs ns T o1 b = some u) :
    (b = sysModules ∧ u = .frz o1 smU) ∨ (b = a ∧ K.lookup a = none ∧ u = .frz (scriptO vs) (.lst (ns.map V.int))) ∨ (b ∈ T ∧ u = .tbl #[]) := by
  unfold hm0 at h
  split at h
  · rename_i c
    exact .inl ⟨c, (Option.some.inj h).symm⟩
  · exact .inr (h0_inv h)
section
variable {P : Program} {w : World} {K : PySem.W.Frag} {mg mb : Str → Option Value} {CX : CXT} {k : Nat} {fa a : Addr} {cs : List (Addr × Addr)} {fd : FuncData} {x : Str} {sp : Sp} {s1 : Shared} {vs : List Value} {ns : List Int}
theorem law_mcall (KX : K.In s1.heap) (nsG : s1.heap.Ns mainGlobals mg) (nsB : s1.heap.Ns builtinsNs mb) (isB : ∀ x : Str, x ≠ "__name__" → mb x = bootBuiltins x) (lim : s1.heap.NoLimit) (gens : s1.gens = #[])
    (tabs : ∀ p ∈ cs, s1.heap.get? p.2 = some tabO) (tabK : ∀ p ∈ cs, K.lookup p.2 = none) (codes : ∀ p ∈ cs, PySem.W.CodeHd s1.heap p.1 p.2)
    (bmain : ∃ (bm : Addr) (ob : Obj), mg "__builtins__" = some (.ref bm) ∧ bm ≠ builtinsNs ∧ s1.heap.get? bm = some ob ∧ ob.cls = .type "module" ∧ ob.dict = some builtinsNs ∧ ob.data = .plain)
    (hsm : ∃ o es ep, s1.heap.get? sysModules = some o ∧ o.data = .dict es ep) (k1 : K.lookup sysModules = none) (na : a ≠ sysModules)
    (ha : s1.heap.get? a = some (scriptO vs)) (hi : IntsAre vs ns) (hl : ns.length ≤ sizeLine) (hr : Room k callerA)
    (F : ∀ base : Heap, K.In base → base.Ns mainGlobals mg → (∀ p ∈ cs, TabB base mg p.1 p.2) → GOk P w K mg base CX k fa fd [x] sp)
    (hbind : ∀ (s : Shared) (u : Value), BindsTo s fd ⟨[u], []⟩ [(x, u)])
    (hsp : ∀ H : Hp, SmAt H → (∀ p ∈ cs, H p.2 = some (.tbl #[])) → SqL K H a (ns.map V.int) → sp [.ref a] H (fun v _ => v = .bl true) fun _ _ _ => False)
    (hCX : ∀ H e s', CX [] H s1 (fun _ _ _ => False) e s' → False) :
    codeAny (model P w) callerA (.call (.ref fa) ⟨[.ref a], []⟩) (fun r s' => r = .ok (.ret (.bool true)) ∧ OldK s1.heap s'.heap ∧ s'.os = s1.os ∧ AllBare s'.gens) s1 := by
  have rv := vals_ints hi
  have hlen := hi.length
  obtain ⟨o1, es1, ep1, ho1, hd1⟩ := hsm
  let T := cs.map Prod.snd
  have inT : ∀ p ∈ cs, p.2 ∈ T := fun p hp => List.mem_map.mpr ⟨p, hp, rfl⟩
  have ofT : ∀ b ∈ T, s1.heap.get? b = some tabO ∧ K.lookup b = none := by
    intro b hb
    obtain ⟨p, hp, rfl⟩ := List.mem_map.mp hb
    exact ⟨tabs p hp, tabK p hp⟩
  have neT : a ∉ T := fun z => by
    have q := (ofT a z).1
    rw [ha] at q
    cases q
  have smT : sysModules ∉ T := fun z => by
    have q := (ofT _ z).1
    rw [ho1] at q
    rw [Option.some.inj q] at hd1
    cases hd1
  let H := hm0 K a vs ns T o1
  have notsm : ∀ {b : Addr} {o : Obj}, s1.heap.get? b = some o → (∀ es ep, o.data ≠ .dict es ep) → b ≠ sysModules := fun e n z => by
    subst z
    rw [ho1] at e
    rw [Option.some.inj e] at hd1
    exact n _ _ hd1
  have seen : ∀ {b : Addr} {o : Obj}, s1.heap.get? b = some o → (∀ us n, o.data ≠ .seq us n) → o.data ≠ .fields #[] → b ≠ sysModules → H b = none := by
    intro b o e n1 n2 n3
    cases q : H b with
    | none => rfl
    | some u =>
      exfalso
      rcases hm0_inv q with ⟨z, _⟩ | ⟨rfl, _, _⟩ | ⟨hb, _⟩
      · exact n3 z
      · rw [ha] at e
        cases e
        exact n1 _ _ rfl
      · rw [(ofT b hb).1] at e
        cases e
        exact n2 rfl
  have keepHid : ∀ {b : Addr} {o : Obj}, s1.heap.get? b = some o → H b = none → (hidT s1.heap H).get? b = some o := fun e n => hidT_get e n
  have nsHid : ∀ {b : Addr} {m : Str → Option Value}, b ≠ sysModules → s1.heap.Ns b m → (hidT s1.heap H).Ns b m := by
    rintro b m n ⟨o, es, ep, e, d, rest⟩
    refine ⟨o, es, ep, keepHid e (seen e (fun us n z => ?_) (fun z => ?_) n), d, rest⟩ <;> (rw [d] at z; cases z)
  have KH : K.In (hidT s1.heap H) := by
    intro b o e
    refine keepHid (KX b o e) ?_
    cases q : H b with
    | none => rfl
    | some u =>
      exfalso
      rcases hm0_inv q with ⟨rfl, _⟩ | ⟨rfl, z, _⟩ | ⟨hb, _⟩
      · rw [k1] at e
        cases e
      · rw [z] at e
        cases e
      · rw [(ofT b hb).2] at e
        cases e
  have limH : (hidT s1.heap H).NoLimit := by
    obtain ⟨mc, h1, h2⟩ := lim
    exact ⟨mc, nsHid (by decide) h1, h2⟩
  have M : L2.Mod K mg (hidT s1.heap H) := ⟨KH, nsHid (by decide) nsG, ⟨mb, nsHid (by decide) nsB, isB⟩, limH⟩
  have TB : ∀ p ∈ cs, TabB (hidT s1.heap H) mg p.1 p.2 := by
    intro p hp
    have tp := tabs p hp
    refine ⟨?_, ?_, ?_⟩
    · obtain ⟨o, us, file, tf, flags, tg, inF, text, tt, e1, r1, r2, r3, rest⟩ := codes p hp
      refine ⟨o, us, file, tf, flags, tg, inF, text, tt, keepHid e1 (seen e1 (fun vs n z => ?_) (fun z => ?_) (notsm e1 fun es ep z => ?_)), r1, r2, r3, rest⟩
      · rw [r2] at z
        cases z
      · rw [r2] at z
        cases z
        simp at r3
      · rw [r2] at z
        cases z
    · obtain ⟨bm, ob, b1, b2, b3, b4, b5, b6⟩ := bmain
      have g1 : bm ≠ mainGlobals := by
        rintro rfl
        obtain ⟨o, es, ep, e, d, _⟩ := nsG
        rw [b3] at e
        cases e
        rw [b6] at d
        cases d
      have g2 : bm ≠ p.2 := by
        rintro rfl
        rw [tp] at b3
        cases b3
        cases b6
      refine ⟨bm, ob, b1, b2, g1, g2, keepHid b3 (seen b3 (fun vs n z => ?_) (fun z => ?_) (notsm b3 fun es ep z => ?_)), b4, b5, b6⟩ <;> (rw [b6] at z; cases z)
    · intro z
      obtain ⟨o, es, ep, e, d, _⟩ := nsG
      rw [z, tp] at e
      cases e
      cases d
  have hH : ∀ p ∈ cs, H p.2 = some (.tbl #[]) := by
    intro p hp
    have n0 : ¬ p.2 = sysModules := fun z => smT (z ▸ inT p hp)
    have n1 : ¬ (p.2 = a ∧ K.lookup a = none) := fun z => neT (z.1 ▸ inT p hp)
    exact (if_neg n0).trans ((if_neg n1).trans (if_pos (inT p hp)))
  have hS : SqL K H a (ns.map V.int) := by
    cases q : K.lookup a with
    | none => exact .inl (.inr ⟨scriptO vs, (if_neg na).trans (if_pos ⟨rfl, q⟩)⟩)
    | some o =>
      have e := KX a o q
      rw [ha] at e
      cases e
      exact .inr ⟨_, vs.toArray, _, q, rfl, rfl, rfl, by rw [List.size_toArray, hlen]; exact hl, by simpa using rv⟩
  have hok : HOk P w H s1.heap := by
    intro b u q
    rcases hm0_inv q with ⟨rfl, rfl⟩ | ⟨rfl, _, rfl⟩ | ⟨hb, rfl⟩
    · exact ⟨ho1, ⟨_, ho1⟩, ⟨_, ho1⟩, fun h1 h2 ⟨o, z⟩ k => ⟨o, k _ z⟩⟩
    · exact ⟨ha, by rw [List.length_map]; exact hl, vs, _, rv, ha⟩
    · exact (ofT b hb).1
  have e0 : Env0 P w K mg (hidT s1.heap H) callerA [] s1 H :=
    ⟨rfl, M, fun b o e => of_hidT e, Nat.le_of_eq (hidT_size _ _), trivial, (fun b hb => by cases (show b ∈ ([] : List Addr) from hb)), hok, .of_eq gens⟩
  have run := (F _ KH (nsHid (by decide) nsG) TB).go callerA [] s1 H ⟨[.ref a], []⟩ [.ref a] [.ref a] (fun v _ => v = .bl true) (fun _ _ _ => False) rfl hr e0 (hbind s1 (.ref a)) (.cons rfl .nil) (hsp H ⟨o1, if_pos rfl⟩ hH hS)
  refine codeAny_mono run ?_
  intro r s' h
  match r, h with
  | .error e, h => exact (hCX H e s' h).elim
  | .ok .next, h => exact h.elim
  | .ok .brk, h => exact h.elim
  | .ok .cont, h => exact h.elim
  | .ok (.ret u), h =>
    obtain ⟨v, H', os, bare, un, hok', r', q⟩ := h
    obtain rfl : v = .bl true := q
    obtain rfl : u = Value.bool true := r'
    have plain : ∀ b o, b ∉ T → s1.heap.get? b = some o → s'.heap.get? b = some o := by
      intro b o nb e
      cases q : H b with
      | none => exact un.keep b o e q (fun z => by cases (show b ∈ ([] : List Addr) from z)) (by simp)
      | some y =>
        rcases hm0_inv q with ⟨rfl, rfl⟩ | ⟨rfl, _, rfl⟩ | ⟨hb, _⟩
        · obtain ⟨e2, _⟩ := hok' sysModules _ (un.frzs _ _ _ q)
          rw [ho1] at e
          exact Option.some.inj e ▸ e2
        · obtain ⟨e2, _⟩ := hok' b _ (un.frzs b _ _ q)
          rw [ha] at e
          cases e
          exact e2
        · exact absurd hb nb
    have grown : ∀ p ∈ cs, ∃ more : Array Value, s'.heap.get? p.2 = some { cls := .none, data := .fields more } := by
      intro p hp
      obtain ⟨more, z⟩ := un.tbls p.2 #[] (hH p hp)
      exact ⟨_, hok' p.2 _ z⟩
    refine ⟨rfl, ⟨fun b o e => ?_, fun b o e => ?_⟩, os, bare⟩ <;> by_cases hb : b ∈ T
    · obtain ⟨p, hp, rfl⟩ := List.mem_map.mp hb
      obtain ⟨more, hm⟩ := grown p hp
      rw [tabs p hp] at e
      cases e
      exact .inr (.inl ⟨((codes p hp).tab (tabs p hp)).isCodeTable, rfl, #[], more, rfl, by rw [Array.empty_append]; exact hm⟩)
    · exact .inl (plain b o hb e)
    · obtain ⟨p, hp, rfl⟩ := List.mem_map.mp hb
      obtain ⟨more, hm⟩ := grown p hp
      exact ⟨_, hm⟩
    · exact ⟨o, plain b o hb e⟩
end
/-- what is to be known of such a law -/
def GLawM (l : PySem.W.OpenLaw) (w : World) (K : PySem.W.Frag) (CX : CXT) (k n : Nat) (x : Str) (mg : Str → Option Value) (fa : Addr) (h : Heap) : Prop :=
  ∃ (fd : FuncData) (cs : List (Addr × Addr)) (sp : Sp), K.lookup sysModules = none ∧ (∀ p ∈ cs, h.get? p.2 = some tabO) ∧ (∀ p ∈ cs, K.lookup p.2 = none) ∧ (∀ p ∈ cs, PySem.W.CodeHd h p.1 p.2) ∧
    (∀ (s : Shared) (u : Value), BindsTo s fd ⟨[u], []⟩ [(x, u)]) ∧
    (∀ (H : Hp) (a : Addr) (ns : List Int), ns.length ≤ n → SmAt H → (∀ p ∈ cs, H p.2 = some (.tbl #[])) → SqL K H a (ns.map V.int) →
      sp [.ref a] H (fun v _ => v = .bl true) fun _ _ _ => False) ∧
    ∀ base : Heap, K.In base → base.Ns mainGlobals mg → (∀ p ∈ cs, TabB base mg p.1 p.2) → GOk l.prog w K mg base CX k fa fd [x] sp
open PySem.W in
theorem walk_m {l : PySem.W.OpenLaw} {n k : Nat} {q : Program} {loose : List Str} {XP : (Str → Option Value) → Heap → Prop} {YP : World → Heap → Prop} {d : DefRec} {K : Params → PySem.W.Frag} {CX : World → CXT} {x : Str}
    (no : importsNone q = true) (hn : l.most = some n) (small : n ≤ sizeLine) (hdf : d.params.defaults = []) (hr : Room k callerA) (hY : ∀ (w : World) (h : Heap), YP w h → (K w.params).In h)
    (F : ∀ (w : World) (mg : Str → Option Value) (fa : Addr) (h : Heap), YP w h → (K w.params).In h → h.Ns mainGlobals mg → mg d.name = some (.ref fa) → Empt q (K w.params) h → GLawM l w (K w.params) (CX w) k n x mg fa h)
    (hCX : ∀ (w : World) (H : Hp) (s : Shared) (e : Value) (s' : Shared), CX w [] H s (fun _ _ _ => False) e s' → False) :
    PySem.W.WalkO q loose XP YP l.row.toRowW d [] (fun f vs => PySem.call f vs) := by
  intro w s0 s1 mg mb G Y fa o pm cd doc dV kV ho hd hcd hD hmg hg args vals as pre lay rd well low
  obtain ⟨a, vs, ns, rfl, rfl, hobj, hints, hlen⟩ := Att.script_of hn pre well
  have na : a ≠ sysModules := by
    cases rd with
    | cons r1 r2 =>
      cases r1 with
      | list _ _ _ _ => exact beq_eq_false_iff_ne.mp (low a (by simp))
  have KX := hY w _ Y
  have em : Empt q (K w.params) s1.heap := by
    intro x f c t o1 fd1 e dd us sl hx k1 k2 k3 k4 k5 k6
    obtain ⟨r, hr1, hr2⟩ := List.any_eq_true.mp hx
    have hn1 : r.name = x := beq_iff_eq.mp hr2
    obtain ⟨a1, o2, fd2, c2, t2, y1, y2, y3, y4, y5, y6⟩ := G.T.tab r hr1
    have z1 := PySem.W.mg_of KX G.T.g k1
    rw [hn1, z1] at y1
    cases y1
    have z2 := KX _ _ k2
    rw [z2] at y2
    cases y2
    rw [k3] at y3
    cases y3
    rw [k4] at y4
    cases y4
    have y6b := y6
    obtain ⟨⟨oc, vc, e1, e2, e3, e4⟩, hP⟩ := y6b
    have z5 := KX _ _ k5
    rw [z5] at e1
    cases e1
    cases e3
    rw [k6] at e4
    cases e4
    exact ⟨PySem.W.CodeHd.of y5 y6, hP⟩
  obtain ⟨fd, cs, sp, k1, t1, t2, t3, hb, hsp, hF⟩ := F w mg fa _ Y KX G.T.g hmg em
  have run := law_mcall KX G.T.g G.T.b G.T.builtins G.T.nolimit hg t1 t2 t3 G.T.bmain (let ⟨_, ⟨o, es, ep, e, d, _⟩, _⟩ := (G.T.seer no).mods; ⟨o, es, ep, e, d⟩) k1 na hobj hints (Nat.le_trans hlen small) hr hF hb (fun H a1 a2 a3 => hsp H a ns hlen a1 a2 a3) (fun H e s' => hCX w H s1 e s')
  refine enter_call (codeAny_mono run ?_)
  rintro r z ⟨rfl, old, os, bare⟩
  exact ⟨.inl ⟨.bool true, .bool true, [], rfl, fun _ => rfl, .bool true, Att.post_true l _, fun _ => ⟨List.Pairwise.nil, fun _ m => (nomatch m)⟩⟩, old, os, bare⟩
end Gd

set_option maxRecDepth 100000
set_option maxHeartbeats 1000000
namespace K8
open PySem PySem.Spec PyProof.Rows L2 GxR Gd TL My
theorem nw_hide {H0 H : Hp} {L : Addr} (h : H0 L ≠ none) : Nt (nw H0 H) (hide L H) := fun c o _ e => by
  obtain ⟨h1, h2⟩ := nw_some e
  rw [hide_ne (fun q : c = L => h (by rw [← q]; exact h1))]
  exact h2
theorem tab_kb {b Pt : Addr} {H H' : Hp} (tb : TabG H Pt) (n : b ≠ Pt) (k : KB b H H') : TabG H' Pt := by
  obtain ⟨ps, e, t⟩ := tb
  exact ⟨ps, k _ _ n.symm e, t⟩
def caOf (a0 a1 a2 a3 a4 a5 a6 a7 : Addr) : Cat → Addr
  | .text => a0
  | .places => a1
  | .name => a2
  | .twice => a3
  | .number => a4
  | .stretches => a5
  | .place => a6
  | .longs => a7
section
variable {P : Program} {w : World} {K : PySem.W.Frag} {mg : Str → Option Value} {base : Heap}
abbrev s_law : Stmt := top 60
theorem sc_law : FnScope ["_law_script", "_law_k", "_law_box_here", "_law_world_here", "_law_turn", "_law_text_here", "_law_due_here"] ["_law_script"] (defScope s_law) := ⟨rfl, rfl, rfl, by decide +kernel, rfl, by decide +kernel, by decide +kernel⟩
def spLaw (K : PySem.W.Frag) (Pt : Addr) : Sp := fun vs H Q _ => ∃ (a : Addr) (ns : List Int), vs = [.ref a] ∧ SqL K H a (ns.map V.int) ∧ ns.length ≤ 63 ∧ TabG H Pt ∧ ∀ H', Q (.bl true) H'
theorem ok_law {f fC fB fW fT fR fK Pt : Addr} {fd fdC fdB fdW fdT fdR fdK : FuncData} (F : Fun K "law" "law" s_law f fd) (T : Txt mg)
    (Nlaw_cell : Fn K mg "_law_cell" sCell ["_law_script", "_law_k"] fC fdC) (Glaw_cell : FnOk P w K mg base CX0 1 fC fdC ["_law_script", "_law_k"] (spCell K))
    (Nlaw_box : Fn K mg "_law_box" sBox ["_law_cell_here"] fB fdB) (Glaw_box : FnOk P w K mg base CX0 1 fB fdB ["_law_cell_here"] spBox)
    (Nlaw_world : Fn K mg "_law_world" s_law_world ["_law_box_here"] fW fdW) (Glaw_world : FnOk P w K mg base CX0 3 fW fdW ["_law_box_here"] (spWorld K))
    (Nlaw_text : Fn K mg "_law_text" s_law_text ["_law_box_here", "_law_world_here"] fT fdT) (Glaw_text : FnOk P w K mg base CX0 4 fT fdT ["_law_box_here", "_law_world_here"] (spText K))
    (Nlaw_read : Fn K mg "_law_read" s_law_read ["_law_text_here"] fR fdR) (Glaw_read : FnOk P w K mg base CX0 10 fR fdR ["_law_text_here"] (spRead K Pt))
    (Nlaw_caught : Fn K mg "_law_caught" s_law_caught ["_law_text_here"] fK fdK) (Glaw_caught : FnOk P w K mg base CX0 10 fK fdK ["_law_text_here"] (spCaught K Pt)) :
    GOk P w K mg base CX0 11 f fd ["_law_script"] (spLaw K Pt) := by
  refine gok F sc_law (fun vs H Q E h => ?_) (fun cdv A outer s H vs Q E gd hr h => ?_)
  · obtain ⟨a, ns, rfl, _⟩ := h
    rfl
  · obtain ⟨a, ns, rfl, hS, hlen, hT, k⟩ := h
    refine ⟨_, pss_cons (ps_for PassesOwn.never rfl (pi_range1 (by rfl) T.range_ (pa_cons (pe_callB (call_max2 rfl) (by rfl) T.max_ (by decide +kernel) (pa_cons pe_int (pa_cons (pe_callB (call_min2 rfl) (by rfl) T.min_ (by decide +kernel) (pa_cons pe_int (pa_cons (pe_callB call_len_seq (by rfl) T.len_ PySem.boot_len (pa_cons (pv 0) pa_nil)) pa_nil))) pa_nil))) pa_nil)) (pg_name (i := 1) sc_law.nd rfl (Or.inl rfl)) (pss_cons (ps_set (i := 2) sc_law.nd rfl (Or.inl rfl) (pe_call Glaw_box (hr.mono (by decide)) (by rfl) Nlaw_box.g Nlaw_box.kp Nlaw_box.b .nil pass0 (pa_cons (pe_call Glaw_cell (hr.mono (by decide)) (by rfl) Nlaw_cell.g Nlaw_cell.kp Nlaw_cell.b .nil pass0 (pa_cons (pv 0) (pa_cons (pv 1) pa_nil))) pa_nil)))
          (pss_cons (ps_set (i := 3) sc_law.nd rfl (Or.inl rfl) (pe_call Glaw_world (hr.mono (by decide)) (by rfl) Nlaw_world.g Nlaw_world.kp Nlaw_world.b .nil pass0 (pa_cons (pv 2) pa_nil)))
          (pss_one (ps_for PassesOwn.never rfl (pi_range1 (by rfl) T.range_ (pa_cons pe_int pa_nil)) (pg_name (i := 4) sc_law.nd rfl (Or.inl rfl)) (pss_cons (ps_set (i := 5) sc_law.nd rfl (Or.inl rfl) (pe_call Glaw_text (hr.mono (by decide)) (by rfl) Nlaw_text.g Nlaw_text.kp Nlaw_text.b .nil pass0 (pa_cons (pv 2) (pa_cons (pv 3) pa_nil))))
              (pss_cons (ps_set (i := 6) sc_law.nd rfl (Or.inl rfl) (pe_call Glaw_read (hr.mono (by decide)) (by rfl) Nlaw_read.g Nlaw_read.kp Nlaw_read.b .nil pass0 (pa_cons (pv 5) pa_nil)))
              (pss_one (ps_if (PW.pt (pw_or (pt_cmpR op_ne (pe_callB (call_repr gd hr) (by rfl) T.repr_ (by decide +kernel) (pa_cons (pe_call Glaw_caught (hr.mono (by decide)) (by rfl) Nlaw_caught.g Nlaw_caught.kp Nlaw_caught.b .nil pass0 (pa_cons (pv 5) pa_nil)) pa_nil)) (pe_callB (call_repr gd hr) (by rfl) T.repr_ (by decide +kernel) (pa_cons (pv 6) pa_nil)) (nomark _)) (pw_or1 (pt_cmpR op_ne (pe_callB (call_repr gd hr) (by rfl) T.repr_ (by decide +kernel) (pa_cons (pe_call Glaw_caught (hr.mono (by decide)) (by rfl) Nlaw_caught.g Nlaw_caught.kp Nlaw_caught.b .nil pass0 (pa_cons (pv 5) pa_nil)) pa_nil)) (pe_callB (call_repr gd hr) (by rfl) T.repr_ (by decide +kernel) (pa_cons (pv 6) pa_nil)) (nomark _))))) (pss_one (ps_ret pe_bl)) pss_nil)))))))))
      (pss_one (ps_ret pe_bl)), ?_⟩
    generalize hσ : L2.start _ _ = σ0
    obtain rfl : σ0 = [some (.ref a), none, none, none, none, none, none] := hσ.symm.trans rfl
    refine ⟨_, rfl, a, _, rfl, .inl hS, _, _, rfl, _, _, rfl, ?_⟩
    obtain ⟨N, hN, N2, N10⟩ : ∃ N : Nat, (if (if (((ns.map V.int).length : Nat) : Int) < 10 then (((ns.map V.int).length : Nat) : Int) else 10) > 2 then (if (((ns.map V.int).length : Nat) : Int) < 10 then (((ns.map V.int).length : Nat) : Int) else 10) else 2) = (N : Int) ∧ 2 ≤ N ∧ N ≤ 10 := by
      rw [List.length_map]
      refine ⟨max 2 (min 10 ns.length), ?_, by omega, by omega⟩
      split <;> split <;> omega
    rw [hN]
    refine ⟨_, rfl, by omega, by omega, ?_⟩
    rw [Int.toNat_natCast]
    refine for_range (lo := 0) (n := N) (fun i σ H' => ∃ v1 v2 v3 v4 v5 v6 : Option V, σ = [some (.ref a), v1, v2, v3, v4, v5, v6] ∧ KT Pt H H') ⟨_, _, _, _, _, _, rfl, KT.refl hT⟩ ?_ ?_
    · rintro i σ H1 hi ⟨v1, v2, v3, v4, v5, v6, rfl, k1⟩
      have hS1 := seq_kt hT k1 hS
      refine ⟨_, rfl, _, rfl, a, ns, i, ?_, hS1, fun c => ?_⟩
      · show [V.ref a, V.int (0 + (i : Int))] = [V.ref a, V.int i]
        rw [Int.zero_add]
      refine ⟨c, rfl, fun b H2 fb off2 B2 => ?_⟩
      refine ⟨_, rfl, b, 0, rfl, B2, by omega, fun wd v H3 ok k3 hD B3 => ?_⟩
      have kk : KT Pt H1 H3 := KT.box k1.tab fb off2 k3
      have nbP : b ≠ Pt := (by
        obtain ⟨ps, e⟩ := TabG.at k1.tab
        exact (ne_of_none e fb).symm)
      have hb2 : H2 b ≠ none := by
        obtain ⟨_, _, _, q, _⟩ := B2
        rw [q]
        simp
      have hDh := dp_nt (nw_hide (H := H3) hb2) (Dr.dp (K := K) hD)
      have k13 := k1.trans kk
      have fbH : H b = none := KT.back k1 fb
      have b100 : Bx b 100 H3 := B3
      clear hD off2 B2 B3 k3 hb2 hS1 kk fb
      simp only [List.set_cons_succ, List.set_cons_zero]
      refine ⟨_, rfl, by decide, by decide, ?_⟩
      refine for_range (lo := 0) (n := 3) (fun j σ H' => ∃ (u1 v4 v5 v6 : Option V), σ = [some (.ref a), u1, some (.ref b), some v, v4, v5, v6] ∧ KT Pt H H' ∧ Bx b (100 + 60 * (j : Nat)) H' ∧ Dp K (hide b H') v wd.data) ⟨_, _, _, _, rfl, k13, b100.mono (by omega), hDh⟩ ?_ ?_
      · rintro j σ Y hj ⟨u1, v4, v5, v6, rfl, kY, bY, dY⟩
        simp only [List.set_cons_succ, List.set_cons_zero]
        refine ⟨_, rfl, _, rfl, b, v, wd, _, rfl, bY, by omega, dY, ok, fun u X1 kb1 bx1 th wk => ?_⟩
        have kX1 : KT Pt H X1 := ⟨fun c o nc h => kb1 c o (ne_of_none h fbH) (kY.keep c o nc h), tab_kb kY.tab nbP kb1⟩
        have dX1 : Dp K (hide b X1) v wd.data := dp_nt (fun c o _ e => by
          obtain ⟨h1, h2⟩ := hide_some e
          rw [hide_ne h1]
          exact kb1 c o h1 h2) dY
        obtain ⟨s1, s2, s3⟩ := res_sh wk
        simp only [List.set_cons_succ, List.set_cons_zero]
        refine ⟨_, rfl, u, rfl, th, wk, kX1.tab, fun X2 r k2 dr => ?_⟩
        simp only [List.set_cons_succ, List.set_cons_zero]
        have n2 := KT.nt kX1.tab k2
        have kX2 := kX1.trans k2
        refine ⟨_, rfl, u, rfl, th_nt n2 th, wk, kX2.tab, fun X3 r3 k3 d3 => ⟨r3, _, rfl, d3, s1, s2, s3, ?_⟩⟩
        have n3 := KT.nt kX2.tab k3
        have kX3 := kX2.trans k3
        refine ⟨_, rfl, r, _, rfl, dp_nt n3 dr, s1, s2, s3, rfl, false, congrArg V.bl (by simp), iteF ?_⟩
        refine ⟨_, rfl, u, rfl, th_nt n3 (th_nt n2 th), wk, kX3.tab, fun X4 r4 k4 d4 => ⟨r4, _, rfl, d4, s1, s2, s3, ?_⟩⟩
        have n4 := KT.nt kX3.tab k4
        have kX4 := kX3.trans k4
        refine ⟨_, rfl, r, _, rfl, dp_nt n4 (dp_nt n3 dr), s1, s2, s3, rfl, false, congrArg V.bl (by simp), iteF ?_⟩
        have k14 := (k2.trans k3).trans k4
        refine ⟨_, _, _, _, rfl, kX4, ?_, dp_nt (hide_mono (KT.nt kX1.tab k14)) dX1⟩
        obtain ⟨x1, y1, z1, q, r⟩ := bx1
        refine ⟨x1, y1, z1, k14.keep _ _ nbP q, ?_⟩
        rw [show ((j + 1 : Nat) : Int) = (j : Int) + 1 by omega]
        omega
      · rintro σ Y ⟨u1, w4, w5, w6, rfl, kY, _, _⟩
        exact ⟨_, _, _, _, _, _, rfl, kY⟩
    · rintro σ H1 ⟨v1, v2, v3, v4, v5, v6, rfl, k1⟩
      exact k H1
end
end K8

namespace K8
open PySem PySem.Spec L2
theorem cst2 {K : PySem.W.Frag} {a : Addr} {o : Obj} {z0 z1 : Str} {t0 t1 : Tok} {n : Nat} {zs : List Str} (l : K.lookup a = some o) (c : o.cls = .type "tuple") (d : o.dict = none) (e : o.data = .seq #[.str z0 t0, .str z1 t1] n) (h : [z0, z1] = zs) : Cst K a zs := by
  subst h
  exact ⟨fun H => .inr ⟨o, _, n, l, c, e, fit (by simp), .cons ⟨_, rfl⟩ (.cons ⟨_, rfl⟩ .nil)⟩, o, l, c, d⟩
theorem cst3 {K : PySem.W.Frag} {a : Addr} {o : Obj} {z0 z1 z2 : Str} {t0 t1 t2 : Tok} {n : Nat} {zs : List Str} (l : K.lookup a = some o) (c : o.cls = .type "tuple") (d : o.dict = none) (e : o.data = .seq #[.str z0 t0, .str z1 t1, .str z2 t2] n) (h : [z0, z1, z2] = zs) : Cst K a zs := by
  subst h
  exact ⟨fun H => .inr ⟨o, _, n, l, c, e, fit (by simp), .cons ⟨_, rfl⟩ (.cons ⟨_, rfl⟩ (.cons ⟨_, rfl⟩ .nil))⟩, o, l, c, d⟩
end K8

set_option maxRecDepth 100000
set_option maxHeartbeats 4000000
namespace K8
open PySem PySem.Spec PyProof.Rows L2 GxR Gd TL My
theorem all_mk {l : PySem.W.OpenLaw} {q : Program} {w : World} {K : PySem.W.Frag} {h : Heap} {mg : Str → Option Value} {fa C CY CP CN CW CM CT CE CL CS aSI aSO f1 f2 f3 f4 f5 f6 f7 f8 f9 f10 f11 f12 f13 f14 f15 f16 f17 f18 f19 f20 f21 f22 f23 f24 f25 f26 f27 f28 f29 f30 f31 f32 f33 f34 f35 f36 f37 f38 f39 f40 f41 f42 f43 f44 f45 f46 f47 f48 f49 co tb : Addr} {eo : Value} {eoD : Option Addr} {us : Array Value} {usl : Array (Option Value)}
    (X : K.In h) (G : h.Ns mainGlobals mg) (hfa : mg "law" = some (.ref fa)) (em : Empt q K h)
    {dT : Addr} {oT : Obj} {mT : Nat} {nmCY qCY : Str} {NCY : Addr} {bsCY : List Value} {snCY : List Str} {subCY : List Value} {abCY : Bool} {colCY : Option Bool} {ddCY : Option Addr} {m0CY m1CY m2CY m3CY m5CY : Option Value} {nmCP qCP : Str} {NCP : Addr} {bsCP : List Value} {snCP : List Str} {subCP : List Value} {abCP : Bool} {colCP : Option Bool} {ddCP : Option Addr} {m0CP m1CP m2CP m3CP m5CP : Option Value} {nmCN qCN : Str} {NCN : Addr} {bsCN : List Value} {snCN : List Str} {subCN : List Value} {abCN : Bool} {colCN : Option Bool} {ddCN : Option Addr} {m0CN m1CN m2CN m3CN m5CN : Option Value} {nmCW qCW : Str} {NCW : Addr} {bsCW : List Value} {snCW : List Str} {subCW : List Value} {abCW : Bool} {colCW : Option Bool} {ddCW : Option Addr} {m0CW m1CW m2CW m3CW m5CW : Option Value} {nmCM qCM : Str} {NCM : Addr} {bsCM : List Value} {snCM : List Str} {subCM : List Value} {abCM : Bool} {colCM : Option Bool} {ddCM : Option Addr} {m0CM m1CM m2CM m3CM m5CM : Option Value} {nmCT qCT : Str} {NCT : Addr} {bsCT : List Value} {snCT : List Str} {subCT : List Value} {abCT : Bool} {colCT : Option Bool} {ddCT : Option Addr} {m0CT m1CT m2CT m3CT m5CT : Option Value} {nmCE qCE : Str} {NCE : Addr} {bsCE : List Value} {snCE : List Str} {subCE : List Value} {abCE : Bool} {colCE : Option Bool} {ddCE : Option Addr} {m0CE m1CE m2CE m3CE m5CE : Option Value} {nmCL qCL : Str} {NCL : Addr} {bsCL : List Value} {snCL : List Str} {subCL : List Value} {abCL : Bool} {colCL : Option Bool} {ddCL : Option Addr} {m0CL m1CL m2CL m3CL m5CL : Option Value} {oSI oSO : Obj} {zl0 zl1 zp0 zp1 zp2 : Str} {kl0 kl1 kp0 kp1 kp2 : Tok} {nSI nSO : Nat} {od1 an1 : Option Addr} {sl1 : Array (Option Value)} {oc1 kV1 dc1 pm1 cd1 ct1 : Value} {od2 an2 : Option Addr} {sl2 : Array (Option Value)} {oc2 kV2 dc2 pm2 cd2 ct2 : Value} {od3 an3 : Option Addr} {sl3 : Array (Option Value)} {oc3 kV3 dc3 pm3 cd3 ct3 : Value} {od4 an4 : Option Addr} {sl4 : Array (Option Value)} {oc4 kV4 dc4 pm4 cd4 ct4 : Value} {od5 an5 : Option Addr} {sl5 : Array (Option Value)} {oc5 kV5 dc5 pm5 cd5 ct5 : Value} {od6 an6 : Option Addr} {sl6 : Array (Option Value)} {oc6 kV6 dc6 pm6 cd6 ct6 : Value} {od7 an7 : Option Addr} {sl7 : Array (Option Value)} {oc7 kV7 dc7 pm7 cd7 ct7 : Value} {od8 an8 : Option Addr} {sl8 : Array (Option Value)} {oc8 kV8 dc8 pm8 cd8 ct8 : Value} {od9 an9 : Option Addr} {sl9 : Array (Option Value)} {oc9 kV9 dc9 pm9 cd9 ct9 : Value} {od10 an10 : Option Addr} {sl10 : Array (Option Value)} {oc10 kV10 dc10 pm10 cd10 ct10 : Value} {od11 an11 : Option Addr} {sl11 : Array (Option Value)} {oc11 kV11 dc11 pm11 ct11 : Value} {od12 an12 : Option Addr} {sl12 : Array (Option Value)} {oc12 kV12 dc12 pm12 cd12 ct12 : Value} {od13 an13 : Option Addr} {sl13 : Array (Option Value)} {oc13 kV13 dc13 pm13 cd13 ct13 : Value} {od14 an14 : Option Addr} {sl14 : Array (Option Value)} {oc14 kV14 dc14 pm14 cd14 ct14 : Value} {od15 an15 : Option Addr} {sl15 : Array (Option Value)} {oc15 kV15 dc15 pm15 cd15 ct15 : Value} {od16 an16 : Option Addr} {sl16 : Array (Option Value)} {oc16 kV16 dc16 pm16 cd16 ct16 : Value} {od17 an17 : Option Addr} {sl17 : Array (Option Value)} {oc17 kV17 dc17 pm17 cd17 ct17 : Value} {od18 an18 : Option Addr} {sl18 : Array (Option Value)} {oc18 kV18 dc18 pm18 cd18 ct18 : Value} {od19 an19 : Option Addr} {sl19 : Array (Option Value)} {oc19 kV19 dc19 pm19 cd19 ct19 : Value} {od20 an20 : Option Addr} {sl20 : Array (Option Value)} {oc20 kV20 dc20 pm20 cd20 ct20 : Value} {od21 an21 : Option Addr} {sl21 : Array (Option Value)} {oc21 kV21 dc21 pm21 cd21 ct21 : Value} {od22 an22 : Option Addr} {sl22 : Array (Option Value)} {oc22 kV22 dc22 pm22 cd22 ct22 : Value} {od23 an23 : Option Addr} {sl23 : Array (Option Value)} {oc23 kV23 dc23 pm23 cd23 ct23 : Value} {od24 an24 : Option Addr} {sl24 : Array (Option Value)} {oc24 kV24 dc24 pm24 cd24 ct24 : Value} {od25 an25 : Option Addr} {sl25 : Array (Option Value)} {oc25 kV25 dc25 pm25 cd25 ct25 : Value} {od26 an26 : Option Addr} {sl26 : Array (Option Value)} {oc26 kV26 dc26 pm26 cd26 ct26 : Value} {od27 an27 : Option Addr} {sl27 : Array (Option Value)} {oc27 kV27 dc27 pm27 cd27 ct27 : Value} {od28 an28 : Option Addr} {sl28 : Array (Option Value)} {oc28 kV28 dc28 pm28 cd28 ct28 : Value} {od29 an29 : Option Addr} {sl29 : Array (Option Value)} {oc29 kV29 dc29 pm29 cd29 ct29 : Value} {od30 an30 : Option Addr} {sl30 : Array (Option Value)} {oc30 kV30 dc30 pm30 cd30 ct30 : Value} {od31 an31 : Option Addr} {sl31 : Array (Option Value)} {oc31 kV31 dc31 pm31 cd31 ct31 : Value} {od32 an32 : Option Addr} {sl32 : Array (Option Value)} {oc32 kV32 dc32 pm32 cd32 ct32 : Value} {od33 an33 : Option Addr} {sl33 : Array (Option Value)} {oc33 kV33 dc33 pm33 cd33 ct33 : Value} {od34 an34 : Option Addr} {sl34 : Array (Option Value)} {oc34 kV34 dc34 pm34 cd34 ct34 : Value} {od35 an35 : Option Addr} {sl35 : Array (Option Value)} {oc35 kV35 dc35 pm35 cd35 ct35 : Value} {od36 an36 : Option Addr} {sl36 : Array (Option Value)} {oc36 kV36 dc36 pm36 cd36 ct36 : Value} {od37 an37 : Option Addr} {sl37 : Array (Option Value)} {oc37 kV37 dc37 pm37 cd37 ct37 : Value} {od38 an38 : Option Addr} {sl38 : Array (Option Value)} {oc38 kV38 dc38 pm38 cd38 ct38 : Value} {od39 an39 : Option Addr} {sl39 : Array (Option Value)} {oc39 kV39 dc39 pm39 cd39 ct39 : Value} {od40 an40 : Option Addr} {sl40 : Array (Option Value)} {oc40 kV40 dc40 pm40 cd40 ct40 : Value} {od41 an41 : Option Addr} {sl41 : Array (Option Value)} {oc41 kV41 dc41 pm41 cd41 ct41 : Value} {od42 an42 : Option Addr} {sl42 : Array (Option Value)} {oc42 kV42 dc42 pm42 cd42 ct42 : Value} {od43 an43 : Option Addr} {sl43 : Array (Option Value)} {oc43 kV43 dc43 pm43 cd43 ct43 : Value} {od44 an44 : Option Addr} {sl44 : Array (Option Value)} {oc44 kV44 dc44 pm44 cd44 ct44 : Value} {od45 an45 : Option Addr} {sl45 : Array (Option Value)} {oc45 kV45 dc45 pm45 cd45 ct45 : Value} {od46 an46 : Option Addr} {sl46 : Array (Option Value)} {oc46 kV46 dc46 pm46 cd46 ct46 : Value} {od47 an47 : Option Addr} {sl47 : Array (Option Value)} {oc47 kV47 dc47 pm47 cd47 ct47 : Value} {od48 an48 : Option Addr} {sl48 : Array (Option Value)} {oc48 kV48 dc48 pm48 cd48 ct48 : Value} {od49 an49 : Option Addr} {sl49 : Array (Option Value)} {oc49 kV49 dc49 pm49 cd49 ct49 : Value}
    (aC : PySem.W.nsIn K mainGlobals "Line" = some (some (.ref C))) (pgC : PySem.W.plainGet K C Str.empty = true) (hdC : PySem.W.hasDictIn K C = true) (poC : PySem.W.plainOver K C = true) (saC : PySem.W.findIn K (.ref C) "__setattr__" = some (some (.builtin "object.__setattr__"))) (mkC : PySem.W.makesIn K C = true) (kcC : PySem.W.keepIn K (.ref C) = true) (n0C : PySem.W.findIn K (.ref C) "_places" = some none) (n1C : PySem.W.findIn K (.ref C) "_stretches" = some none) (n2C : PySem.W.findIn K (.ref C) "_longs" = some none) (n3C : PySem.W.findIn K (.ref C) "_numbers" = some none) (aCY : PySem.W.nsIn K mainGlobals "NoText" = some (some (.ref CY))) (xlCY : K.lookup CY = some (excClassObj nmCY qCY CY NCY bsCY [.ref CS, .type "ValueError", .type "Exception", .type "BaseException", .type "object"] true snCY subCY abCY colCY ddCY m0CY m1CY m2CY m3CY m5CY "ValueError.__new__")) (saCY : PySem.W.findIn K (.ref CY) "__setattr__" = some (some (.builtin "object.__setattr__"))) (gaCY : PySem.W.findIn K (.ref CY) "__getattribute__" = some (some (.builtin "BaseException.__getattribute__"))) (ggCY : PySem.W.findIn K (.ref CY) "__getattr__" = some none) (kcCY : PySem.W.keepIn K (.ref CY) = true) (exCY : PySem.W.subIn K (.ref CY) (.type "BaseException") = some true) (tyCY : PySem.W.typeIn K (.ref CY) = some (.type "type")) (hdCY : PySem.W.hasDictIn K CY = true) (icCY : PySem.W.isClsIn K CY = true) (coCY : PySem.W.findIn K (.ref CY) "__class__" = some (some (.builtin "object.__class__"))) (moCY : PySem.W.mroIn K CY (.type "object") = some true) (n0CY : PySem.W.findIn K (.ref CY) "row" = some none) (aCP : PySem.W.nsIn K mainGlobals "NoPlaces" = some (some (.ref CP))) (xlCP : K.lookup CP = some (excClassObj nmCP qCP CP NCP bsCP [.ref CS, .type "ValueError", .type "Exception", .type "BaseException", .type "object"] true snCP subCP abCP colCP ddCP m0CP m1CP m2CP m3CP m5CP "ValueError.__new__")) (saCP : PySem.W.findIn K (.ref CP) "__setattr__" = some (some (.builtin "object.__setattr__"))) (gaCP : PySem.W.findIn K (.ref CP) "__getattribute__" = some (some (.builtin "BaseException.__getattribute__"))) (ggCP : PySem.W.findIn K (.ref CP) "__getattr__" = some none) (kcCP : PySem.W.keepIn K (.ref CP) = true) (exCP : PySem.W.subIn K (.ref CP) (.type "BaseException") = some true) (tyCP : PySem.W.typeIn K (.ref CP) = some (.type "type")) (hdCP : PySem.W.hasDictIn K CP = true) (icCP : PySem.W.isClsIn K CP = true) (coCP : PySem.W.findIn K (.ref CP) "__class__" = some (some (.builtin "object.__class__"))) (moCP : PySem.W.mroIn K CP (.type "object") = some true) (n0CP : PySem.W.findIn K (.ref CP) "found" = some none) (aCN : PySem.W.nsIn K mainGlobals "NoName" = some (some (.ref CN))) (xlCN : K.lookup CN = some (excClassObj nmCN qCN CN NCN bsCN [.ref CS, .type "ValueError", .type "Exception", .type "BaseException", .type "object"] true snCN subCN abCN colCN ddCN m0CN m1CN m2CN m3CN m5CN "ValueError.__new__")) (saCN : PySem.W.findIn K (.ref CN) "__setattr__" = some (some (.builtin "object.__setattr__"))) (gaCN : PySem.W.findIn K (.ref CN) "__getattribute__" = some (some (.builtin "BaseException.__getattribute__"))) (ggCN : PySem.W.findIn K (.ref CN) "__getattr__" = some none) (kcCN : PySem.W.keepIn K (.ref CN) = true) (exCN : PySem.W.subIn K (.ref CN) (.type "BaseException") = some true) (tyCN : PySem.W.typeIn K (.ref CN) = some (.type "type")) (hdCN : PySem.W.hasDictIn K CN = true) (icCN : PySem.W.isClsIn K CN = true) (coCN : PySem.W.findIn K (.ref CN) "__class__" = some (some (.builtin "object.__class__"))) (moCN : PySem.W.mroIn K CN (.type "object") = some true) (n0CN : PySem.W.findIn K (.ref CN) "found" = some none) (aCW : PySem.W.nsIn K mainGlobals "Twice" = some (some (.ref CW))) (xlCW : K.lookup CW = some (excClassObj nmCW qCW CW NCW bsCW [.ref CS, .type "ValueError", .type "Exception", .type "BaseException", .type "object"] true snCW subCW abCW colCW ddCW m0CW m1CW m2CW m3CW m5CW "ValueError.__new__")) (saCW : PySem.W.findIn K (.ref CW) "__setattr__" = some (some (.builtin "object.__setattr__"))) (gaCW : PySem.W.findIn K (.ref CW) "__getattribute__" = some (some (.builtin "BaseException.__getattribute__"))) (ggCW : PySem.W.findIn K (.ref CW) "__getattr__" = some none) (kcCW : PySem.W.keepIn K (.ref CW) = true) (exCW : PySem.W.subIn K (.ref CW) (.type "BaseException") = some true) (tyCW : PySem.W.typeIn K (.ref CW) = some (.type "type")) (hdCW : PySem.W.hasDictIn K CW = true) (icCW : PySem.W.isClsIn K CW = true) (coCW : PySem.W.findIn K (.ref CW) "__class__" = some (some (.builtin "object.__class__"))) (moCW : PySem.W.mroIn K CW (.type "object") = some true) (n0CW : PySem.W.findIn K (.ref CW) "found" = some none) (aCM : PySem.W.nsIn K mainGlobals "NoNumber" = some (some (.ref CM))) (xlCM : K.lookup CM = some (excClassObj nmCM qCM CM NCM bsCM [.ref CS, .type "ValueError", .type "Exception", .type "BaseException", .type "object"] true snCM subCM abCM colCM ddCM m0CM m1CM m2CM m3CM m5CM "ValueError.__new__")) (saCM : PySem.W.findIn K (.ref CM) "__setattr__" = some (some (.builtin "object.__setattr__"))) (gaCM : PySem.W.findIn K (.ref CM) "__getattribute__" = some (some (.builtin "BaseException.__getattribute__"))) (ggCM : PySem.W.findIn K (.ref CM) "__getattr__" = some none) (kcCM : PySem.W.keepIn K (.ref CM) = true) (exCM : PySem.W.subIn K (.ref CM) (.type "BaseException") = some true) (tyCM : PySem.W.typeIn K (.ref CM) = some (.type "type")) (hdCM : PySem.W.hasDictIn K CM = true) (icCM : PySem.W.isClsIn K CM = true) (coCM : PySem.W.findIn K (.ref CM) "__class__" = some (some (.builtin "object.__class__"))) (moCM : PySem.W.mroIn K CM (.type "object") = some true) (n0CM : PySem.W.findIn K (.ref CM) "found" = some none) (aCT : PySem.W.nsIn K mainGlobals "NoStretches" = some (some (.ref CT))) (xlCT : K.lookup CT = some (excClassObj nmCT qCT CT NCT bsCT [.ref CS, .type "ValueError", .type "Exception", .type "BaseException", .type "object"] true snCT subCT abCT colCT ddCT m0CT m1CT m2CT m3CT m5CT "ValueError.__new__")) (saCT : PySem.W.findIn K (.ref CT) "__setattr__" = some (some (.builtin "object.__setattr__"))) (gaCT : PySem.W.findIn K (.ref CT) "__getattribute__" = some (some (.builtin "BaseException.__getattribute__"))) (ggCT : PySem.W.findIn K (.ref CT) "__getattr__" = some none) (kcCT : PySem.W.keepIn K (.ref CT) = true) (exCT : PySem.W.subIn K (.ref CT) (.type "BaseException") = some true) (tyCT : PySem.W.typeIn K (.ref CT) = some (.type "type")) (hdCT : PySem.W.hasDictIn K CT = true) (icCT : PySem.W.isClsIn K CT = true) (coCT : PySem.W.findIn K (.ref CT) "__class__" = some (some (.builtin "object.__class__"))) (moCT : PySem.W.mroIn K CT (.type "object") = some true) (n0CT : PySem.W.findIn K (.ref CT) "found" = some none) (aCE : PySem.W.nsIn K mainGlobals "NoPlace" = some (some (.ref CE))) (xlCE : K.lookup CE = some (excClassObj nmCE qCE CE NCE bsCE [.ref CS, .type "ValueError", .type "Exception", .type "BaseException", .type "object"] true snCE subCE abCE colCE ddCE m0CE m1CE m2CE m3CE m5CE "ValueError.__new__")) (saCE : PySem.W.findIn K (.ref CE) "__setattr__" = some (some (.builtin "object.__setattr__"))) (gaCE : PySem.W.findIn K (.ref CE) "__getattribute__" = some (some (.builtin "BaseException.__getattribute__"))) (ggCE : PySem.W.findIn K (.ref CE) "__getattr__" = some none) (kcCE : PySem.W.keepIn K (.ref CE) = true) (exCE : PySem.W.subIn K (.ref CE) (.type "BaseException") = some true) (tyCE : PySem.W.typeIn K (.ref CE) = some (.type "type")) (hdCE : PySem.W.hasDictIn K CE = true) (icCE : PySem.W.isClsIn K CE = true) (coCE : PySem.W.findIn K (.ref CE) "__class__" = some (some (.builtin "object.__class__"))) (moCE : PySem.W.mroIn K CE (.type "object") = some true) (n0CE : PySem.W.findIn K (.ref CE) "found" = some none) (aCL : PySem.W.nsIn K mainGlobals "NoLongs" = some (some (.ref CL))) (xlCL : K.lookup CL = some (excClassObj nmCL qCL CL NCL bsCL [.ref CS, .type "ValueError", .type "Exception", .type "BaseException", .type "object"] true snCL subCL abCL colCL ddCL m0CL m1CL m2CL m3CL m5CL "ValueError.__new__")) (saCL : PySem.W.findIn K (.ref CL) "__setattr__" = some (some (.builtin "object.__setattr__"))) (gaCL : PySem.W.findIn K (.ref CL) "__getattribute__" = some (some (.builtin "BaseException.__getattribute__"))) (ggCL : PySem.W.findIn K (.ref CL) "__getattr__" = some none) (kcCL : PySem.W.keepIn K (.ref CL) = true) (exCL : PySem.W.subIn K (.ref CL) (.type "BaseException") = some true) (tyCL : PySem.W.typeIn K (.ref CL) = some (.type "type")) (hdCL : PySem.W.hasDictIn K CL = true) (icCL : PySem.W.isClsIn K CL = true) (coCL : PySem.W.findIn K (.ref CL) "__class__" = some (some (.builtin "object.__class__"))) (moCL : PySem.W.mroIn K CL (.type "object") = some true) (n0CL : PySem.W.findIn K (.ref CL) "found" = some none) (a1 : PySem.W.findIn K (.ref CS) "__init__" = some (some (.ref f1))) (i1 : PySem.W.isFn K (.ref f1) = true) (l1 : K.lookup f1 = some ⟨oc1, od1, .func (PySem.W.fnOf "__init__" "StaffError.__init__" (defArgs sSE) (defBody sSE) (defScope sSE) .none kV1 dc1 pm1 an1 cd1 ct1), sl1⟩) (c1 : PySem.W.codeIn K cd1 "StaffError.__init__" = true) (k1 : PySem.W.keepIn K (.ref f1) = true) (a2 : PySem.W.findIn K (.ref CY) "__init__" = some (some (.ref f2))) (i2 : PySem.W.isFn K (.ref f2) = true) (l2 : K.lookup f2 = some ⟨oc2, od2, .func (PySem.W.fnOf "__init__" "NoText.__init__" (defArgs sNoText) (defBody sNoText) (defScope sNoText) .none kV2 dc2 pm2 an2 cd2 ct2), sl2⟩) (c2 : PySem.W.codeIn K cd2 "NoText.__init__" = true) (k2 : PySem.W.keepIn K (.ref f2) = true) (a3 : PySem.W.findIn K (.ref CP) "__init__" = some (some (.ref f3))) (i3 : PySem.W.isFn K (.ref f3) = true) (l3 : K.lookup f3 = some ⟨oc3, od3, .func (PySem.W.fnOf "__init__" "NoPlaces.__init__" (defArgs sNoPlaces) (defBody sNoPlaces) (defScope sNoPlaces) .none kV3 dc3 pm3 an3 cd3 ct3), sl3⟩) (c3 : PySem.W.codeIn K cd3 "NoPlaces.__init__" = true) (k3 : PySem.W.keepIn K (.ref f3) = true) (a4 : PySem.W.findIn K (.ref CN) "__init__" = some (some (.ref f4))) (i4 : PySem.W.isFn K (.ref f4) = true) (l4 : K.lookup f4 = some ⟨oc4, od4, .func (PySem.W.fnOf "__init__" "NoName.__init__" (defArgs sNoName) (defBody sNoName) (defScope sNoName) .none kV4 dc4 pm4 an4 cd4 ct4), sl4⟩) (c4 : PySem.W.codeIn K cd4 "NoName.__init__" = true) (k4 : PySem.W.keepIn K (.ref f4) = true) (a5 : PySem.W.findIn K (.ref CW) "__init__" = some (some (.ref f5))) (i5 : PySem.W.isFn K (.ref f5) = true) (l5 : K.lookup f5 = some ⟨oc5, od5, .func (PySem.W.fnOf "__init__" "Twice.__init__" (defArgs sTwice) (defBody sTwice) (defScope sTwice) .none kV5 dc5 pm5 an5 cd5 ct5), sl5⟩) (c5 : PySem.W.codeIn K cd5 "Twice.__init__" = true) (k5 : PySem.W.keepIn K (.ref f5) = true) (a6 : PySem.W.findIn K (.ref CM) "__init__" = some (some (.ref f6))) (i6 : PySem.W.isFn K (.ref f6) = true) (l6 : K.lookup f6 = some ⟨oc6, od6, .func (PySem.W.fnOf "__init__" "NoNumber.__init__" (defArgs sNoNumber) (defBody sNoNumber) (defScope sNoNumber) .none kV6 dc6 pm6 an6 cd6 ct6), sl6⟩) (c6 : PySem.W.codeIn K cd6 "NoNumber.__init__" = true) (k6 : PySem.W.keepIn K (.ref f6) = true) (a7 : PySem.W.findIn K (.ref CT) "__init__" = some (some (.ref f7))) (i7 : PySem.W.isFn K (.ref f7) = true) (l7 : K.lookup f7 = some ⟨oc7, od7, .func (PySem.W.fnOf "__init__" "NoStretches.__init__" (defArgs sNoStretches) (defBody sNoStretches) (defScope sNoStretches) .none kV7 dc7 pm7 an7 cd7 ct7), sl7⟩) (c7 : PySem.W.codeIn K cd7 "NoStretches.__init__" = true) (k7 : PySem.W.keepIn K (.ref f7) = true) (a8 : PySem.W.findIn K (.ref CE) "__init__" = some (some (.ref f8))) (i8 : PySem.W.isFn K (.ref f8) = true) (l8 : K.lookup f8 = some ⟨oc8, od8, .func (PySem.W.fnOf "__init__" "NoPlace.__init__" (defArgs sNoPlace) (defBody sNoPlace) (defScope sNoPlace) .none kV8 dc8 pm8 an8 cd8 ct8), sl8⟩) (c8 : PySem.W.codeIn K cd8 "NoPlace.__init__" = true) (k8 : PySem.W.keepIn K (.ref f8) = true) (a9 : PySem.W.findIn K (.ref CL) "__init__" = some (some (.ref f9))) (i9 : PySem.W.isFn K (.ref f9) = true) (l9 : K.lookup f9 = some ⟨oc9, od9, .func (PySem.W.fnOf "__init__" "NoLongs.__init__" (defArgs sNoLongs) (defBody sNoLongs) (defScope sNoLongs) .none kV9 dc9 pm9 an9 cd9 ct9), sl9⟩) (c9 : PySem.W.codeIn K cd9 "NoLongs.__init__" = true) (k9 : PySem.W.keepIn K (.ref f9) = true) (a10 : PySem.W.nsIn K mainGlobals "is_whole" = some (some (.ref f10))) (l10 : K.lookup f10 = some ⟨oc10, od10, .func (PySem.W.fnOf "is_whole" "is_whole" (defArgs sWhole) (defBody sWhole) (defScope sWhole) .none kV10 dc10 pm10 an10 cd10 ct10), sl10⟩) (c10 : PySem.W.codeIn K cd10 "is_whole" = true) (k10 : PySem.W.keepIn K (.ref f10) = true) (a11 : PySem.W.nsIn K mainGlobals "is_name" = some (some (.ref f11))) (l11 : K.lookup f11 = some ⟨oc11, od11, .func (PySem.W.fnOf "is_name" "is_name" (defArgs sName) (defBody sName) (defScope sName) .none kV11 dc11 pm11 an11 (.ref co) ct11), sl11⟩) (c11 : PySem.W.codeIn K (.ref co) "is_name" = true) (k11 : PySem.W.keepIn K (.ref f11) = true) (a12 : PySem.W.nsIn K mainGlobals "is_list" = some (some (.ref f12))) (l12 : K.lookup f12 = some ⟨oc12, od12, .func (PySem.W.fnOf "is_list" "is_list" (defArgs s_is_list) (defBody s_is_list) (defScope s_is_list) .none kV12 dc12 pm12 an12 cd12 ct12), sl12⟩) (c12 : PySem.W.codeIn K cd12 "is_list" = true) (k12 : PySem.W.keepIn K (.ref f12) = true) (a13 : PySem.W.nsIn K mainGlobals "is_tuple" = some (some (.ref f13))) (l13 : K.lookup f13 = some ⟨oc13, od13, .func (PySem.W.fnOf "is_tuple" "is_tuple" (defArgs s_is_tuple) (defBody s_is_tuple) (defScope s_is_tuple) .none kV13 dc13 pm13 an13 cd13 ct13), sl13⟩) (c13 : PySem.W.codeIn K cd13 "is_tuple" = true) (k13 : PySem.W.keepIn K (.ref f13) = true) (a14 : PySem.W.nsIn K mainGlobals "rows_of" = some (some (.ref f14))) (l14 : K.lookup f14 = some ⟨oc14, od14, .func (PySem.W.fnOf "rows_of" "rows_of" (defArgs s_rows_of) (defBody s_rows_of) (defScope s_rows_of) .none kV14 dc14 pm14 an14 cd14 ct14), sl14⟩) (c14 : PySem.W.codeIn K cd14 "rows_of" = true) (k14 : PySem.W.keepIn K (.ref f14) = true) (a15 : PySem.W.nsIn K mainGlobals "_check_place" = some (some (.ref f15))) (l15 : K.lookup f15 = some ⟨oc15, od15, .func (PySem.W.fnOf "_check_place" "_check_place" (defArgs s_check_place) (defBody s_check_place) (defScope s_check_place) .none kV15 dc15 pm15 an15 cd15 ct15), sl15⟩) (c15 : PySem.W.codeIn K cd15 "_check_place" = true) (k15 : PySem.W.keepIn K (.ref f15) = true) (a16 : PySem.W.nsIn K mainGlobals "_check_places" = some (some (.ref f16))) (l16 : K.lookup f16 = some ⟨oc16, od16, .func (PySem.W.fnOf "_check_places" "_check_places" (defArgs s_check_places) (defBody s_check_places) (defScope s_check_places) .none kV16 dc16 pm16 an16 cd16 ct16), sl16⟩) (c16 : PySem.W.codeIn K cd16 "_check_places" = true) (k16 : PySem.W.keepIn K (.ref f16) = true) (a17 : PySem.W.nsIn K mainGlobals "is_stretch_lines" = some (some (.ref f17))) (l17 : K.lookup f17 = some ⟨oc17, od17, .func (PySem.W.fnOf "_is_stretch" "_is_stretch" (defArgs s_is_stretch_lines) (defBody s_is_stretch_lines) (defScope s_is_stretch_lines) .none kV17 dc17 pm17 an17 cd17 ct17), sl17⟩) (c17 : PySem.W.codeIn K cd17 "_is_stretch" = true) (k17 : PySem.W.keepIn K (.ref f17) = true) (a18 : PySem.W.nsIn K mainGlobals "_check_stretches" = some (some (.ref f18))) (l18 : K.lookup f18 = some ⟨oc18, od18, .func (PySem.W.fnOf "_check_stretches" "_check_stretches" (defArgs s_check_stretches) (defBody s_check_stretches) (defScope s_check_stretches) .none kV18 dc18 pm18 an18 cd18 ct18), sl18⟩) (c18 : PySem.W.codeIn K cd18 "_check_stretches" = true) (k18 : PySem.W.keepIn K (.ref f18) = true) (a19 : PySem.W.nsIn K mainGlobals "is_long_lines" = some (some (.ref f19))) (l19 : K.lookup f19 = some ⟨oc19, od19, .func (PySem.W.fnOf "_is_long" "_is_long" (defArgs s_is_long_lines) (defBody s_is_long_lines) (defScope s_is_long_lines) .none kV19 dc19 pm19 an19 cd19 ct19), sl19⟩) (c19 : PySem.W.codeIn K cd19 "_is_long" = true) (k19 : PySem.W.keepIn K (.ref f19) = true) (a20 : PySem.W.nsIn K mainGlobals "_check_longs" = some (some (.ref f20))) (l20 : K.lookup f20 = some ⟨oc20, od20, .func (PySem.W.fnOf "_check_longs" "_check_longs" (defArgs s_check_longs) (defBody s_check_longs) (defScope s_check_longs) .none kV20 dc20 pm20 an20 cd20 ct20), sl20⟩) (c20 : PySem.W.codeIn K cd20 "_check_longs" = true) (k20 : PySem.W.keepIn K (.ref f20) = true) (a21 : PySem.W.findIn K (.ref C) "__init__" = some (some (.ref f21))) (i21 : PySem.W.isFn K (.ref f21) = true) (l21 : K.lookup f21 = some ⟨oc21, od21, .func (PySem.W.fnOf "__init__" "Line.__init__" (defArgs s_init) (defBody s_init) (defScope s_init) (.ref dT) kV21 dc21 pm21 an21 cd21 ct21), sl21⟩) (c21 : PySem.W.codeIn K cd21 "Line.__init__" = true) (k21 : PySem.W.keepIn K (.ref f21) = true) (a22 : PySem.W.findIn K (.ref C) "number_of" = some (some (.ref f22))) (i22 : PySem.W.isFn K (.ref f22) = true) (l22 : K.lookup f22 = some ⟨oc22, od22, .func (PySem.W.fnOf "number_of" "Line.number_of" (defArgs s_number_of) (defBody s_number_of) (defScope s_number_of) .none kV22 dc22 pm22 an22 cd22 ct22), sl22⟩) (c22 : PySem.W.codeIn K cd22 "Line.number_of" = true) (k22 : PySem.W.keepIn K (.ref f22) = true) (a23 : PySem.W.findIn K (.ref C) "told" = some (some (.ref f23))) (i23 : PySem.W.isFn K (.ref f23) = true) (l23 : K.lookup f23 = some ⟨oc23, od23, .func (PySem.W.fnOf "told" "Line.told" (defArgs s_told) (defBody s_told) (defScope s_told) .none kV23 dc23 pm23 an23 cd23 ct23), sl23⟩) (c23 : PySem.W.codeIn K cd23 "Line.told" = true) (k23 : PySem.W.keepIn K (.ref f23) = true) (a24 : PySem.W.nsIn K mainGlobals "_is_place" = some (some (.ref f24))) (l24 : K.lookup f24 = some ⟨oc24, od24, .func (PySem.W.fnOf "_is_place" "_is_place" (defArgs s_is_place) (defBody s_is_place) (defScope s_is_place) .none kV24 dc24 pm24 an24 cd24 ct24), sl24⟩) (c24 : PySem.W.codeIn K cd24 "_is_place" = true) (k24 : PySem.W.keepIn K (.ref f24) = true) (a25 : PySem.W.nsIn K mainGlobals "is_stretch_linetext" = some (some (.ref f25))) (l25 : K.lookup f25 = some ⟨oc25, od25, .func (PySem.W.fnOf "_is_stretch" "_is_stretch" (defArgs s_is_stretch_linetext) (defBody s_is_stretch_linetext) (defScope s_is_stretch_linetext) .none kV25 dc25 pm25 an25 cd25 ct25), sl25⟩) (c25 : PySem.W.codeIn K cd25 "_is_stretch" = true) (k25 : PySem.W.keepIn K (.ref f25) = true) (a26 : PySem.W.nsIn K mainGlobals "is_long_linetext" = some (some (.ref f26))) (l26 : K.lookup f26 = some ⟨oc26, od26, .func (PySem.W.fnOf "_is_long" "_is_long" (defArgs s_is_long_linetext) (defBody s_is_long_linetext) (defScope s_is_long_linetext) .none kV26 dc26 pm26 an26 cd26 ct26), sl26⟩) (c26 : PySem.W.codeIn K cd26 "_is_long" = true) (k26 : PySem.W.keepIn K (.ref f26) = true) (a27 : PySem.W.nsIn K mainGlobals "line_sort" = some (some (.ref f27))) (l27 : K.lookup f27 = some ⟨oc27, od27, .func (PySem.W.fnOf "line_sort" "line_sort" (defArgs s_line_sort) (defBody s_line_sort) (defScope s_line_sort) .none kV27 dc27 pm27 an27 cd27 ct27), sl27⟩) (c27 : PySem.W.codeIn K cd27 "line_sort" = true) (k27 : PySem.W.keepIn K (.ref f27) = true) (a28 : PySem.W.nsIn K mainGlobals "_long_of_words" = some (some (.ref f28))) (l28 : K.lookup f28 = some ⟨oc28, od28, .func (PySem.W.fnOf "_long_of_words" "_long_of_words" (defArgs s_long_of_words) (defBody s_long_of_words) (defScope s_long_of_words) .none kV28 dc28 pm28 an28 cd28 ct28), sl28⟩) (c28 : PySem.W.codeIn K cd28 "_long_of_words" = true) (k28 : PySem.W.keepIn K (.ref f28) = true) (a29 : PySem.W.nsIn K mainGlobals "line_of_rows" = some (some (.ref f29))) (l29 : K.lookup f29 = some ⟨oc29, od29, .func (PySem.W.fnOf "line_of_rows" "line_of_rows" (defArgs s_line_of_rows) (defBody s_line_of_rows) (defScope s_line_of_rows) .none kV29 dc29 pm29 an29 cd29 ct29), sl29⟩) (c29 : PySem.W.codeIn K cd29 "line_of_rows" = true) (k29 : PySem.W.keepIn K (.ref f29) = true) (a30 : PySem.W.nsIn K mainGlobals "read_line" = some (some (.ref f30))) (l30 : K.lookup f30 = some ⟨oc30, od30, .func (PySem.W.fnOf "read_line" "read_line" (defArgs s_read_line) (defBody s_read_line) (defScope s_read_line) .none kV30 dc30 pm30 an30 cd30 ct30), sl30⟩) (c30 : PySem.W.codeIn K cd30 "read_line" = true) (k30 : PySem.W.keepIn K (.ref f30) = true) (a31 : PySem.W.nsIn K mainGlobals "_law_cell" = some (some (.ref f31))) (l31 : K.lookup f31 = some ⟨oc31, od31, .func (PySem.W.fnOf "_law_cell" "_law_cell" (defArgs sCell) (defBody sCell) (defScope sCell) .none kV31 dc31 pm31 an31 cd31 ct31), sl31⟩) (c31 : PySem.W.codeIn K cd31 "_law_cell" = true) (k31 : PySem.W.keepIn K (.ref f31) = true) (a32 : PySem.W.nsIn K mainGlobals "_law_box" = some (some (.ref f32))) (l32 : K.lookup f32 = some ⟨oc32, od32, .func (PySem.W.fnOf "_law_box" "_law_box" (defArgs sBox) (defBody sBox) (defScope sBox) .none kV32 dc32 pm32 an32 cd32 ct32), sl32⟩) (c32 : PySem.W.codeIn K cd32 "_law_box" = true) (k32 : PySem.W.keepIn K (.ref f32) = true) (a33 : PySem.W.nsIn K mainGlobals "_law_take" = some (some (.ref f33))) (l33 : K.lookup f33 = some ⟨oc33, od33, .func (PySem.W.fnOf "_law_take" "_law_take" (defArgs sTake) (defBody sTake) (defScope sTake) .none kV33 dc33 pm33 an33 cd33 ct33), sl33⟩) (c33 : PySem.W.codeIn K cd33 "_law_take" = true) (k33 : PySem.W.keepIn K (.ref f33) = true) (a34 : PySem.W.nsIn K mainGlobals "_law_names" = some (some (.ref f34))) (l34 : K.lookup f34 = some ⟨oc34, od34, .func (PySem.W.fnOf "_law_names" "_law_names" (defArgs s_law_names) (defBody s_law_names) (defScope s_law_names) .none kV34 dc34 pm34 an34 cd34 ct34), sl34⟩) (c34 : PySem.W.codeIn K cd34 "_law_names" = true) (k34 : PySem.W.keepIn K (.ref f34) = true) (a35 : PySem.W.nsIn K mainGlobals "_law_world" = some (some (.ref f35))) (l35 : K.lookup f35 = some ⟨oc35, od35, .func (PySem.W.fnOf "_law_world" "_law_world" (defArgs s_law_world) (defBody s_law_world) (defScope s_law_world) .none kV35 dc35 pm35 an35 cd35 ct35), sl35⟩) (c35 : PySem.W.codeIn K cd35 "_law_world" = true) (k35 : PySem.W.keepIn K (.ref f35) = true) (a36 : PySem.W.nsIn K mainGlobals "_law_is_name" = some (some (.ref f36))) (l36 : K.lookup f36 = some ⟨oc36, od36, .func (PySem.W.fnOf "_law_is_name" "_law_is_name" (defArgs s_law_is_name) (defBody s_law_is_name) (defScope s_law_is_name) .none kV36 dc36 pm36 an36 cd36 ct36), sl36⟩) (c36 : PySem.W.codeIn K cd36 "_law_is_name" = true) (k36 : PySem.W.keepIn K (.ref f36) = true) (a37 : PySem.W.nsIn K mainGlobals "_law_whole" = some (some (.ref f37))) (l37 : K.lookup f37 = some ⟨oc37, od37, .func (PySem.W.fnOf "_law_whole" "_law_whole" (defArgs s_law_whole) (defBody s_law_whole) (defScope s_law_whole) .none kV37 dc37 pm37 an37 cd37 ct37), sl37⟩) (c37 : PySem.W.codeIn K cd37 "_law_whole" = true) (k37 : PySem.W.keepIn K (.ref f37) = true) (a38 : PySem.W.nsIn K mainGlobals "_law_is_row" = some (some (.ref f38))) (l38 : K.lookup f38 = some ⟨oc38, od38, .func (PySem.W.fnOf "_law_is_row" "_law_is_row" (defArgs s_law_is_row) (defBody s_law_is_row) (defScope s_law_is_row) .none kV38 dc38 pm38 an38 cd38 ct38), sl38⟩) (c38 : PySem.W.codeIn K cd38 "_law_is_row" = true) (k38 : PySem.W.keepIn K (.ref f38) = true) (a39 : PySem.W.nsIn K mainGlobals "_law_places_due" = some (some (.ref f39))) (l39 : K.lookup f39 = some ⟨oc39, od39, .func (PySem.W.fnOf "_law_places_due" "_law_places_due" (defArgs s_law_places_due) (defBody s_law_places_due) (defScope s_law_places_due) .none kV39 dc39 pm39 an39 cd39 ct39), sl39⟩) (c39 : PySem.W.codeIn K cd39 "_law_places_due" = true) (k39 : PySem.W.keepIn K (.ref f39) = true) (a40 : PySem.W.nsIn K mainGlobals "_law_due" = some (some (.ref f40))) (l40 : K.lookup f40 = some ⟨oc40, od40, .func (PySem.W.fnOf "_law_due" "_law_due" (defArgs s_law_due) (defBody s_law_due) (defScope s_law_due) .none kV40 dc40 pm40 an40 cd40 ct40), sl40⟩) (c40 : PySem.W.codeIn K cd40 "_law_due" = true) (k40 : PySem.W.keepIn K (.ref f40) = true) (a41 : PySem.W.nsIn K mainGlobals "_law_rows" = some (some (.ref f41))) (l41 : K.lookup f41 = some ⟨oc41, od41, .func (PySem.W.fnOf "_law_rows" "_law_rows" (defArgs s_law_rows) (defBody s_law_rows) (defScope s_law_rows) .none kV41 dc41 pm41 an41 cd41 ct41), sl41⟩) (c41 : PySem.W.codeIn K cd41 "_law_rows" = true) (k41 : PySem.W.keepIn K (.ref f41) = true) (a42 : PySem.W.nsIn K mainGlobals "_law_signs" = some (some (.ref f42))) (l42 : K.lookup f42 = some ⟨oc42, od42, .func (PySem.W.fnOf "_law_signs" "_law_signs" (defArgs s_law_signs) (defBody s_law_signs) (defScope s_law_signs) .none kV42 dc42 pm42 an42 cd42 ct42), sl42⟩) (c42 : PySem.W.codeIn K cd42 "_law_signs" = true) (k42 : PySem.W.keepIn K (.ref f42) = true) (a43 : PySem.W.nsIn K mainGlobals "_law_word" = some (some (.ref f43))) (l43 : K.lookup f43 = some ⟨oc43, od43, .func (PySem.W.fnOf "_law_word" "_law_word" (defArgs s_law_word) (defBody s_law_word) (defScope s_law_word) .none kV43 dc43 pm43 an43 cd43 ct43), sl43⟩) (c43 : PySem.W.codeIn K cd43 "_law_word" = true) (k43 : PySem.W.keepIn K (.ref f43) = true) (a44 : PySem.W.nsIn K mainGlobals "_law_row_otherwise" = some (some (.ref f44))) (l44 : K.lookup f44 = some ⟨oc44, od44, .func (PySem.W.fnOf "_law_row_otherwise" "_law_row_otherwise" (defArgs s_law_row_otherwise) (defBody s_law_row_otherwise) (defScope s_law_row_otherwise) .none kV44 dc44 pm44 an44 cd44 ct44), sl44⟩) (c44 : PySem.W.codeIn K cd44 "_law_row_otherwise" = true) (k44 : PySem.W.keepIn K (.ref f44) = true) (a45 : PySem.W.nsIn K mainGlobals "_law_text" = some (some (.ref f45))) (l45 : K.lookup f45 = some ⟨oc45, od45, .func (PySem.W.fnOf "_law_text" "_law_text" (defArgs s_law_text) (defBody s_law_text) (defScope s_law_text) .none kV45 dc45 pm45 an45 cd45 ct45), sl45⟩) (c45 : PySem.W.codeIn K cd45 "_law_text" = true) (k45 : PySem.W.keepIn K (.ref f45) = true) (a46 : PySem.W.nsIn K mainGlobals "_law_has_form" = some (some (.ref f46))) (l46 : K.lookup f46 = some ⟨oc46, od46, .func (PySem.W.fnOf "_law_has_form" "_law_has_form" (defArgs s_law_has_form) (defBody s_law_has_form) (defScope s_law_has_form) .none kV46 dc46 pm46 an46 cd46 ct46), sl46⟩) (c46 : PySem.W.codeIn K cd46 "_law_has_form" = true) (k46 : PySem.W.keepIn K (.ref f46) = true) (a47 : PySem.W.nsIn K mainGlobals "_law_read" = some (some (.ref f47))) (l47 : K.lookup f47 = some ⟨oc47, od47, .func (PySem.W.fnOf "_law_read" "_law_read" (defArgs s_law_read) (defBody s_law_read) (defScope s_law_read) .none kV47 dc47 pm47 an47 cd47 ct47), sl47⟩) (c47 : PySem.W.codeIn K cd47 "_law_read" = true) (k47 : PySem.W.keepIn K (.ref f47) = true) (a48 : PySem.W.nsIn K mainGlobals "_law_caught" = some (some (.ref f48))) (l48 : K.lookup f48 = some ⟨oc48, od48, .func (PySem.W.fnOf "_law_caught" "_law_caught" (defArgs s_law_caught) (defBody s_law_caught) (defScope s_law_caught) .none kV48 dc48 pm48 an48 cd48 ct48), sl48⟩) (c48 : PySem.W.codeIn K cd48 "_law_caught" = true) (k48 : PySem.W.keepIn K (.ref f48) = true) (a49 : PySem.W.nsIn K mainGlobals "law" = some (some (.ref f49))) (l49 : K.lookup f49 = some ⟨oc49, od49, .func (PySem.W.fnOf "law" "law" (defArgs s_law) (defBody s_law) (defScope s_law) .none kV49 dc49 pm49 an49 cd49 ct49), sl49⟩) (c49 : PySem.W.codeIn K cd49 "law" = true) (k49 : PySem.W.keepIn K (.ref f49) = true) (lT : K.lookup dT = some oT) (oTd : oT.data = .seq #[.none] mT) (lco : K.lookup co = some ⟨eo, eoD, .fields us, usl⟩) (u11 : us[11]? = some (.ref tb)) (ntb : K.lookup tb = none) (hrec : ((PyProof.Rows.recsOf q).any fun r => r.name == "is_name") = true) (z0 : PySem.W.nsIn K mainGlobals "isinstance" = some none) (z1 : PySem.W.nsIn K mainGlobals "int" = some none) (z2 : PySem.W.nsIn K mainGlobals "bool" = some none) (z3 : PySem.W.nsIn K mainGlobals "str" = some none) (z4 : PySem.W.nsIn K mainGlobals "len" = some none) (z5 : PySem.W.nsIn K mainGlobals "all" = some none) (z6 : PySem.W.nsIn K mainGlobals "max" = some none) (z7 : PySem.W.nsIn K mainGlobals "min" = some none) (z8 : PySem.W.nsIn K mainGlobals "range" = some none) (z9 : PySem.W.nsIn K mainGlobals "repr" = some none) (z10 : PySem.W.nsIn K mainGlobals "list" = some none) (z11 : PySem.W.nsIn K mainGlobals "tuple" = some none) (z12 : PySem.W.nsIn K mainGlobals "enumerate" = some none) (z13 : PySem.W.nsIn K mainGlobals "sorted" = some none) (z14 : PySem.W.nsIn K mainGlobals "ValueError" = some none) (gSI : PySem.W.nsIn K mainGlobals "SIDES" = some (some (.ref aSI))) (lSI : K.lookup aSI = some oSI) (cSI : oSI.cls = .type "tuple") (hSI : oSI.dict = none) (dSI : oSI.data = .seq #[.str zl0 kl0, .str zl1 kl1] nSI) (zSI : [zl0, zl1] = K8.sides) (gSO : PySem.W.nsIn K mainGlobals "SORTS" = some (some (.ref aSO))) (lSO : K.lookup aSO = some oSO) (cSO : oSO.cls = .type "tuple") (hSO : oSO.dict = none) (dSO : oSO.data = .seq #[.str zp0 kp0, .str zp1 kp1, .str zp2 kp2] nSO) (zSO : [zp0, zp1, zp2] = K8.sorts) (aCS : PySem.W.nsIn K mainGlobals "StaffError" = some (some (.ref CS))) (gaCS : PySem.W.specialIn K (.ref CS) "__getattribute__" = some (some (.builtin "type.__getattribute__"))) (rdCS : PySem.W.readsIn K CS (.type "type") = true) (atCS : PySem.W.findCls K (.ref CS) (.type "type") "__init__" = some (.val (.ref f1))) (vi : PySem.W.findCls K (.type "ValueError") (.type "type") "__init__" = some (.val (.builtin "ValueError.__init__"))) (xCPCY : PySem.W.exmOne K (.ref CP) (.ref CY) = some false) (xCNCY : PySem.W.exmOne K (.ref CN) (.ref CY) = some false) (xCNCP : PySem.W.exmOne K (.ref CN) (.ref CP) = some false) (xCWCY : PySem.W.exmOne K (.ref CW) (.ref CY) = some false) (xCWCP : PySem.W.exmOne K (.ref CW) (.ref CP) = some false) (xCWCN : PySem.W.exmOne K (.ref CW) (.ref CN) = some false) (xCMCY : PySem.W.exmOne K (.ref CM) (.ref CY) = some false) (xCMCP : PySem.W.exmOne K (.ref CM) (.ref CP) = some false) (xCMCN : PySem.W.exmOne K (.ref CM) (.ref CN) = some false) (xCMCW : PySem.W.exmOne K (.ref CM) (.ref CW) = some false) (xCTCY : PySem.W.exmOne K (.ref CT) (.ref CY) = some false) (xCTCP : PySem.W.exmOne K (.ref CT) (.ref CP) = some false) (xCTCN : PySem.W.exmOne K (.ref CT) (.ref CN) = some false) (xCTCW : PySem.W.exmOne K (.ref CT) (.ref CW) = some false) (xCTCM : PySem.W.exmOne K (.ref CT) (.ref CM) = some false) (xCECY : PySem.W.exmOne K (.ref CE) (.ref CY) = some false) (xCECP : PySem.W.exmOne K (.ref CE) (.ref CP) = some false) (xCECN : PySem.W.exmOne K (.ref CE) (.ref CN) = some false) (xCECW : PySem.W.exmOne K (.ref CE) (.ref CW) = some false) (xCECM : PySem.W.exmOne K (.ref CE) (.ref CM) = some false) (xCECT : PySem.W.exmOne K (.ref CE) (.ref CT) = some false) (xCLCY : PySem.W.exmOne K (.ref CL) (.ref CY) = some false) (xCLCP : PySem.W.exmOne K (.ref CL) (.ref CP) = some false) (xCLCN : PySem.W.exmOne K (.ref CL) (.ref CN) = some false) (xCLCW : PySem.W.exmOne K (.ref CL) (.ref CW) = some false) (xCLCM : PySem.W.exmOne K (.ref CL) (.ref CM) = some false) (xCLCT : PySem.W.exmOne K (.ref CL) (.ref CT) = some false) (xCLCE : PySem.W.exmOne K (.ref CL) (.ref CE) = some false) (cg : PySem.W.specialIn K (.builtin "object.__class__") "__get__" = some (some (.builtin "getset_descriptor.__get__"))) (ct : PySem.W.takesIn K (.builtin "object.__class__") = some true) :
    GLaw l w K CX0 11 63 "_law_script" mg fa h := by
  have e := hfa.symm.trans (PySem.W.mg_of X G a49)
  cases e
  have T : Txt mg := ⟨PySem.W.mg_none_of X G z0, PySem.W.mg_none_of X G z1, PySem.W.mg_none_of X G z2, PySem.W.mg_none_of X G z3, PySem.W.mg_none_of X G z4, PySem.W.mg_none_of X G z5, PySem.W.mg_none_of X G z6, PySem.W.mg_none_of X G z7, PySem.W.mg_none_of X G z8, PySem.W.mg_none_of X G z9, PySem.W.mg_none_of X G z10, PySem.W.mg_none_of X G z11, PySem.W.mg_none_of X G z12, PySem.W.mg_none_of X G z13⟩
  have seCY : PySem.W.subIn K (.ref CY) (.ref CY) = some true := My.sub_self (by unfold PySem.W.clsIn; rw [xlCY] <;> rfl) rfl
  have seCP : PySem.W.subIn K (.ref CP) (.ref CP) = some true := My.sub_self (by unfold PySem.W.clsIn; rw [xlCP] <;> rfl) rfl
  have seCN : PySem.W.subIn K (.ref CN) (.ref CN) = some true := My.sub_self (by unfold PySem.W.clsIn; rw [xlCN] <;> rfl) rfl
  have seCW : PySem.W.subIn K (.ref CW) (.ref CW) = some true := My.sub_self (by unfold PySem.W.clsIn; rw [xlCW] <;> rfl) rfl
  have seCM : PySem.W.subIn K (.ref CM) (.ref CM) = some true := My.sub_self (by unfold PySem.W.clsIn; rw [xlCM] <;> rfl) rfl
  have seCT : PySem.W.subIn K (.ref CT) (.ref CT) = some true := My.sub_self (by unfold PySem.W.clsIn; rw [xlCT] <;> rfl) rfl
  have seCE : PySem.W.subIn K (.ref CE) (.ref CE) = some true := My.sub_self (by unfold PySem.W.clsIn; rw [xlCE] <;> rfl) rfl
  have seCL : PySem.W.subIn K (.ref CL) (.ref CL) = some true := My.sub_self (by unfold PySem.W.clsIn; rw [xlCL] <;> rfl) rfl
  have F1 := fun_mk (st := sSE) l1 c1 k1
  have b1 := F1.binds (ps := ["self", "text"]) fun _ _ _ _ _ _ us hl => match us, hl with | [_, _], _ => rfl
  have F2 := fun_mk (st := sNoText) l2 c2 k2
  have b2 := F2.binds (ps := ["self", "row"]) fun _ _ _ _ _ _ us hl => match us, hl with | [_, _], _ => rfl
  have F3 := fun_mk (st := sNoPlaces) l3 c3 k3
  have b3 := F3.binds (ps := ["self", "found"]) fun _ _ _ _ _ _ us hl => match us, hl with | [_, _], _ => rfl
  have F4 := fun_mk (st := sNoName) l4 c4 k4
  have b4 := F4.binds (ps := ["self", "found"]) fun _ _ _ _ _ _ us hl => match us, hl with | [_, _], _ => rfl
  have F5 := fun_mk (st := sTwice) l5 c5 k5
  have b5 := F5.binds (ps := ["self", "found"]) fun _ _ _ _ _ _ us hl => match us, hl with | [_, _], _ => rfl
  have F6 := fun_mk (st := sNoNumber) l6 c6 k6
  have b6 := F6.binds (ps := ["self", "found"]) fun _ _ _ _ _ _ us hl => match us, hl with | [_, _], _ => rfl
  have F7 := fun_mk (st := sNoStretches) l7 c7 k7
  have b7 := F7.binds (ps := ["self", "found"]) fun _ _ _ _ _ _ us hl => match us, hl with | [_, _], _ => rfl
  have F8 := fun_mk (st := sNoPlace) l8 c8 k8
  have b8 := F8.binds (ps := ["self", "found"]) fun _ _ _ _ _ _ us hl => match us, hl with | [_, _], _ => rfl
  have F9 := fun_mk (st := sNoLongs) l9 c9 k9
  have b9 := F9.binds (ps := ["self", "found"]) fun _ _ _ _ _ _ us hl => match us, hl with | [_, _], _ => rfl
  have F10 := fun_mk (st := sWhole) l10 c10 k10
  have b10 := F10.binds (ps := ["thing", "low", "high"]) fun _ _ _ _ _ _ us hl => match us, hl with | [_, _, _], _ => rfl
  have F11 := fun_mk (st := sName) l11 c11 k11
  have b11 := F11.binds (ps := ["thing"]) fun _ _ _ _ _ _ us hl => match us, hl with | [_], _ => rfl
  have F12 := fun_mk (st := s_is_list) l12 c12 k12
  have b12 := F12.binds (ps := ["thing", "low", "high"]) fun _ _ _ _ _ _ us hl => match us, hl with | [_, _, _], _ => rfl
  have F13 := fun_mk (st := s_is_tuple) l13 c13 k13
  have b13 := F13.binds (ps := ["thing", "many"]) fun _ _ _ _ _ _ us hl => match us, hl with | [_, _], _ => rfl
  have F14 := fun_mk (st := s_rows_of) l14 c14 k14
  have b14 := F14.binds (ps := ["text"]) fun _ _ _ _ _ _ us hl => match us, hl with | [_], _ => rfl
  have F15 := fun_mk (st := s_check_place) l15 c15 k15
  have b15 := F15.binds (ps := ["place", "ahead"]) fun _ _ _ _ _ _ us hl => match us, hl with | [_, _], _ => rfl
  have F16 := fun_mk (st := s_check_places) l16 c16 k16
  have b16 := F16.binds (ps := ["places"]) fun _ _ _ _ _ _ us hl => match us, hl with | [_], _ => rfl
  have F17 := fun_mk (st := s_is_stretch_lines) l17 c17 k17
  have b17 := F17.binds (ps := ["thing"]) fun _ _ _ _ _ _ us hl => match us, hl with | [_], _ => rfl
  have F18 := fun_mk (st := s_check_stretches) l18 c18 k18
  have b18 := F18.binds (ps := ["stretches", "many"]) fun _ _ _ _ _ _ us hl => match us, hl with | [_, _], _ => rfl
  have F19 := fun_mk (st := s_is_long_lines) l19 c19 k19
  have b19 := F19.binds (ps := ["thing", "low", "top"]) fun _ _ _ _ _ _ us hl => match us, hl with | [_, _, _], _ => rfl
  have F20 := fun_mk (st := s_check_longs) l20 c20 k20
  have b20 := F20.binds (ps := ["longs", "top"]) fun _ _ _ _ _ _ us hl => match us, hl with | [_, _], _ => rfl
  have F21 : FunV K "__init__" "Line.__init__" s_init f21 _ := ⟨⟨_, _, _, _, _, _, _, _, _, _, rfl, l21, c21⟩⟩
  have b21 : Binds K (PySem.W.fnOf "__init__" "Line.__init__" (defArgs s_init) (defBody s_init) (defScope s_init) (.ref dT) kV21 dc21 pm21 an21 cd21 ct21) ["self", "places", "stretches", "longs"] [] := fun s us X hl => by
    rw [List.append_nil] at hl ⊢
    match us, hl with
    | [_, _, _, _], _ => exact BindsTo.of_defaults rfl (X _ _ lT) oTd rfl rfl
  have bd21 : Binds K (PySem.W.fnOf "__init__" "Line.__init__" (defArgs s_init) (defBody s_init) (defScope s_init) (.ref dT) kV21 dc21 pm21 an21 cd21 ct21) ["self", "places", "stretches", "longs"] [.none] := fun s us X hl => by
    have hl2 : us.length = 3 := by simpa using hl
    match us, hl2 with
    | [_, _, _], _ => exact BindsTo.of_defaults rfl (X _ _ lT) oTd rfl rfl
  have F22 := fun_mk (st := s_number_of) l22 c22 k22
  have b22 := F22.binds (ps := ["self", "name"]) fun _ _ _ _ _ _ us hl => match us, hl with | [_, _], _ => rfl
  have F23 := fun_mk (st := s_told) l23 c23 k23
  have b23 := F23.binds (ps := ["self"]) fun _ _ _ _ _ _ us hl => match us, hl with | [_], _ => rfl
  have F24 := fun_mk (st := s_is_place) l24 c24 k24
  have b24 := F24.binds (ps := ["words"]) fun _ _ _ _ _ _ us hl => match us, hl with | [_], _ => rfl
  have F25 := fun_mk (st := s_is_stretch_linetext) l25 c25 k25
  have b25 := F25.binds (ps := ["words"]) fun _ _ _ _ _ _ us hl => match us, hl with | [_], _ => rfl
  have F26 := fun_mk (st := s_is_long_linetext) l26 c26 k26
  have b26 := F26.binds (ps := ["words"]) fun _ _ _ _ _ _ us hl => match us, hl with | [_], _ => rfl
  have F27 := fun_mk (st := s_line_sort) l27 c27 k27
  have b27 := F27.binds (ps := ["row"]) fun _ _ _ _ _ _ us hl => match us, hl with | [_], _ => rfl
  have F28 := fun_mk (st := s_long_of_words) l28 c28 k28
  have b28 := F28.binds (ps := ["line", "words"]) fun _ _ _ _ _ _ us hl => match us, hl with | [_, _], _ => rfl
  have F29 := fun_mk (st := s_line_of_rows) l29 c29 k29
  have b29 := F29.binds (ps := ["rows"]) fun _ _ _ _ _ _ us hl => match us, hl with | [_], _ => rfl
  have F30 := fun_mk (st := s_read_line) l30 c30 k30
  have b30 := F30.binds (ps := ["text"]) fun _ _ _ _ _ _ us hl => match us, hl with | [_], _ => rfl
  have F31 := fun_mk (st := sCell) l31 c31 k31
  have b31 := F31.binds (ps := ["_law_script", "_law_k"]) fun _ _ _ _ _ _ us hl => match us, hl with | [_, _], _ => rfl
  have F32 := fun_mk (st := sBox) l32 c32 k32
  have b32 := F32.binds (ps := ["_law_cell_here"]) fun _ _ _ _ _ _ us hl => match us, hl with | [_], _ => rfl
  have F33 := fun_mk (st := sTake) l33 c33 k33
  have b33 := F33.binds (ps := ["_law_box_here", "_law_many"]) fun _ _ _ _ _ _ us hl => match us, hl with | [_, _], _ => rfl
  have F34 := fun_mk (st := s_law_names) l34 c34 k34
  have b34 := F34.binds (ps := ["_law_box_here", "_law_many"]) fun _ _ _ _ _ _ us hl => match us, hl with | [_, _], _ => rfl
  have F35 := fun_mk (st := s_law_world) l35 c35 k35
  have b35 := F35.binds (ps := ["_law_box_here"]) fun _ _ _ _ _ _ us hl => match us, hl with | [_], _ => rfl
  have F36 := fun_mk (st := s_law_is_name) l36 c36 k36
  have b36 := F36.binds (ps := ["_law_thing"]) fun _ _ _ _ _ _ us hl => match us, hl with | [_], _ => rfl
  have F37 := fun_mk (st := s_law_whole) l37 c37 k37
  have b37 := F37.binds (ps := ["_law_thing", "_law_low", "_law_high"]) fun _ _ _ _ _ _ us hl => match us, hl with | [_, _, _], _ => rfl
  have F38 := fun_mk (st := s_law_is_row) l38 c38 k38
  have b38 := F38.binds (ps := ["_law_thing", "_law_size"]) fun _ _ _ _ _ _ us hl => match us, hl with | [_, _], _ => rfl
  have F39 := fun_mk (st := s_law_places_due) l39 c39 k39
  have b39 := F39.binds (ps := ["_law_places"]) fun _ _ _ _ _ _ us hl => match us, hl with | [_], _ => rfl
  have F40 := fun_mk (st := s_law_due) l40 c40 k40
  have b40 := F40.binds (ps := ["_law_places", "_law_stretches", "_law_longs"]) fun _ _ _ _ _ _ us hl => match us, hl with | [_, _, _], _ => rfl
  have F41 := fun_mk (st := s_law_rows) l41 c41 k41
  have b41 := F41.binds (ps := ["_law_world_here"]) fun _ _ _ _ _ _ us hl => match us, hl with | [_], _ => rfl
  have F42 := fun_mk (st := s_law_signs) l42 c42 k42
  have b42 := F42.binds (ps := []) fun _ _ _ _ _ _ us hl => match us, hl with | [], _ => rfl
  have F43 := fun_mk (st := s_law_word) l43 c43 k43
  have b43 := F43.binds (ps := ["_law_box_here", "_law_world_here"]) fun _ _ _ _ _ _ us hl => match us, hl with | [_, _], _ => rfl
  have F44 := fun_mk (st := s_law_row_otherwise) l44 c44 k44
  have b44 := F44.binds (ps := ["_law_box_here", "_law_world_here", "_law_rows_here"]) fun _ _ _ _ _ _ us hl => match us, hl with | [_, _, _], _ => rfl
  have F45 := fun_mk (st := s_law_text) l45 c45 k45
  have b45 := F45.binds (ps := ["_law_box_here", "_law_world_here"]) fun _ _ _ _ _ _ us hl => match us, hl with | [_, _], _ => rfl
  have F46 := fun_mk (st := s_law_has_form) l46 c46 k46
  have b46 := F46.binds (ps := ["_law_words"]) fun _ _ _ _ _ _ us hl => match us, hl with | [_], _ => rfl
  have F47 := fun_mk (st := s_law_read) l47 c47 k47
  have b47 := F47.binds (ps := ["_law_text_here"]) fun _ _ _ _ _ _ us hl => match us, hl with | [_], _ => rfl
  have F48 := fun_mk (st := s_law_caught) l48 c48 k48
  have b48 := F48.binds (ps := ["_law_text_here"]) fun _ _ _ _ _ _ us hl => match us, hl with | [_], _ => rfl
  have F49 := fun_mk (st := s_law) l49 c49 k49
  have TC : ClsT K C := ⟨⟨pgC, hdC, poC, saC⟩, n0C, n1C, n2C, n3C⟩
  have CSI : Cst K aSI sides := cst2 lSI cSI hSI dSI zSI
  have CSO : Cst K aSO sorts := cst3 lSO cSO hSO dSO zSO
  have ES : SeT K mg CS f1 _ sSE := ⟨PySem.W.mg_none_of X G z14, vi, PySem.W.mg_of X G aCS, ⟨gaCS, rdCS, atCS⟩, k1, F1, b1⟩
  have e0CY : ExR K mg "NoText" "NoText.__init__" sNoText CY f2 _ := ⟨PySem.W.mg_of X G aCY, F2, b2, ⟨⟨nmCY, qCY, NCY, bsCY, _, snCY, subCY, abCY, colCY, ddCY, m0CY, m1CY, m2CY, m3CY, m5CY, xlCY, rfl⟩, saCY, exCY, tyCY, kcCY⟩, a2, (beq_iff_eq.mp i2), n0CY, PySem.W.exm_ref exCY hdCY tyCY seCY, ⟨gaCY, ggCY, exCY, hdCY⟩, ⟨icCY, gaCY, ggCY, exCY, coCY, cg, ct, moCY⟩⟩
  have ECY : ExR K mg "NoText" "NoText.__init__" sNoText ((caOf CY CP CN CW CM CT CE CL) .text) f2 _ := e0CY
  have e0CP : ExC K mg "NoPlaces" "NoPlaces.__init__" sNoPlaces CP f3 _ := ⟨PySem.W.mg_of X G aCP, F3, b3, ⟨⟨nmCP, qCP, NCP, bsCP, _, snCP, subCP, abCP, colCP, ddCP, m0CP, m1CP, m2CP, m3CP, m5CP, xlCP, rfl⟩, saCP, exCP, tyCP, kcCP⟩, a3, (beq_iff_eq.mp i3), n0CP, PySem.W.exm_ref exCP hdCP tyCP seCP, ⟨gaCP, ggCP, exCP, hdCP⟩, ⟨icCP, gaCP, ggCP, exCP, coCP, cg, ct, moCP⟩⟩
  have ECP : ExC K mg "NoPlaces" "NoPlaces.__init__" sNoPlaces ((caOf CY CP CN CW CM CT CE CL) .places) f3 _ := e0CP
  have e0CN : ExC K mg "NoName" "NoName.__init__" sNoName CN f4 _ := ⟨PySem.W.mg_of X G aCN, F4, b4, ⟨⟨nmCN, qCN, NCN, bsCN, _, snCN, subCN, abCN, colCN, ddCN, m0CN, m1CN, m2CN, m3CN, m5CN, xlCN, rfl⟩, saCN, exCN, tyCN, kcCN⟩, a4, (beq_iff_eq.mp i4), n0CN, PySem.W.exm_ref exCN hdCN tyCN seCN, ⟨gaCN, ggCN, exCN, hdCN⟩, ⟨icCN, gaCN, ggCN, exCN, coCN, cg, ct, moCN⟩⟩
  have ECN : ExC K mg "NoName" "NoName.__init__" sNoName ((caOf CY CP CN CW CM CT CE CL) .name) f4 _ := e0CN
  have e0CW : ExC K mg "Twice" "Twice.__init__" sTwice CW f5 _ := ⟨PySem.W.mg_of X G aCW, F5, b5, ⟨⟨nmCW, qCW, NCW, bsCW, _, snCW, subCW, abCW, colCW, ddCW, m0CW, m1CW, m2CW, m3CW, m5CW, xlCW, rfl⟩, saCW, exCW, tyCW, kcCW⟩, a5, (beq_iff_eq.mp i5), n0CW, PySem.W.exm_ref exCW hdCW tyCW seCW, ⟨gaCW, ggCW, exCW, hdCW⟩, ⟨icCW, gaCW, ggCW, exCW, coCW, cg, ct, moCW⟩⟩
  have ECW : ExC K mg "Twice" "Twice.__init__" sTwice ((caOf CY CP CN CW CM CT CE CL) .twice) f5 _ := e0CW
  have e0CM : ExC K mg "NoNumber" "NoNumber.__init__" sNoNumber CM f6 _ := ⟨PySem.W.mg_of X G aCM, F6, b6, ⟨⟨nmCM, qCM, NCM, bsCM, _, snCM, subCM, abCM, colCM, ddCM, m0CM, m1CM, m2CM, m3CM, m5CM, xlCM, rfl⟩, saCM, exCM, tyCM, kcCM⟩, a6, (beq_iff_eq.mp i6), n0CM, PySem.W.exm_ref exCM hdCM tyCM seCM, ⟨gaCM, ggCM, exCM, hdCM⟩, ⟨icCM, gaCM, ggCM, exCM, coCM, cg, ct, moCM⟩⟩
  have ECM : ExC K mg "NoNumber" "NoNumber.__init__" sNoNumber ((caOf CY CP CN CW CM CT CE CL) .number) f6 _ := e0CM
  have e0CT : ExC K mg "NoStretches" "NoStretches.__init__" sNoStretches CT f7 _ := ⟨PySem.W.mg_of X G aCT, F7, b7, ⟨⟨nmCT, qCT, NCT, bsCT, _, snCT, subCT, abCT, colCT, ddCT, m0CT, m1CT, m2CT, m3CT, m5CT, xlCT, rfl⟩, saCT, exCT, tyCT, kcCT⟩, a7, (beq_iff_eq.mp i7), n0CT, PySem.W.exm_ref exCT hdCT tyCT seCT, ⟨gaCT, ggCT, exCT, hdCT⟩, ⟨icCT, gaCT, ggCT, exCT, coCT, cg, ct, moCT⟩⟩
  have ECT : ExC K mg "NoStretches" "NoStretches.__init__" sNoStretches ((caOf CY CP CN CW CM CT CE CL) .stretches) f7 _ := e0CT
  have e0CE : ExC K mg "NoPlace" "NoPlace.__init__" sNoPlace CE f8 _ := ⟨PySem.W.mg_of X G aCE, F8, b8, ⟨⟨nmCE, qCE, NCE, bsCE, _, snCE, subCE, abCE, colCE, ddCE, m0CE, m1CE, m2CE, m3CE, m5CE, xlCE, rfl⟩, saCE, exCE, tyCE, kcCE⟩, a8, (beq_iff_eq.mp i8), n0CE, PySem.W.exm_ref exCE hdCE tyCE seCE, ⟨gaCE, ggCE, exCE, hdCE⟩, ⟨icCE, gaCE, ggCE, exCE, coCE, cg, ct, moCE⟩⟩
  have ECE : ExC K mg "NoPlace" "NoPlace.__init__" sNoPlace ((caOf CY CP CN CW CM CT CE CL) .place) f8 _ := e0CE
  have e0CL : ExC K mg "NoLongs" "NoLongs.__init__" sNoLongs CL f9 _ := ⟨PySem.W.mg_of X G aCL, F9, b9, ⟨⟨nmCL, qCL, NCL, bsCL, _, snCL, subCL, abCL, colCL, ddCL, m0CL, m1CL, m2CL, m3CL, m5CL, xlCL, rfl⟩, saCL, exCL, tyCL, kcCL⟩, a9, (beq_iff_eq.mp i9), n0CL, PySem.W.exm_ref exCL hdCL tyCL seCL, ⟨gaCL, ggCL, exCL, hdCL⟩, ⟨icCL, gaCL, ggCL, exCL, coCL, cg, ct, moCL⟩⟩
  have ECL : ExC K mg "NoLongs" "NoLongs.__init__" sNoLongs ((caOf CY CP CN CW CM CT CE CL) .longs) f9 _ := e0CL
  have XM : ∀ s t : Cat, s.n < t.n → PySem.W.exmOne K (.ref ((caOf CY CP CN CW CM CT CE CL) t)) (.ref ((caOf CY CP CN CW CM CT CE CL) s)) = some false := by
    intro s t h
    cases s <;> cases t <;> first | exact absurd h (by decide) | exact xCPCY | exact xCNCY | exact xCNCP | exact xCWCY | exact xCWCP | exact xCWCN | exact xCMCY | exact xCMCP | exact xCMCN | exact xCMCW | exact xCTCY | exact xCTCP | exact xCTCN | exact xCTCW | exact xCTCM | exact xCECY | exact xCECP | exact xCECN | exact xCECW | exact xCECM | exact xCECT | exact xCLCY | exact xCLCP | exact xCLCN | exact xCLCW | exact xCLCM | exact xCLCT | exact xCLCE
  obtain ⟨ch, tabh⟩ := em "is_name" f11 co tb _ _ eo eoD us usl hrec a11 l11 rfl rfl lco u11
  refine ⟨PySem.W.fnOf "law" "law" (defArgs s_law) (defBody s_law) (defScope s_law) .none kV49 dc49 pm49 an49 cd49 ct49, [(co, tb)], spLaw K tb, ?_, ?_, ?_, fun s v => .of_eq rfl, ?_, ?_⟩
  · intro p hp
    obtain rfl := List.mem_singleton.mp hp
    exact tabh
  · intro p hp
    obtain rfl := List.mem_singleton.mp hp
    exact ntb
  · intro p hp
    obtain rfl := List.mem_singleton.mp hp
    exact ch
  · intro H a ns hn _ hT hS
    exact ⟨a, ns, rfl, hS, hn, ⟨#[], hT (co, tb) (List.mem_singleton.mpr rfl), trivial⟩, fun _ => rfl⟩
  · intro base kb nb TB
    have gis_whole : FnOk l.prog w K mg base CX0 _ f10 _ _ _ := ok_whole F10 T
    have gis_name := ok_name (P := l.prog) (w := w) l11 c11 T (TB (co, tb) (List.mem_singleton.mpr rfl))
    have gis_list : FnOk l.prog w K mg base CX0 _ f12 _ _ _ := ok_is_list F12 T
    have gis_listG : FnOk l.prog w K mg base CX0 _ f12 _ _ _ := ok_is_listG F12 T
    have gis_tuple : FnOk l.prog w K mg base CX0 _ f13 _ _ _ := ok_is_tuple F13 T
    have gis_tupleG : FnOk l.prog w K mg base CX0 _ f13 _ _ _ := ok_is_tupleG F13 T
    have grows_of : FnOk l.prog w K mg base (CX l.prog w) _ f14 _ _ _ := ok_rows_of F14 T ES ECY
    have gcheck_place : FnOk l.prog w K mg base CX0 _ f15 _ _ _ := ok_check_place F15 T ⟨F13, PySem.W.mg_of X G a13, b13⟩ gis_tuple ⟨F11, PySem.W.mg_of X G a11, b11⟩ gis_name ⟨F10, PySem.W.mg_of X G a10, b10⟩ gis_whole
    have gplaceX : FnOk l.prog w K mg base (CX l.prog w) _ f15 _ _ _ := ok_placeX (cl := fun t => caOf CY CP CN CW CM CT CE CL t.cat) F15 T ES ECP ECN ECW ECM ⟨F13, PySem.W.mg_of X G a13, b13⟩ gis_tupleG ⟨F11, PySem.W.mg_of X G a11, b11⟩ gis_name ⟨F10, PySem.W.mg_of X G a10, b10⟩ gis_whole
    have gcheck_places : FnOk l.prog w K mg base CX0 _ f16 _ _ _ := ok_check_places F16 T ⟨F12, PySem.W.mg_of X G a12, b12⟩ gis_list ⟨F15, PySem.W.mg_of X G a15, b15⟩ gcheck_place
    have gplacesX : FnOk l.prog w K mg base (CX l.prog w) _ f16 _ _ _ := ok_placesX (cl := fun t => caOf CY CP CN CW CM CT CE CL t.cat) F16 T ES ECP ⟨F12, PySem.W.mg_of X G a12, b12⟩ gis_listG ⟨F15, PySem.W.mg_of X G a15, b15⟩ gplaceX
    have gis_stretch_lines : FnOk l.prog w K mg base CX0 _ f17 _ _ _ := ok_is_stretch_lines F17 T ⟨F13, PySem.W.mg_of X G a13, b13⟩ gis_tuple ⟨F10, PySem.W.mg_of X G a10, b10⟩ gis_whole
    have gstG : FnOk l.prog w K mg base CX0 _ f17 _ _ _ := ok_is_stretch_linesG F17 T ⟨F13, PySem.W.mg_of X G a13, b13⟩ gis_tupleG ⟨F10, PySem.W.mg_of X G a10, b10⟩ gis_whole
    have gcheck_stretches : FnOk l.prog w K mg base CX0 _ f18 _ _ _ := ok_check_stretches F18 T ⟨F12, PySem.W.mg_of X G a12, b12⟩ gis_list ⟨F17, PySem.W.mg_of X G a17, b17⟩ gis_stretch_lines
    have gstretchesX : FnOk l.prog w K mg base (CX l.prog w) _ f18 _ _ _ := ok_stretchesX (cl := fun t => caOf CY CP CN CW CM CT CE CL t.cat) F18 T ES ECT ⟨F12, PySem.W.mg_of X G a12, b12⟩ gis_listG ⟨F17, PySem.W.mg_of X G a17, b17⟩ gstG
    have gis_long_lines : FnOk l.prog w K mg base CX0 _ f19 _ _ _ := ok_is_long_lines F19 T ⟨F13, PySem.W.mg_of X G a13, b13⟩ gis_tuple ⟨F10, PySem.W.mg_of X G a10, b10⟩ gis_whole
    have gloG : FnOk l.prog w K mg base CX0 _ f19 _ _ _ := ok_is_long_linesG F19 T ⟨F13, PySem.W.mg_of X G a13, b13⟩ gis_tupleG ⟨F10, PySem.W.mg_of X G a10, b10⟩ gis_whole
    have gcheck_longs : FnOk l.prog w K mg base CX0 _ f20 _ _ _ := ok_check_longs F20 T ⟨F12, PySem.W.mg_of X G a12, b12⟩ gis_list ⟨F19, PySem.W.mg_of X G a19, b19⟩ gis_long_lines
    have glongsX : FnOk l.prog w K mg base (CX l.prog w) _ f20 _ _ _ := ok_longsX (cl := fun t => caOf CY CP CN CW CM CT CE CL t.cat) F20 T ES ECL ⟨F12, PySem.W.mg_of X G a12, b12⟩ gis_listG ⟨F19, PySem.W.mg_of X G a19, b19⟩ gloG
    have ginit : FnOk l.prog w K mg base CX0 _ f21 _ _ _ := ok_init F21 T TC ⟨F16, PySem.W.mg_of X G a16, b16⟩ gcheck_places ⟨F18, PySem.W.mg_of X G a18, b18⟩ gcheck_stretches ⟨F20, PySem.W.mg_of X G a20, b20⟩ gcheck_longs
    have ginitX : FnOk l.prog w K mg base (CX l.prog w) _ f21 _ _ _ := ok_initX (cl := fun t => caOf CY CP CN CW CM CT CE CL t.cat) F21 T TC ⟨F16, PySem.W.mg_of X G a16, b16⟩ gplacesX ⟨F18, PySem.W.mg_of X G a18, b18⟩ gstretchesX ⟨F20, PySem.W.mg_of X G a20, b20⟩ glongsX
    have ginitD : FnOk l.prog w K mg base (CX l.prog w) _ f21 _ _ _ := ok_initD ginit ginitX
    have gnumber_of : FnOk l.prog w K mg base CX0 _ f22 _ _ _ := ok_num F22 T TC
    have gnumX : FnOk l.prog w K mg base (CX l.prog w) 4 f22 _ _ (orS (spNum K C) (spBad K C ((caOf CY CP CN CW CM CT CE CL) .place) badN)) := fn_or gnumber_of (ok_numB F22 T TC ES ECE) (by decide)
    have gtold : FnOk l.prog w K mg base CX0 _ f23 _ _ _ := ok_told F23 T TC
    have gis_place : FnOk l.prog w K mg base CX0 _ f24 _ _ _ := ok_is_place F24 T ⟨F11, PySem.W.mg_of X G a11, b11⟩ gis_name
    have gis_stretch_linetext : FnOk l.prog w K mg base CX0 _ f25 _ _ _ := ok_is_stretch_linetext (Pt := tb) F25 T (PySem.W.mg_of X G gSI) CSI
    have gis_long_linetext : FnOk l.prog w K mg base CX0 _ f26 _ _ _ := ok_is_long_linetext F26 T (PySem.W.mg_of X G gSI) CSI ⟨F11, PySem.W.mg_of X G a11, b11⟩ gis_name
    have gline_sort : FnOk l.prog w K mg base CX0 _ f27 _ _ _ := ok_line_sort F27 T (PySem.W.mg_of X G gSO) CSO ⟨F24, PySem.W.mg_of X G a24, b24⟩ gis_place ⟨F25, PySem.W.mg_of X G a25, b25⟩ gis_stretch_linetext ⟨F26, PySem.W.mg_of X G a26, b26⟩ gis_long_linetext
    have glong_of_words : FnOk l.prog w K mg base (CX l.prog w) _ f28 _ _ _ := ok_long_of_words F28 T TC (PySem.W.mg_of X G gSI) CSI ⟨F22, ⟨a22, i22, k22⟩, b22⟩ gnumX
    have gline_of_rows : FnOk l.prog w K mg base (CX l.prog w) _ f29 _ _ _ := ok_line_of_rows F29 T TC (PySem.W.mg_of X G gSI) CSI ⟨mkC, a21, i21, kcC⟩ (PySem.W.mg_of X G aC) b21 bd21 ginitD ⟨F28, PySem.W.mg_of X G a28, b28⟩ glong_of_words
    have gread_line : FnOk l.prog w K mg base (CX l.prog w) _ f30 _ _ _ := ok_read_line F30 T ES ECY ⟨F14, PySem.W.mg_of X G a14, b14⟩ grows_of ⟨F27, PySem.W.mg_of X G a27, b27⟩ gline_sort ⟨F29, PySem.W.mg_of X G a29, b29⟩ gline_of_rows
    have glaw_cell : FnOk l.prog w K mg base CX0 _ f31 _ _ _ := ok_cell F31 T
    have glaw_box : FnOk l.prog w K mg base CX0 _ f32 _ _ _ := ok_box F32 T
    have glaw_take : FnOk l.prog w K mg base CX0 _ f33 _ _ _ := ok_take F33
    have glaw_names : FnOk l.prog w K mg base CX0 _ f34 _ _ _ := ok_names F34 T ⟨F33, PySem.W.mg_of X G a33, b33⟩ glaw_take
    have glaw_world : FnOk l.prog w K mg base CX0 _ f35 _ _ _ := ok_world F35 T ⟨F33, PySem.W.mg_of X G a33, b33⟩ glaw_take ⟨F34, PySem.W.mg_of X G a34, b34⟩ glaw_names
    have glaw_is_name : FnOk l.prog w K mg base CX0 _ f36 _ _ _ := ok_law_is_name F36 T
    have glaw_whole : FnOk l.prog w K mg base CX0 _ f37 _ _ _ := ok_law_whole F37 T
    have glaw_is_row : FnOk l.prog w K mg base CX0 _ f38 _ _ _ := ok_law_is_row F38 T
    have glaw_places_due : FnOk l.prog w K mg base CX0 _ f39 _ _ _ := ok_law_places_due F39 T ⟨F38, PySem.W.mg_of X G a38, b38⟩ glaw_is_row ⟨F36, PySem.W.mg_of X G a36, b36⟩ glaw_is_name ⟨F37, PySem.W.mg_of X G a37, b37⟩ glaw_whole
    have glaw_due : FnOk l.prog w K mg base CX0 _ f40 _ _ _ := ok_law_due F40 T ⟨F38, PySem.W.mg_of X G a38, b38⟩ glaw_is_row ⟨F39, PySem.W.mg_of X G a39, b39⟩ glaw_places_due ⟨F37, PySem.W.mg_of X G a37, b37⟩ glaw_whole
    have glaw_rows : FnOk l.prog w K mg base CX0 _ f41 _ _ _ := ok_law_rows F41 T
    have glaw_signs : FnOk l.prog w K mg base CX0 _ f42 _ _ _ := ok_law_signs F42 T
    have glaw_word : FnOk l.prog w K mg base CX0 _ f43 _ _ _ := ok_law_word F43 T ⟨F33, PySem.W.mg_of X G a33, b33⟩ glaw_take
    have glaw_row_otherwise : FnOk l.prog w K mg base CX0 _ f44 _ _ _ := ok_row_otherwise F44 T ⟨F33, PySem.W.mg_of X G a33, b33⟩ glaw_take ⟨F43, PySem.W.mg_of X G a43, b43⟩ glaw_word
    have glaw_text : FnOk l.prog w K mg base CX0 _ f45 _ _ _ := ok_law_text F45 T ⟨F33, PySem.W.mg_of X G a33, b33⟩ glaw_take ⟨F41, PySem.W.mg_of X G a41, b41⟩ glaw_rows ⟨F44, PySem.W.mg_of X G a44, b44⟩ glaw_row_otherwise ⟨F42, PySem.W.mg_of X G a42, b42⟩ glaw_signs
    have glaw_has_form : FnOk l.prog w K mg base CX0 _ f46 _ _ _ := ok_has_form F46 T ⟨F36, PySem.W.mg_of X G a36, b36⟩ glaw_is_name
    have glaw_read : FnOk l.prog w K mg base CX0 _ f47 _ _ _ := ok_read (Pt := tb) F47 T ⟨F46, PySem.W.mg_of X G a46, b46⟩ glaw_has_form ⟨F40, PySem.W.mg_of X G a40, b40⟩ glaw_due
    have glaw_caught : FnOk l.prog w K mg base CX0 _ f48 _ _ _ := ok_caught F48 T TC ES ECY ECP ECN ECW ECM ECT ECE ECL XM ⟨F30, PySem.W.mg_of X G a30, b30⟩ gread_line ⟨F23, ⟨a23, i23, k23⟩, b23⟩ gtold
    exact (ok_law F49 T ⟨F31, PySem.W.mg_of X G a31, b31⟩ glaw_cell ⟨F32, PySem.W.mg_of X G a32, b32⟩ glaw_box ⟨F35, PySem.W.mg_of X G a35, b35⟩ glaw_world ⟨F45, PySem.W.mg_of X G a45, b45⟩ glaw_text ⟨F47, PySem.W.mg_of X G a47, b47⟩ glaw_read ⟨F48, PySem.W.mg_of X G a48, b48⟩ glaw_caught)
end K8

open PySem PySem.W PyProof.Rows in
set_option maxRecDepth 100000 in
set_option maxHeartbeats 0 in
theorem PySem.Challenge.cw_onestaff_k08_whole_line_texts_holds : PySem.Challenge.rw_onestaff_k08_whole_line_texts.Holds := by
  w_on; o_law; k_head; (case hw => w_witness2)
  k_fill
  refine Gd.walk_g (l := PySem.Challenge.rw_onestaff_k08_whole_line_texts) (n := 63) (k := 11) (x := "_law_script") (CX := fun _ => L2.CX0) rfl (by decide) rfl ⟨rfl, by decide, by decide⟩ (fun w h Y => PySem.W.kIn_of Y) ?F (fun _ _ _ _ _ z => z)
  case F =>
    intro w mg fa h Y KX G hmg em
    refine' K8.all_mk KX G hmg em ?QaC ?QpgC ?QhdC ?QpoC ?QsaC ?QmkC ?QkcC ?Qn0C ?Qn1C ?Qn2C ?Qn3C ?QaCY ?QxlCY ?QsaCY ?QgaCY ?QggCY ?QkcCY ?QexCY ?QtyCY ?QhdCY ?QicCY ?QcoCY ?QmoCY ?Qn0CY ?QaCP ?QxlCP ?QsaCP ?QgaCP ?QggCP ?QkcCP ?QexCP ?QtyCP ?QhdCP ?QicCP ?QcoCP ?QmoCP ?Qn0CP ?QaCN ?QxlCN ?QsaCN ?QgaCN ?QggCN ?QkcCN ?QexCN ?QtyCN ?QhdCN ?QicCN ?QcoCN ?QmoCN ?Qn0CN ?QaCW ?QxlCW ?QsaCW ?QgaCW ?QggCW ?QkcCW ?QexCW ?QtyCW ?QhdCW ?QicCW ?QcoCW ?QmoCW ?Qn0CW ?QaCM ?QxlCM ?QsaCM ?QgaCM ?QggCM ?QkcCM ?QexCM ?QtyCM ?QhdCM ?QicCM ?QcoCM ?QmoCM ?Qn0CM ?QaCT ?QxlCT ?QsaCT ?QgaCT ?QggCT ?QkcCT ?QexCT ?QtyCT ?QhdCT ?QicCT ?QcoCT ?QmoCT ?Qn0CT ?QaCE ?QxlCE ?QsaCE ?QgaCE ?QggCE ?QkcCE ?QexCE ?QtyCE ?QhdCE ?QicCE ?QcoCE ?QmoCE ?Qn0CE ?QaCL ?QxlCL ?QsaCL ?QgaCL ?QggCL ?QkcCL ?QexCL ?QtyCL ?QhdCL ?QicCL ?QcoCL ?QmoCL ?Qn0CL ?Qa1 ?Qi1 ?Ql1 ?Qc1 ?Qk1 ?Qa2 ?Qi2 ?Ql2 ?Qc2 ?Qk2 ?Qa3 ?Qi3 ?Ql3 ?Qc3 ?Qk3 ?Qa4 ?Qi4 ?Ql4 ?Qc4 ?Qk4 ?Qa5 ?Qi5 ?Ql5 ?Qc5 ?Qk5 ?Qa6 ?Qi6 ?Ql6 ?Qc6 ?Qk6 ?Qa7 ?Qi7 ?Ql7 ?Qc7 ?Qk7 ?Qa8 ?Qi8 ?Ql8 ?Qc8 ?Qk8 ?Qa9 ?Qi9 ?Ql9 ?Qc9 ?Qk9 ?Qa10 ?Ql10 ?Qc10 ?Qk10 ?Qa11 ?Ql11 ?Qc11 ?Qk11 ?Qa12 ?Ql12 ?Qc12 ?Qk12 ?Qa13 ?Ql13 ?Qc13 ?Qk13 ?Qa14 ?Ql14 ?Qc14 ?Qk14 ?Qa15 ?Ql15 ?Qc15 ?Qk15 ?Qa16 ?Ql16 ?Qc16 ?Qk16 ?Qa17 ?Ql17 ?Qc17 ?Qk17 ?Qa18 ?Ql18 ?Qc18 ?Qk18 ?Qa19 ?Ql19 ?Qc19 ?Qk19 ?Qa20 ?Ql20 ?Qc20 ?Qk20 ?Qa21 ?Qi21 ?Ql21 ?Qc21 ?Qk21 ?Qa22 ?Qi22 ?Ql22 ?Qc22 ?Qk22 ?Qa23 ?Qi23 ?Ql23 ?Qc23 ?Qk23 ?Qa24 ?Ql24 ?Qc24 ?Qk24 ?Qa25 ?Ql25 ?Qc25 ?Qk25 ?Qa26 ?Ql26 ?Qc26 ?Qk26 ?Qa27 ?Ql27 ?Qc27 ?Qk27 ?Qa28 ?Ql28 ?Qc28 ?Qk28 ?Qa29 ?Ql29 ?Qc29 ?Qk29 ?Qa30 ?Ql30 ?Qc30 ?Qk30 ?Qa31 ?Ql31 ?Qc31 ?Qk31 ?Qa32 ?Ql32 ?Qc32 ?Qk32 ?Qa33 ?Ql33 ?Qc33 ?Qk33 ?Qa34 ?Ql34 ?Qc34 ?Qk34 ?Qa35 ?Ql35 ?Qc35 ?Qk35 ?Qa36 ?Ql36 ?Qc36 ?Qk36 ?Qa37 ?Ql37 ?Qc37 ?Qk37 ?Qa38 ?Ql38 ?Qc38 ?Qk38 ?Qa39 ?Ql39 ?Qc39 ?Qk39 ?Qa40 ?Ql40 ?Qc40 ?Qk40 ?Qa41 ?Ql41 ?Qc41 ?Qk41 ?Qa42 ?Ql42 ?Qc42 ?Qk42 ?Qa43 ?Ql43 ?Qc43 ?Qk43 ?Qa44 ?Ql44 ?Qc44 ?Qk44 ?Qa45 ?Ql45 ?Qc45 ?Qk45 ?Qa46 ?Ql46 ?Qc46 ?Qk46 ?Qa47 ?Ql47 ?Qc47 ?Qk47 ?Qa48 ?Ql48 ?Qc48 ?Qk48 ?Qa49 ?Ql49 ?Qc49 ?Qk49 ?QlT ?QoTd ?Qlco ?Qu11 ?Qntb ?Qhrec ?Qz0 ?Qz1 ?Qz2 ?Qz3 ?Qz4 ?Qz5 ?Qz6 ?Qz7 ?Qz8 ?Qz9 ?Qz10 ?Qz11 ?Qz12 ?Qz13 ?Qz14 ?QgSI ?QlSI ?QcSI ?QhSI ?QdSI ?QzSI ?QgSO ?QlSO ?QcSO ?QhSO ?QdSO ?QzSO ?QaCS ?QgaCS ?QrdCS ?QatCS ?Qvi ?QxCPCY ?QxCNCY ?QxCNCP ?QxCWCY ?QxCWCP ?QxCWCN ?QxCMCY ?QxCMCP ?QxCMCN ?QxCMCW ?QxCTCY ?QxCTCP ?QxCTCN ?QxCTCW ?QxCTCM ?QxCECY ?QxCECP ?QxCECN ?QxCECW ?QxCECM ?QxCECT ?QxCLCY ?QxCLCP ?QxCLCN ?QxCLCW ?QxCLCM ?QxCLCT ?QxCLCE ?Qcg ?Qct
    (case QaC => k_is)
    (case QpgC => k_is)
    (case QhdC => k_is)
    (case QpoC => k_is)
    (case QsaC => k_is)
    (case QmkC => k_is)
    (case QkcC => k_is)
    (case Qn0C => k_is)
    (case Qn1C => k_is)
    (case Qn2C => k_is)
    (case Qn3C => k_is)
    (case QaCY => k_is)
    (case QxlCY => k_is)
    (case QsaCY => k_is)
    (case QgaCY => k_is)
    (case QggCY => k_is)
    (case QkcCY => k_is)
    (case QexCY => k_is)
    (case QtyCY => k_is)
    (case QhdCY => k_is)
    (case QicCY => k_is)
    (case QcoCY => k_is)
    (case QmoCY => k_is)
    (case Qn0CY => k_is)
    (case QaCP => k_is)
    (case QxlCP => k_is)
    (case QsaCP => k_is)
    (case QgaCP => k_is)
    (case QggCP => k_is)
    (case QkcCP => k_is)
    (case QexCP => k_is)
    (case QtyCP => k_is)
    (case QhdCP => k_is)
    (case QicCP => k_is)
    (case QcoCP => k_is)
    (case QmoCP => k_is)
    (case Qn0CP => k_is)
    (case QaCN => k_is)
    (case QxlCN => k_is)
    (case QsaCN => k_is)
    (case QgaCN => k_is)
    (case QggCN => k_is)
    (case QkcCN => k_is)
    (case QexCN => k_is)
    (case QtyCN => k_is)
    (case QhdCN => k_is)
    (case QicCN => k_is)
    (case QcoCN => k_is)
    (case QmoCN => k_is)
    (case Qn0CN => k_is)
    (case QaCW => k_is)
    (case QxlCW => k_is)
    (case QsaCW => k_is)
    (case QgaCW => k_is)
    (case QggCW => k_is)
    (case QkcCW => k_is)
    (case QexCW => k_is)
    (case QtyCW => k_is)
    (case QhdCW => k_is)
    (case QicCW => k_is)
    (case QcoCW => k_is)
    (case QmoCW => k_is)
    (case Qn0CW => k_is)
    (case QaCM => k_is)
    (case QxlCM => k_is)
    (case QsaCM => k_is)
    (case QgaCM => k_is)
    (case QggCM => k_is)
    (case QkcCM => k_is)
    (case QexCM => k_is)
    (case QtyCM => k_is)
    (case QhdCM => k_is)
    (case QicCM => k_is)
    (case QcoCM => k_is)
    (case QmoCM => k_is)
    (case Qn0CM => k_is)
    (case QaCT => k_is)
    (case QxlCT => k_is)
    (case QsaCT => k_is)
    (case QgaCT => k_is)
    (case QggCT => k_is)
    (case QkcCT => k_is)
    (case QexCT => k_is)
    (case QtyCT => k_is)
    (case QhdCT => k_is)
    (case QicCT => k_is)
    (case QcoCT => k_is)
    (case QmoCT => k_is)
    (case Qn0CT => k_is)
    (case QaCE => k_is)
    (case QxlCE => k_is)
    (case QsaCE => k_is)
    (case QgaCE => k_is)
    (case QggCE => k_is)
    (case QkcCE => k_is)
    (case QexCE => k_is)
    (case QtyCE => k_is)
    (case QhdCE => k_is)
    (case QicCE => k_is)
    (case QcoCE => k_is)
    (case QmoCE => k_is)
    (case Qn0CE => k_is)
    (case QaCL => k_is)
    (case QxlCL => k_is)
    (case QsaCL => k_is)
    (case QgaCL => k_is)
    (case QggCL => k_is)
    (case QkcCL => k_is)
    (case QexCL => k_is)
    (case QtyCL => k_is)
    (case QhdCL => k_is)
    (case QicCL => k_is)
    (case QcoCL => k_is)
    (case QmoCL => k_is)
    (case Qn0CL => k_is)
    (case Qa1 => k_is)
    (case Qi1 => k_is)
    (case Ql1 => k_is)
    (case Qc1 => k_is)
    (case Qk1 => k_is)
    (case Qa2 => k_is)
    (case Qi2 => k_is)
    (case Ql2 => k_is)
    (case Qc2 => k_is)
    (case Qk2 => k_is)
    (case Qa3 => k_is)
    (case Qi3 => k_is)
    (case Ql3 => k_is)
    (case Qc3 => k_is)
    (case Qk3 => k_is)
    (case Qa4 => k_is)
    (case Qi4 => k_is)
    (case Ql4 => k_is)
    (case Qc4 => k_is)
    (case Qk4 => k_is)
    (case Qa5 => k_is)
    (case Qi5 => k_is)
    (case Ql5 => k_is)
    (case Qc5 => k_is)
    (case Qk5 => k_is)
    (case Qa6 => k_is)
    (case Qi6 => k_is)
    (case Ql6 => k_is)
    (case Qc6 => k_is)
    (case Qk6 => k_is)
    (case Qa7 => k_is)
    (case Qi7 => k_is)
    (case Ql7 => k_is)
    (case Qc7 => k_is)
    (case Qk7 => k_is)
    (case Qa8 => k_is)
    (case Qi8 => k_is)
    (case Ql8 => k_is)
    (case Qc8 => k_is)
    (case Qk8 => k_is)
    (case Qa9 => k_is)
    (case Qi9 => k_is)
    (case Ql9 => k_is)
    (case Qc9 => k_is)
    (case Qk9 => k_is)
    (case Qa10 => k_is)
    (case Ql10 => k_is)
    (case Qc10 => k_is)
    (case Qk10 => k_is)
    (case Qa11 => k_is)
    (case Ql11 => k_is)
    (case Qc11 => k_is)
    (case Qk11 => k_is)
    (case Qa12 => k_is)
    (case Ql12 => k_is)
    (case Qc12 => k_is)
    (case Qk12 => k_is)
    (case Qa13 => k_is)
    (case Ql13 => k_is)
    (case Qc13 => k_is)
    (case Qk13 => k_is)
    (case Qa14 => k_is)
    (case Ql14 => k_is)
    (case Qc14 => k_is)
    (case Qk14 => k_is)
    (case Qa15 => k_is)
    (case Ql15 => k_is)
    (case Qc15 => k_is)
    (case Qk15 => k_is)
    (case Qa16 => k_is)
    (case Ql16 => k_is)
    (case Qc16 => k_is)
    (case Qk16 => k_is)
    (case Qa17 => k_is)
    (case Ql17 => k_is)
    (case Qc17 => k_is)
    (case Qk17 => k_is)
    (case Qa18 => k_is)
    (case Ql18 => k_is)
    (case Qc18 => k_is)
    (case Qk18 => k_is)
    (case Qa19 => k_is)
    (case Ql19 => k_is)
    (case Qc19 => k_is)
    (case Qk19 => k_is)
    (case Qa20 => k_is)
    (case Ql20 => k_is)
    (case Qc20 => k_is)
    (case Qk20 => k_is)
    (case Qa21 => k_is)
    (case Qi21 => k_is)
    (case Ql21 => k_is)
    (case Qc21 => k_is)
    (case Qk21 => k_is)
    (case Qa22 => k_is)
    (case Qi22 => k_is)
    (case Ql22 => k_is)
    (case Qc22 => k_is)
    (case Qk22 => k_is)
    (case Qa23 => k_is)
    (case Qi23 => k_is)
    (case Ql23 => k_is)
    (case Qc23 => k_is)
    (case Qk23 => k_is)
    (case Qa24 => k_is)
    (case Ql24 => k_is)
    (case Qc24 => k_is)
    (case Qk24 => k_is)
    (case Qa25 => k_is)
    (case Ql25 => k_is)
    (case Qc25 => k_is)
    (case Qk25 => k_is)
    (case Qa26 => k_is)
    (case Ql26 => k_is)
    (case Qc26 => k_is)
    (case Qk26 => k_is)
    (case Qa27 => k_is)
    (case Ql27 => k_is)
    (case Qc27 => k_is)
    (case Qk27 => k_is)
    (case Qa28 => k_is)
    (case Ql28 => k_is)
    (case Qc28 => k_is)
    (case Qk28 => k_is)
    (case Qa29 => k_is)
    (case Ql29 => k_is)
    (case Qc29 => k_is)
    (case Qk29 => k_is)
    (case Qa30 => k_is)
    (case Ql30 => k_is)
    (case Qc30 => k_is)
    (case Qk30 => k_is)
    (case Qa31 => k_is)
    (case Ql31 => k_is)
    (case Qc31 => k_is)
    (case Qk31 => k_is)
    (case Qa32 => k_is)
    (case Ql32 => k_is)
    (case Qc32 => k_is)
    (case Qk32 => k_is)
    (case Qa33 => k_is)
    (case Ql33 => k_is)
    (case Qc33 => k_is)
    (case Qk33 => k_is)
    (case Qa34 => k_is)
    (case Ql34 => k_is)
    (case Qc34 => k_is)
    (case Qk34 => k_is)
    (case Qa35 => k_is)
    (case Ql35 => k_is)
    (case Qc35 => k_is)
    (case Qk35 => k_is)
    (case Qa36 => k_is)
    (case Ql36 => k_is)
    (case Qc36 => k_is)
    (case Qk36 => k_is)
    (case Qa37 => k_is)
    (case Ql37 => k_is)
    (case Qc37 => k_is)
    (case Qk37 => k_is)
    (case Qa38 => k_is)
    (case Ql38 => k_is)
    (case Qc38 => k_is)
    (case Qk38 => k_is)
    (case Qa39 => k_is)
    (case Ql39 => k_is)
    (case Qc39 => k_is)
    (case Qk39 => k_is)
    (case Qa40 => k_is)
    (case Ql40 => k_is)
    (case Qc40 => k_is)
    (case Qk40 => k_is)
    (case Qa41 => k_is)
    (case Ql41 => k_is)
    (case Qc41 => k_is)
    (case Qk41 => k_is)
    (case Qa42 => k_is)
    (case Ql42 => k_is)
    (case Qc42 => k_is)
    (case Qk42 => k_is)
    (case Qa43 => k_is)
    (case Ql43 => k_is)
    (case Qc43 => k_is)
    (case Qk43 => k_is)
    (case Qa44 => k_is)
    (case Ql44 => k_is)
    (case Qc44 => k_is)
    (case Qk44 => k_is)
    (case Qa45 => k_is)
    (case Ql45 => k_is)
    (case Qc45 => k_is)
    (case Qk45 => k_is)
    (case Qa46 => k_is)
    (case Ql46 => k_is)
    (case Qc46 => k_is)
    (case Qk46 => k_is)
    (case Qa47 => k_is)
    (case Ql47 => k_is)
    (case Qc47 => k_is)
    (case Qk47 => k_is)
    (case Qa48 => k_is)
    (case Ql48 => k_is)
    (case Qc48 => k_is)
    (case Qk48 => k_is)
    (case Qa49 => k_is)
    (case Ql49 => k_is)
    (case Qc49 => k_is)
    (case Qk49 => k_is)
    (case QlT => k_is)
    (case QoTd => rfl)
    (case Qlco => k_is)
    (case Qu11 => rfl)
    (case Qntb => rfl)
    (case Qhrec => decide +kernel)
    (case Qz0 => k_is)
    (case Qz1 => k_is)
    (case Qz2 => k_is)
    (case Qz3 => k_is)
    (case Qz4 => k_is)
    (case Qz5 => k_is)
    (case Qz6 => k_is)
    (case Qz7 => k_is)
    (case Qz8 => k_is)
    (case Qz9 => k_is)
    (case Qz10 => k_is)
    (case Qz11 => k_is)
    (case Qz12 => k_is)
    (case Qz13 => k_is)
    (case Qz14 => k_is)
    (case QgSI => k_is)
    (case QlSI => k_is)
    (case QcSI => rfl)
    (case QhSI => rfl)
    (case QdSI => rfl)
    (case QzSI => first | rfl | kernel_rfl)
    (case QgSO => k_is)
    (case QlSO => k_is)
    (case QcSO => rfl)
    (case QhSO => rfl)
    (case QdSO => rfl)
    (case QzSO => first | rfl | kernel_rfl)
    (case QaCS => k_is)
    (case QgaCS => k_is)
    (case QrdCS => k_is)
    (case QatCS => k_is)
    (case Qvi => k_is)
    (case QxCPCY => first | kit_is | kernel_rfl | k_is)
    (case QxCNCY => first | kit_is | kernel_rfl | k_is)
    (case QxCNCP => first | kit_is | kernel_rfl | k_is)
    (case QxCWCY => first | kit_is | kernel_rfl | k_is)
    (case QxCWCP => first | kit_is | kernel_rfl | k_is)
    (case QxCWCN => first | kit_is | kernel_rfl | k_is)
    (case QxCMCY => first | kit_is | kernel_rfl | k_is)
    (case QxCMCP => first | kit_is | kernel_rfl | k_is)
    (case QxCMCN => first | kit_is | kernel_rfl | k_is)
    (case QxCMCW => first | kit_is | kernel_rfl | k_is)
    (case QxCTCY => first | kit_is | kernel_rfl | k_is)
    (case QxCTCP => first | kit_is | kernel_rfl | k_is)
    (case QxCTCN => first | kit_is | kernel_rfl | k_is)
    (case QxCTCW => first | kit_is | kernel_rfl | k_is)
    (case QxCTCM => first | kit_is | kernel_rfl | k_is)
    (case QxCECY => first | kit_is | kernel_rfl | k_is)
    (case QxCECP => first | kit_is | kernel_rfl | k_is)
    (case QxCECN => first | kit_is | kernel_rfl | k_is)
    (case QxCECW => first | kit_is | kernel_rfl | k_is)
    (case QxCECM => first | kit_is | kernel_rfl | k_is)
    (case QxCECT => first | kit_is | kernel_rfl | k_is)
    (case QxCLCY => first | kit_is | kernel_rfl | k_is)
    (case QxCLCP => first | kit_is | kernel_rfl | k_is)
    (case QxCLCN => first | kit_is | kernel_rfl | k_is)
    (case QxCLCW => first | kit_is | kernel_rfl | k_is)
    (case QxCLCM => first | kit_is | kernel_rfl | k_is)
    (case QxCLCT => first | kit_is | kernel_rfl | k_is)
    (case QxCLCE => first | kit_is | kernel_rfl | k_is)
    (case Qcg => k_is)
    (case Qct => k_is)

