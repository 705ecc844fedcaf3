import PyProof.Rows.All
import Wide.All
import OpenK.AllK
import Wide.FinOn
import PyProof.EqAt
import PyProof.EqKinds
import PyProof.TupleCall
import HandS.Base
import HandS.Call
import HandS.List
import HandS.Comp
import HandS.Ends
import HandS.Text
import HandS.Exc
import HandS.Words
import HandS.WordsList
import HandS.Iter
import HandS.Dict
import HandS.Wide
import HandS.IsInst
import HandS.AnyAll
import HandS.EndBits
import HandS.EndTab
import KE.KEqDict
import KE.GoesMore
import KE.GoesEnum
import HandS.Walk
import HandS.DictComp
import HandS.GenList
import PyProof.ConsumeS
import HandS.Zip
import PyProof.ListStr
import HandS.More
import PyProof.Rows.RegFStrParts
import PyProof.Rows.ReprShort
import HandS.Conv
import HandS.RaiseMore
import HandS.TupAny
import HandS.CallLocal
import HandS.Replace
import PyProof.StrLawsChain
import PyProof.Rows.StrSplitAre
import PyProof.Rows.StrItems
import HandS.TryMany
import HandS.ExcOwn
import HandS.WordsExc
import HandS.ExcInit
import HandS.ExcField
import HandS.ExcIs
import KE.KExcIs
import KE.KIsAll
import PyProof.NeKinds
import HandS.NoneIn
import PySem.Challenge.RW_onestaff_k74_what_is_no_deed
set_option Elab.async false
set_option linter.all false
set_option maxRecDepth 100000
set_option maxHeartbeats 4000000
/-! Defs that show lists and tuples: they run where no display is under way. -/
namespace Gd
open PySem PySem.Spec PyProof.Rows L2

/-- a def's promise, kept wherever no display is under way -/
structure GOk (P : Program) (w : World) (K : PySem.W.Frag) (mg : Str → Option Value) (base : Heap) (CX : CXT) (k : Nat) (f : Addr) (fd : FuncData) (ps : List Str) (sp : Sp) : Prop where
  size : ∀ vs H Q E, sp vs H Q E → vs.length = ps.length
  go : ∀ (A : Around) (out : List Env) (s : Shared) (H : Hp) (ar : Args) (us : List Value) (vs : List V) (Q : VK) (E : XK), A.guards = some [] →
    Room k A → Env0 P w K mg base A out s H → BindsTo s fd ar (ps.zip us) → Vals vs us → sp vs H Q E →
    codeAny (model P w) A (.call (.ref f) ar) (CR CX out P w H s Q E) s

section
variable {P : Program} {w : World} {K : PySem.W.Frag} {mg : Str → Option Value} {base : Heap}

/-- by its body -/
theorem gok_body {CX : CXT} {k : Nat} {x qual : Str} {st : Stmt} {f : Addr} {fd : FuncData} {N ps : List Str} {sp : Sp} (F : Fun K x qual st f fd) (S : FnScope N ps (defScope st))
    (size : ∀ vs H Q E, sp vs H Q E → vs.length = ps.length)
    (body : ∀ (cd : Value) (A : Around) (out : List Env) (s : Shared) (H : Hp) (vs : List V) (Q : VK) (E : XK), A.guards = some [] →
      Room k (A.deeper (envOfC qual (defScope st) s.heap.objs.size f cd)) → sp vs H Q E →
      ∃ t, PSs (cxOf CX P w K mg base N qual (defScope st) f cd A out s H E) (defBody st) t ∧ t { nx := fun _ H' => Q .non H', rt := Q } (start N vs) H) :
    GOk P w K mg base CX (k + 1) f fd ps sp := by
  obtain ⟨oc, od, kV, doc, pm, an, cd, ct, osl, rfl, lk, hcd⟩ := F.ex
  refine ⟨size, fun A out s H ar us vs Q E gd hr e0 hb r hsp => ?_⟩
  have hl := size _ _ _ _ hsp
  have KX : K.In s.heap := e0.mod.kin.keeps fun b o z => (e0.bs b o z).1
  have kinds : ∀ y ∈ ps.zip us, (defScope st).names.lookup y.1 = some .local ∨
      ((defScope st).names.lookup y.1 = some .cell ∧ ((cellsFrom (s.heap.objs.size + 1) (defScope st).names []).lookup y.1).isSome = true) := by
    rintro ⟨n, v⟩ hy
    have hm := (List.of_mem_zip hy).1
    cases S.par n hm with
    | inl q => exact .inl q
    | inr q => exact .inr ⟨q, PySem.W.cellsFrom_some _ _ _ (.inl q)⟩
  have Z := PySem.W.codeRec_of KX hcd
  refine codeAny_call_function hr.depth (KX _ _ lk) rfl S.co S.gen rfl Z (hb _ _ _ _ ?_)
  refine wpAny_newFunctionEnv_cells S.kind kinds fun env he s1 ic => ?_
  subst he
  have lim : s.heap.NoLimit := e0.mod.nolimit.keeps fun b o z => (e0.bs b o z).1
  refine ⟨lim.keeps ic.toInCall.keep, codeAny_func ?_⟩
  obtain ⟨t, ht, hq⟩ := body cd A out s H vs Q E gd (hr.deeper _) hsp
  have I := inv_start (CX := CX) (E := E) S hr.hd e0 hl r ic
  refine wpAny_mono (ht.run [] s1 (start N vs) H _ I hq) ?_ (fun _ _ z => z)
  intro fl s' hs
  cases fl with
  | brk => obtain ⟨_, _, _, q⟩ := hs; exact q.elim
  | cont => obtain ⟨_, _, _, q⟩ := hs; exact q.elim
  | next =>
    obtain ⟨σ', H', J, q⟩ := hs
    exact ⟨V.non, H', J.os, J.bare, J.base, J.hok, rfl, q⟩
  | ret u =>
    obtain ⟨v, σ', H', J, rv, q⟩ := hs
    exact ⟨v, H', J.os, J.bare, J.base, J.hok, rv, q⟩
/-- the same where nothing is raised -/
theorem gok {k : Nat} {x qual : Str} {st : Stmt} {f : Addr} {fd : FuncData} {N ps : List Str} {sp : Sp} (F : Fun K x qual st f fd) (S : FnScope N ps (defScope st))
    (size : ∀ vs H Q E, sp vs H Q E → vs.length = ps.length)
    (body : ∀ (cd : Value) (A : Around) (out : List Env) (s : Shared) (H : Hp) (vs : List V) (Q : VK) (E : XK), A.guards = some [] →
      Room k (A.deeper (envOfC qual (defScope st) s.heap.objs.size f cd)) → sp vs H Q E →
      ∃ t, PSs (cxOf CX0 P w K mg base N qual (defScope st) f cd A out s H E).nox (defBody st) t ∧ t { nx := fun _ H' => Q .non H', rt := Q } (start N vs) H) :
    GOk P w K mg base CX0 (k + 1) f fd ps sp := by
  refine gok_body F S size fun cd A out s H vs Q E gd hr q => ?_
  obtain ⟨t, h, z⟩ := body cd A out s H vs Q E gd hr q
  exact ⟨t, h.nox, z⟩
theorem GOk.mono {CX : CXT} {j k : Nat} {f : Addr} {fd : FuncData} {ps : List Str} {sp : Sp} (F : GOk P w K mg base CX j f fd ps sp) (h : j ≤ k) : GOk P w K mg base CX k f fd ps sp :=
  ⟨F.size, fun A out s H ar us vs Q E gd hr => F.go A out s H ar us vs Q E gd (hr.mono h)⟩
theorem gok_of {CX : CXT} {k : Nat} {f : Addr} {fd : FuncData} {ps : List Str} {sp : Sp} (F : FnOk P w K mg base CX k f fd ps sp) : GOk P w K mg base CX k f fd ps sp :=
  ⟨F.len, fun A out s H ar us vs Q E _ hr => F.run A out s H ar us vs Q E hr⟩
end

section
variable {X : Cx} {CX : CXT} {k : Nat} {f : Addr} {fd : FuncData} {ps : List Str} {sp : Sp} {dvs : List V} {ds : List Value} {E : XK} {x : Str} {p pos : Pos} {e : Expr} {es : List Expr} {t : TA}
/-- f(e, ..), f such a def, from a body of such a def -/
theorem pe_gcall (gd : X.A.guards = some []) (F : GOk X.prog X.w X.K X.mg X.base CX k f fd ps sp) (hr : Room k X.A) (hg : Gl X x) (hm : X.mg x = some (.ref f)) (hk : PySem.W.keepIn X.K (.ref f) = true)
    (hb : Binds X.K fd ps ds) (hd : Vals dvs ds) (hx : Passes CX X E) (ha : PA X (e :: es) t) (hdb : (x == ("__debug__" : Str)) = false := by decide)
    (he : starEach (e :: es) X.env = (false, eval e X.env) :: starEach es X.env := by rfl) (hpl : (backTo pos (starEach es X.env)).any (·.1) = false := by rfl) :
    PE X (.Call (.Name x p) (e :: es) [] pos) (tCall sp dvs E t) := by
  refine ⟨fun pins s σ H Q I h => wpAny_Call_Name_kw (ld_glob I hg hm ?_ hdb)⟩
  have A1 := ha.run pos pins s σ H _ I h
  refine PySem.W.callWith_K (h₀ := X.base) I.ok.mod.kin hk (thn A1 ?_) he hpl
  rintro us s1 ⟨vs, H1, I1, r, q⟩
  refine ⟨I1.kIn, ?_⟩
  have both := r.append hd
  have hl : (us ++ ds).length = ps.length := (both.length).symm.trans (F.size _ _ _ _ q)
  have run1 := F.go X.A X.stack s1 H1 ⟨us, []⟩ (us ++ ds) (vs ++ dvs) Q E gd hr I1.env0 (hb s1 us I1.kIn hl) both q
  refine wpAny_call (codeAny_mono run1 ?_)
  intro res s' hq
  match res, hq with
  | .error e, hq => exact hx pins σ H1 s1 e s' I1 hq
  | .ok (.ret u), hq => exact I1.after hq
  | .ok .next, hq => exact hq.elim
  | .ok .brk, hq => exact hq.elim
  | .ok .cont, hq => exact hq.elim

/-! ### repr of data -/
mutual
theorem dp_noDict {K : PySem.W.Frag} {H : Hp} : ∀ {v : V} {d : PyData}, Dp K H v d → d.hasDict = false
  | _, _, .non => by simp only [PyData.hasDict]
  | _, _, .bl _ => by simp only [PyData.hasDict]
  | _, _, .int _ => by simp only [PyData.hasDict]
  | _, _, .str _ => by simp only [PyData.hasDict]
  | _, _, .lst _ h => by simp only [PyData.hasDict]; exact dpAll_noDict h
  | _, _, .tup _ h => by simp only [PyData.hasDict]; exact dpAll_noDict h
theorem dpAll_noDict {K : PySem.W.Frag} {H : Hp} : ∀ {vs : List V} {ds : List PyData}, DpAll K H vs ds → PyData.hasDictAll ds = false
  | _, _, .nil => by simp only [PyData.hasDictAll]
  | _, _, .cons h t => by simp only [PyData.hasDictAll, dp_noDict h, dpAll_noDict t, Bool.or_self]
end
/-- repr(v), v some data d -/
def rRepr (K : PySem.W.Frag) : List V → Hp → VK → Prop := fun xs H Q => ∃ v d, xs = [v] ∧ Dp K H v d ∧ d.showable = true ∧ d.depth ≤ 100 ∧ d.shown.length ≤ sizeLine ∧ Q (.str d.shown) H
theorem call_repr (gd : X.A.guards = some []) (hr : Room k X.A) : CallR X (.builtin "repr") (rRepr X.K) := by
  intro pins s σ H xs us Q I r h
  obtain ⟨v, d, rfl, dp, hs, hdep, hsz, q⟩ := h
  cases r with
  | cons rv rn =>
    cases rn
    have hun := hr.un
    cases dp with
    | non =>
      cases rv
      refine PySem.P.repr_of_none ⟨.str _, H, I.tok _, ⟨_, rfl⟩, ?_⟩
      simpa only [PyData.shown] using q
    | bl b =>
      cases rv
      refine PySem.P.repr_of_bool ⟨.str _, H, I.tok _, ⟨_, rfl⟩, ?_⟩
      simpa only [PyData.shown] using q
    | int i =>
      obtain ⟨t, rfl⟩ := rv
      refine PySem.P.repr_of_int (by simpa [PyData.showable] using hs) ⟨.str _, H, I.tok _, ⟨_, rfl⟩, ?_⟩
      simpa only [PyData.shown] using q
    | str z =>
      obtain ⟨t, rfl⟩ := rv
      refine PySem.P.repr_of_str ⟨.str _, H, I.tok _, ⟨_, rfl⟩, ?_⟩ (by simpa only [PyData.shown] using hsz)
      simpa only [PyData.shown] using q
    | lst hl ha =>
      cases rv
      obtain ⟨as, rd⟩ := Dp.reads I _ _ _ (.lst hl ha) rfl
      refine repr_of_reads' rd hs (PyData.noDict_hsm (dp_noDict (.lst hl ha))) gd (by omega) (fun _ _ z => z) (fun h' u tk hk => ?_) hsz
      exact ⟨.str _, H, I.kept hk, ⟨_, rfl⟩, q⟩
    | tup hl ha =>
      cases rv
      obtain ⟨as, rd⟩ := Dp.reads I _ _ _ (.tup hl ha) rfl
      refine repr_of_reads' rd hs (PyData.noDict_hsm (dp_noDict (.tup hl ha))) gd (by omega) (fun _ _ z => z) (fun h' u tk hk => ?_) hsz
      exact ⟨.str _, H, I.kept hk, ⟨_, rfl⟩, q⟩
end
end Gd

set_option maxRecDepth 100000
set_option maxHeartbeats 4000000
/-! The end of a law whose own def shows data: no display is under way at its call. -/
namespace Gd
open PySem PySem.Spec PyProof.Rows L2 GxR

/-- the script's own object -/
def scriptO (vs : List Value) : Obj := { cls := .type "list", data := .seq vs.toArray }
def tabO : Obj := { cls := .none, data := .fields #[] }
open Classical in
/-- what is tracked at the law's call: the script (where the written part hasn't it), the tables -/
noncomputable def h0 (K : PySem.W.Frag) (a : Addr) (vs : List Value) (ns : List Int) (T : List Addr) : Hp := fun b =>
  if b = a ∧ K.lookup a = none then some (.frz (scriptO vs) (.lst (ns.map V.int))) else if b ∈ T then some (.tbl #[]) else none

theorem h0_inv {K : PySem.W.Frag} {a b : Addr} {vs : List Value} {ns : List Int} {T : List Addr} {u : HO} (h : h0 K a vs ns T b = some u) :
    (b = a ∧ K.lookup a = none ∧ u = .frz (scriptO vs) (.lst (ns.map V.int))) ∨ (b ∈ T ∧ u = .tbl #[]) := by
  unfold h0 at h
  by_cases c1 : b = a ∧ K.lookup a = none
  · rw [if_pos c1] at h
    exact .inl ⟨c1.1, c1.2, (Option.some.inj h).symm⟩
  · rw [if_neg c1] at h
    by_cases c2 : b ∈ T
    · rw [if_pos c2] at h
      exact .inr ⟨c2, (Option.some.inj h).symm⟩
    · rw [if_neg c2] at h
      cases h

section
variable {P : Program} {w : World} {K : PySem.W.Frag} {mg mb : Str → Option Value} {CX : CXT} {k : Nat} {fa a : Addr} {cs : List (Addr × Addr)} {fd : FuncData} {x : Str} {sp : Sp} {s1 : Shared} {vs : List Value} {ns : List Int}
theorem law_gcall (KX : K.In s1.heap) (nsG : s1.heap.Ns mainGlobals mg) (nsB : s1.heap.Ns builtinsNs mb) (isB : ∀ x : Str, x ≠ "__name__" → mb x = bootBuiltins x) (lim : s1.heap.NoLimit) (gens : s1.gens = #[])
    (tabs : ∀ p ∈ cs, s1.heap.get? p.2 = some tabO) (tabK : ∀ p ∈ cs, K.lookup p.2 = none) (codes : ∀ p ∈ cs, PySem.W.CodeHd s1.heap p.1 p.2)
    (bmain : ∃ (bm : Addr) (ob : Obj), mg "__builtins__" = some (.ref bm) ∧ bm ≠ builtinsNs ∧ s1.heap.get? bm = some ob ∧ ob.cls = .type "module" ∧ ob.dict = some builtinsNs ∧ ob.data = .plain)
    (ha : s1.heap.get? a = some (scriptO vs)) (hi : IntsAre vs ns) (hl : ns.length ≤ sizeLine) (hr : Room k callerA)
    (F : ∀ base : Heap, K.In base → base.Ns mainGlobals mg → (∀ p ∈ cs, TabB base mg p.1 p.2) → GOk P w K mg base CX k fa fd [x] sp)
    (hbind : ∀ (s : Shared) (u : Value), BindsTo s fd ⟨[u], []⟩ [(x, u)])
    (hsp : ∀ H : Hp, (∀ p ∈ cs, H p.2 = some (.tbl #[])) → SqL K H a (ns.map V.int) → sp [.ref a] H (fun v _ => v = .bl true) fun _ _ _ => False)
    (hCX : ∀ H e s', CX [] H s1 (fun _ _ _ => False) e s' → False) :
    codeAny (model P w) callerA (.call (.ref fa) ⟨[.ref a], []⟩) (fun r s' => r = .ok (.ret (.bool true)) ∧ OldK s1.heap s'.heap ∧ s'.os = s1.os ∧ AllBare s'.gens) s1 := by
  have rv := vals_ints hi
  have hlen := hi.length
  let T := cs.map Prod.snd
  have inT : ∀ p ∈ cs, p.2 ∈ T := fun p hp => List.mem_map.mpr ⟨p, hp, rfl⟩
  have ofT : ∀ b ∈ T, s1.heap.get? b = some tabO ∧ K.lookup b = none := by
    intro b hb
    obtain ⟨p, hp, rfl⟩ := List.mem_map.mp hb
    exact ⟨tabs p hp, tabK p hp⟩
  have neT : a ∉ T := fun z => by
    have q := (ofT a z).1
    rw [ha] at q
    cases q
  let H := h0 K a vs ns T
  -- a tracked object is the script or a table
  have seen : ∀ {b : Addr} {o : Obj}, s1.heap.get? b = some o → (∀ us n, o.data ≠ .seq us n) → o.data ≠ .fields #[] → H b = none := by
    intro b o e n1 n2
    cases q : H b with
    | none => rfl
    | some u =>
      exfalso
      rcases h0_inv q with ⟨rfl, _, _⟩ | ⟨hb, _⟩
      · rw [ha] at e
        cases e
        exact n1 _ _ rfl
      · rw [(ofT b hb).1] at e
        cases e
        exact n2 rfl
  have keepHid : ∀ {b : Addr} {o : Obj}, s1.heap.get? b = some o → H b = none → (hidT s1.heap H).get? b = some o := fun e n => hidT_get e n
  have dictHid : ∀ {b : Addr} {o : Obj} {es : Array DictEntry} {ep : Nat}, s1.heap.get? b = some o → o.data = .dict es ep → (hidT s1.heap H).get? b = some o := by
    intro b o es ep e d
    refine keepHid e (seen e (fun us n z => ?_) fun z => ?_) <;> (rw [d] at z; cases z)
  have nsHid : ∀ {b : Addr} {m : Str → Option Value}, s1.heap.Ns b m → (hidT s1.heap H).Ns b m := by
    rintro b m ⟨o, es, ep, e, d, rest⟩
    exact ⟨o, es, ep, dictHid e d, d, rest⟩
  have KH : K.In (hidT s1.heap H) := by
    intro b o e
    refine keepHid (KX b o e) ?_
    cases q : H b with
    | none => rfl
    | some u =>
      exfalso
      rcases h0_inv q with ⟨rfl, z, _⟩ | ⟨hb, _⟩
      · rw [z] at e
        cases e
      · rw [(ofT b hb).2] at e
        cases e
  have limH : (hidT s1.heap H).NoLimit := by
    obtain ⟨mc, h1, h2⟩ := lim
    exact ⟨mc, nsHid h1, h2⟩
  have M : L2.Mod K mg (hidT s1.heap H) := ⟨KH, nsHid nsG, ⟨mb, nsHid nsB, isB⟩, limH⟩
  have TB : ∀ p ∈ cs, TabB (hidT s1.heap H) mg p.1 p.2 := by
    intro p hp
    have tp := tabs p hp
    refine ⟨?_, ?_, ?_⟩
    · obtain ⟨o, us, file, tf, flags, tg, inF, text, tt, e1, r1, r2, r3, rest⟩ := codes p hp
      refine ⟨o, us, file, tf, flags, tg, inF, text, tt, keepHid e1 (seen e1 (fun vs n z => ?_) fun z => ?_), r1, r2, r3, rest⟩
      · rw [r2] at z
        cases z
      · rw [r2] at z
        cases z
        simp at r3
    · obtain ⟨bm, ob, b1, b2, b3, b4, b5, b6⟩ := bmain
      have g1 : bm ≠ mainGlobals := by
        rintro rfl
        obtain ⟨o, es, ep, e, d, _⟩ := nsG
        rw [b3] at e
        cases e
        rw [b6] at d
        cases d
      have g2 : bm ≠ p.2 := by
        rintro rfl
        rw [tp] at b3
        cases b3
        cases b6
      refine ⟨bm, ob, b1, b2, g1, g2, keepHid b3 (seen b3 (fun vs n z => ?_) fun z => ?_), b4, b5, b6⟩ <;> (rw [b6] at z; cases z)
    · intro z
      obtain ⟨o, es, ep, e, d, _⟩ := nsG
      rw [z, tp] at e
      cases e
      cases d
  have hH : ∀ p ∈ cs, H p.2 = some (.tbl #[]) := by
    intro p hp
    have n1 : ¬ (p.2 = a ∧ K.lookup a = none) := fun z => neT (z.1 ▸ inT p hp)
    exact (if_neg n1).trans (if_pos (inT p hp))
  have hS : SqL K H a (ns.map V.int) := by
    cases q : K.lookup a with
    | none => exact .inl (.inr ⟨scriptO vs, if_pos ⟨rfl, q⟩⟩)
    | some o =>
      have e := KX a o q
      rw [ha] at e
      cases e
      exact .inr ⟨_, vs.toArray, _, q, rfl, rfl, rfl, by rw [List.size_toArray, hlen]; exact hl, by simpa using rv⟩
  have hok : HOk P w H s1.heap := by
    intro b u q
    rcases h0_inv q with ⟨rfl, _, rfl⟩ | ⟨hb, rfl⟩
    · exact ⟨ha, by rw [List.length_map]; exact hl, vs, _, rv, ha⟩
    · exact (ofT b hb).1
  have e0 : Env0 P w K mg (hidT s1.heap H) callerA [] s1 H :=
    ⟨rfl, M, fun b o e => of_hidT e, Nat.le_of_eq (hidT_size _ _), trivial, (fun b hb => by cases (show b ∈ ([] : List Addr) from hb)), hok, .of_eq gens⟩
  have run := (F _ KH (nsHid nsG) TB).go callerA [] s1 H ⟨[.ref a], []⟩ [.ref a] [.ref a] (fun v _ => v = .bl true) (fun _ _ _ => False) rfl hr e0 (hbind s1 (.ref a)) (.cons rfl .nil) (hsp H hH hS)
  refine codeAny_mono run ?_
  intro r s' h
  match r, h with
  | .error e, h => exact (hCX H e s' h).elim
  | .ok .next, h => exact h.elim
  | .ok .brk, h => exact h.elim
  | .ok .cont, h => exact h.elim
  | .ok (.ret u), h =>
    obtain ⟨v, H', os, bare, un, hok', r', q⟩ := h
    obtain rfl : v = .bl true := q
    obtain rfl : u = Value.bool true := r'
    have plain : ∀ b o, b ∉ T → s1.heap.get? b = some o → s'.heap.get? b = some o := by
      intro b o nb e
      cases q : H b with
      | none => exact un.keep b o e q (fun z => by cases (show b ∈ ([] : List Addr) from z)) (by simp)
      | some y =>
        rcases h0_inv q with ⟨rfl, _, rfl⟩ | ⟨hb, _⟩
        · obtain ⟨e2, _⟩ := hok' b _ (un.frzs b _ _ q)
          rw [ha] at e
          cases e
          exact e2
        · exact absurd hb nb
    have grown : ∀ p ∈ cs, ∃ more : Array Value, s'.heap.get? p.2 = some { cls := .none, data := .fields more } := by
      intro p hp
      obtain ⟨more, z⟩ := un.tbls p.2 #[] (hH p hp)
      exact ⟨_, hok' p.2 _ z⟩
    refine ⟨rfl, ⟨fun b o e => ?_, fun b o e => ?_⟩, os, bare⟩ <;> by_cases hb : b ∈ T
    · obtain ⟨p, hp, rfl⟩ := List.mem_map.mp hb
      obtain ⟨more, hm⟩ := grown p hp
      rw [tabs p hp] at e
      cases e
      exact .inr (.inl ⟨((codes p hp).tab (tabs p hp)).isCodeTable, rfl, #[], more, rfl, by rw [Array.empty_append]; exact hm⟩)
    · exact .inl (plain b o hb e)
    · obtain ⟨p, hp, rfl⟩ := List.mem_map.mp hb
      obtain ⟨more, hm⟩ := grown p hp
      exact ⟨_, hm⟩
    · exact ⟨o, plain b o hb e⟩
end

/-- the tables of the text's own defs are empty behind the top -/
def Empt (q : Program) (K : PySem.W.Frag) (h : Heap) : Prop := ∀ (x : Str) (f c t : Addr) (o : Obj) (fd : FuncData) (e : Value) (dd : Option Addr) (us : Array Value) (sl : Array (Option Value)),
  ((PyProof.Rows.recsOf q).any fun r => r.name == x) = true → PySem.W.nsIn K mainGlobals x = some (some (.ref f)) → K.lookup f = some o → o.data = .func fd → fd.code = .ref c →
  K.lookup c = some ⟨e, dd, .fields us, sl⟩ → us[11]? = some (.ref t) → PySem.W.CodeHd h c t ∧ h.get? t = some tabO
/-- what is to be known of the law at the head's heap -/
def GLaw (l : PySem.W.OpenLaw) (w : World) (K : PySem.W.Frag) (CX : CXT) (k n : Nat) (x : Str) (mg : Str → Option Value) (fa : Addr) (h : Heap) : Prop :=
  ∃ (fd : FuncData) (cs : List (Addr × Addr)) (sp : Sp), (∀ p ∈ cs, h.get? p.2 = some tabO) ∧ (∀ p ∈ cs, K.lookup p.2 = none) ∧ (∀ p ∈ cs, PySem.W.CodeHd h p.1 p.2) ∧
    (∀ (s : Shared) (u : Value), BindsTo s fd ⟨[u], []⟩ [(x, u)]) ∧
    (∀ (H : Hp) (a : Addr) (ns : List Int), ns.length ≤ n → (∀ z ∈ ns, Builtin.Int.intBits z ≤ 1048576) → (∀ p ∈ cs, H p.2 = some (.tbl #[])) → SqL K H a (ns.map V.int) →
      sp [.ref a] H (fun v _ => v = .bl true) fun _ _ _ => False) ∧
    ∀ base : Heap, K.In base → base.Ns mainGlobals mg → (∀ p ∈ cs, TabB base mg p.1 p.2) → GOk l.prog w K mg base CX k fa fd [x] sp
theorem walk_g {l : PySem.W.OpenLaw} {n k : Nat} {q : Program} {loose : List Str} {XP : (Str → Option Value) → Heap → Prop} {YP : World → Heap → Prop} {d : DefRec} {K : Params → PySem.W.Frag} {CX : World → CXT} {x : Str}
    (hn : l.most = some n) (small : n ≤ sizeLine) (hdf : d.params.defaults = []) (hr : Room k callerA) (hY : ∀ (w : World) (h : Heap), YP w h → (K w.params).In h)
    (F : ∀ (w : World) (mg : Str → Option Value) (fa : Addr) (h : Heap), YP w h → (K w.params).In h → h.Ns mainGlobals mg → mg d.name = some (.ref fa) → Empt q (K w.params) h → GLaw l w (K w.params) (CX w) k n x mg fa h)
    (hCX : ∀ (w : World) (H : Hp) (s : Shared) (e : Value) (s' : Shared), CX w [] H s (fun _ _ _ => False) e s' → False) :
    PySem.W.WalkO q loose XP YP l.row.toRowW d [] (fun f vs => PySem.call f vs) := by
  refine Att.attach_callB hn hdf ?_
  intro w sA s1 mg mb fa o pm cd doc a vs ns G Y ho hd hcd hmg hobj hints hlen hbits hg
  have KX := hY w _ Y
  have em : Empt q (K w.params) s1.heap := by
    intro x f c t o1 fd1 e dd us sl hx k1 k2 k3 k4 k5 k6
    obtain ⟨r, hr1, hr2⟩ := List.any_eq_true.mp hx
    have hn1 : r.name = x := beq_iff_eq.mp hr2
    obtain ⟨a1, o2, fd2, c2, t2, y1, y2, y3, y4, y5, y6⟩ := G.T.tab r hr1
    have z1 := PySem.W.mg_of KX G.T.g k1
    rw [hn1, z1] at y1
    cases y1
    have z2 := KX _ _ k2
    rw [z2] at y2
    cases y2
    rw [k3] at y3
    cases y3
    rw [k4] at y4
    cases y4
    have y6b := y6
    obtain ⟨⟨oc, vc, e1, e2, e3, e4⟩, hP⟩ := y6b
    have z5 := KX _ _ k5
    rw [z5] at e1
    cases e1
    cases e3
    rw [k6] at e4
    cases e4
    exact ⟨PySem.W.CodeHd.of y5 y6, hP⟩
  obtain ⟨fd, cs, sp, t1, t2, t3, hb, hsp, hF⟩ := F w mg fa _ Y KX G.T.g hmg em
  exact law_gcall KX G.T.g G.T.b G.T.builtins G.T.nolimit hg t1 t2 t3 G.T.bmain hobj hints (Nat.le_trans hlen small) hr hF hb (fun H a1 a2 => hsp H a ns hlen hbits a1 a2) (fun H e s' => hCX w H s1 e s')
end Gd

set_option maxRecDepth 100000
set_option maxHeartbeats 4000000
/-! Things, boxes, texts: what the laws share, over no program. -/
namespace My
open PySem PySem.Spec PyProof.Rows L2 GxR Gd TL
/-! ### things -/
def Good (z : Str) : Prop := ∀ c ∈ z.cps.toList, c < 1114112
inductive Th (H : Hp) : V → Prop
  | non : Th H .non
  | bl (b : Bool) : Th H (.bl b)
  | int (i : Int) : Th H (.int i)
  | str (z : Str) (h : z.length ≤ 1000000) (g : Good z) : Th H (.str z)
  | lst (a : Addr) (xs : List V) (h : H a = some (.lst xs)) : Th H (.ref a)
  | tup (a : Addr) (xs : List V) (h : H a = some (.tup xs)) : Th H (.ref a)
  | dic (a : Addr) {kvs : List (Key × V)} (h : H a = some (.dK kvs)) : Th H (.ref a)
def lc (c : Nat) : Bool := decide (97 ≤ c) && decide (c ≤ 122)
def nm : V → Bool
  | .str z => decide (1 ≤ z.length) && decide (z.length ≤ 6) && z.cps.toList.all lc
  | _ => false
def wh (lo hi : Int) : V → Bool
  | .int i => decide (lo ≤ i) && decide (i ≤ hi)
  | _ => false
/-- its kind -/
theorem Th.ty {K : PySem.W.Frag} {H : Hp} {v : V} (h : Th H v) : ∃ t, TyX K H v (.type t) ∧
    ((∃ i, v = .int i ∧ t = "int") ∨ (∃ b, v = .bl b ∧ t = "bool") ∨ (∃ z, v = .str z ∧ (z.length ≤ 1000000 ∧ Good z) ∧ t = "str") ∨
     ((∀ i, v ≠ .int i) ∧ (∀ b, v ≠ .bl b) ∧ (∀ z, v ≠ .str z) ∧ (t = "NoneType" ∨ t = "list" ∨ t = "tuple" ∨ t = "dict"))) := by
  cases h with
  | non => exact ⟨_, .base .non, .inr (.inr (.inr ⟨by simp, by simp, by simp, .inl rfl⟩))⟩
  | bl b => exact ⟨_, .base (.bl b), .inr (.inl ⟨b, rfl, rfl⟩)⟩
  | int i => exact ⟨_, .base (.int i), .inl ⟨i, rfl, rfl⟩⟩
  | str z h g => exact ⟨_, .base (.str z), .inr (.inr (.inl ⟨z, rfl, ⟨h, g⟩, rfl⟩))⟩
  | lst a xs h => exact ⟨_, .base (.lst h), .inr (.inr (.inr ⟨by simp, by simp, by simp, .inr (.inl rfl)⟩))⟩
  | tup a xs h => exact ⟨_, .base (.tup h), .inr (.inr (.inr ⟨by simp, by simp, by simp, .inr (.inr (.inl rfl))⟩))⟩
  | dic a h => exact ⟨_, .base (.dK h), .inr (.inr (.inr ⟨by simp, by simp, by simp, .inr (.inr (.inr rfl))⟩))⟩
/-- all but the table stays -/
structure KT (P : Addr) (H H' : Hp) : Prop where
  keep : ∀ c o, c ≠ P → H c = some o → H' c = some o
  tab : TabG H' P
theorem TabG.at {H : Hp} {P : Addr} (t : TabG H P) : ∃ ps, H P = some (.tbl ps) := let ⟨ps, h, _⟩ := t; ⟨ps, h⟩
theorem ne_tab {H : Hp} {P a : Addr} {o : HO} (t : TabG H P) (h : H a = some o) (n : ∀ ps, o ≠ .tbl ps) : a ≠ P := by
  rintro rfl
  obtain ⟨ps, e⟩ := TabG.at t
  rw [h] at e
  exact n ps (Option.some.inj e)
theorem KT.refl {P : Addr} {H : Hp} (t : TabG H P) : KT P H H := ⟨fun _ _ _ h => h, t⟩
theorem KT.trans {P : Addr} {H H1 H2 : Hp} (a : KT P H H1) (b : KT P H1 H2) : KT P H H2 := ⟨fun c o n h => b.keep c o n (a.keep c o n h), b.tab⟩
theorem KT.of {P : Addr} {H H' : Hp} (t : Tabbed P H H') : KT P H H' := ⟨fun c o n h => by rw [t.2 c n]; exact h, t.1⟩
theorem KT.alloc {P p : Addr} {H : Hp} {o : HO} (t : TabG H P) (n : H p = none) : KT P H (upd H p o) := by
  obtain ⟨ps, e, ht⟩ := t
  refine ⟨fun c q _ h => by rw [upd_ne (ne_of_none h n)]; exact h, ps, by rw [upd_ne (ne_of_none e n)]; exact e, ht⟩
theorem Th.kt {P : Addr} {H H' : Hp} (t : TabG H P) (k : KT P H H') {v : V} (h : Th H v) : Th H' v := by
  cases h with
  | non => exact .non
  | bl b => exact .bl b
  | int i => exact .int i
  | str z h g => exact .str z h g
  | lst a xs h => exact .lst a xs (k.keep _ _ (ne_tab t h (by simp)) h)
  | tup a xs h => exact .tup a xs (k.keep _ _ (ne_tab t h (by simp)) h)
  | dic a h => exact .dic a (k.keep _ _ (ne_tab t h (by simp)) h)

theorem elt_between {prog : Program} {w : World} {scope : Scope} {x a b : Str} {j1 j2 : Nat} {p1 p2 p3 p4 : Pos} (hk : scope.kind = .function) (hl : scope.names.lookup x = some .local)
    (hd : (x == ("__debug__" : Str)) = false := by decide) :
    EltP prog w scope x (.Compare (.Constant (.str a) j1 p1) [.LtE, .LtE] [.Name x p2, .Constant (.str b) j2 p3] p4) (fun c => !decide ([c] < a.cps.toList) && !decide (b.cps.toList < [c])) := by
  intro cenv A' E' c t s2 m2 hs hn hm
  refine Compare_chain ?_ (by with_unfolding_all rfl)
  refine Calls.Constant_str (chain_link ?_)
  refine wpAny_Name (wpAny_loadName_local (by rw [hs]; exact hk) (show cenv.scope.names.lookup x = some .local by rw [hs]; exact hl) hn hm ?_) hd
  refine PySem.P.le_str ?_
  refine wpAny_truthy_bool ?_
  cases q : decide ([c] < a.cps.toList) with
  | true =>
    refine ite_ff ⟨?_, keeps_tok _ _⟩
    have q' : decide ((⟨#[c]⟩ : Str).cps.toList < a.cps.toList) = true := q
    simp [q']
  | false =>
    refine ite_tt (chain_last ?_)
    refine Calls.Constant_str ?_
    refine PySem.P.le_str ⟨?_, keeps_tok _ _⟩
    have q2 : ¬ [c] < a.cps.toList := of_decide_eq_false q
    simp [List.not_lt.mp q2]
def genSc : Scope := { kind := ScopeKind.function, names := [(Str.ofString ".0", NameKind.local), (Str.ofString "sign", NameKind.local)], isGenerator := true, isCoroutine := false }
theorem no_free : ∀ y ∈ genSc.names, y.2 ≠ NameKind.free := by decide +kernel
theorem one_lt (c d : Nat) : [c] < [d] ↔ c < d := by
  rw [List.cons_lt_cons_iff]
  constructor
  · rintro (h | ⟨_, h⟩)
    · exact h
    · exact absurd h (List.not_lt_nil _)
  · exact .inl
theorem lc_eq (c : Nat) : (!decide ([c] < [97]) && !decide ([122] < [c])) = lc c := by
  unfold lc
  rw [Bool.eq_iff_iff]
  simp only [Bool.and_eq_true, Bool.not_eq_true', decide_eq_false_iff_not, decide_eq_true_eq, one_lt]
  omega
/-! ### the box -/
def Bx (b : Addr) (n : Int) (H : Hp) : Prop := ∃ x y z : Int, H b = some (.lst [.int x, .int y, .int z]) ∧ 0 ≤ x ∧ 0 ≤ y ∧ y < 2147483629 ∧ 0 ≤ z ∧ z ≤ n
theorem Bx.same {b : Addr} {n : Int} {H H' : Hp} (h : Bx b n H) (e : H' b = H b) : Bx b n H' := by
  obtain ⟨x, y, z, h1, r⟩ := h
  exact ⟨x, y, z, e.trans h1, r⟩
theorem Bx.mono {b : Addr} {n m : Int} {H : Hp} (h : Bx b n H) (e : n ≤ m) : Bx b m H := by
  obtain ⟨x, y, z, h1, h2, h3, h4, h5, h6⟩ := h
  exact ⟨x, y, z, h1, h2, h3, h4, h5, by omega⟩
theorem i0 (a b c : V) : atI [a, b, c] 0 = some a := rfl
theorem i1 (a b c : V) : atI [a, b, c] 1 = some b := rfl
theorem i2 (a b c : V) : atI [a, b, c] 2 = some c := rfl
theorem j0 : ixN 3 0 = some 0 := rfl
theorem j2 : ixN 3 2 = some 2 := rfl
/-! ### lists and texts -/
theorem atI_ex {α : Type} {xs : List α} {d : Int} (h0 : 0 ≤ d) (h1 : d < xs.length) : ∃ v, v ∈ xs ∧ atI xs d = some v := by
  obtain ⟨j, rfl⟩ := Int.eq_ofNat_of_zero_le h0
  have hj : j < xs.length := by omega
  exact ⟨xs[j], List.getElem_mem hj, atI_nat (List.getElem?_eq_getElem hj)⟩
theorem joinL_len (S : List Nat) : ∀ ps : List (List Nat), (joinL S ps).length ≤ (ps.map List.length).sum + ps.length * S.length
  | [] => by simp [joinL]
  | [p] => by simp [joinL]
  | p :: q :: r => by
    have ih := joinL_len S (q :: r)
    have e : joinL S (p :: q :: r) = p ++ (S ++ joinL S (q :: r)) := rfl
    rw [e, List.length_append, List.length_append, List.map_cons, List.sum_cons, List.length_cons, Nat.succ_mul]
    omega
theorem tl_len (z : Str) : (tl z).length = z.length := by
  show z.cps.toList.length = z.cps.size
  simp
theorem join_len (y : Str) (ps : List Str) : (Txt.join y ps).length ≤ (ps.map (·.length)).sum + ps.length * y.length := by
  have h := joinL_len (tl y) (ps.map tl)
  rw [← tl_len, join_eq, tl_join]
  have e : (ps.map tl).map List.length = ps.map (·.length) := by
    rw [List.map_map]
    exact List.map_congr_left fun z _ => tl_len z
  rw [e, List.length_map, tl_len] at h
  exact h
theorem sum_ones (ps : List Str) (h : ∀ z ∈ ps, z.length ≤ 1) : (ps.map (·.length)).sum ≤ ps.length := by
  induction ps with
  | nil => simp
  | cons a r ih =>
    have h1 := h a List.mem_cons_self
    have h2 := ih fun z hz => h z (List.mem_cons_of_mem _ hz)
    simp only [List.map_cons, List.sum_cons, List.length_cons]
    omega
theorem lcY {A : TE} {σ : L2.St} {H : Hp} {G : VK} {B : Hp → Prop} (h : A σ H G) : tYes σ H (fun b H3 => if b = true then A σ H3 G else B H3) := by
  show if true = true then A σ H G else B H
  exact iteT h
theorem good_app {a b : Str} (h : Good a) (k : Good b) : Good (a ++ b) := fun c hc => by
  have e : (a ++ b).cps.toList = a.cps.toList ++ b.cps.toList := tl_append a b
  rw [e] at hc
  exact (List.mem_append.mp hc).elim (h c) (k c)
theorem good_cut {a : Str} (h : Good a) (lo hi : Option Int) : Good (cutS a lo hi) := fun c hc => by
  unfold cutS at hc
  exact h c (List.mem_of_mem_drop (List.mem_of_mem_take (by simpa using hc)))
theorem good_joinL {S : List Nat} (hS : ∀ c ∈ S, c < 1114112) : ∀ ps : List (List Nat), (∀ p ∈ ps, ∀ c ∈ p, c < 1114112) → ∀ c ∈ joinL S ps, c < 1114112
  | [], _, c, h => by simp [joinL] at h
  | [p], hp, c, h => hp p List.mem_cons_self c (by simpa [joinL] using h)
  | p :: q :: r, hp, c, h => by
    have e : joinL S (p :: q :: r) = p ++ (S ++ joinL S (q :: r)) := rfl
    rw [e, List.mem_append, List.mem_append] at h
    rcases h with h | h | h
    · exact hp p List.mem_cons_self c h
    · exact hS c h
    · exact good_joinL hS (q :: r) (fun z hz => hp z (List.mem_cons_of_mem _ hz)) c h
theorem good_join {y : Str} {ps : List Str} (hy : Good y) (h : ∀ z ∈ ps, Good z) : Good (Txt.join y ps) := fun c hc => by
  have e : (Txt.join y ps).cps.toList = joinL (tl y) (ps.map tl) := by rw [join_eq]; exact tl_join y ps
  rw [e] at hc
  refine good_joinL hy _ (fun p hp => ?_) c hc
  obtain ⟨z, hz, rfl⟩ := List.mem_map.mp hp
  exact h z hz
theorem good_of (x : String) : Good (Str.ofString x) := fun c hc => by
  have e : (Str.ofString x).cps.toList = x.toList.map Char.toNat := by
    rw [Str.ofString_eq_toList]
  rw [e] at hc
  obtain ⟨d, _, rfl⟩ := List.mem_map.mp hc
  have := d.valid
  unfold UInt32.isValidChar Nat.isValidChar at this
  show d.val.toNat < 1114112
  omega
theorem good_one {z : Str} {c : Nat} (h : Good z) (hc : c ∈ z.cps.toList) : Good ⟨#[c]⟩ := fun d hd => by
  have e : d = c := by simpa using hd
  rw [e]
  exact h c hc
/-- all but the box stays -/
def KB (b : Addr) (H H' : Hp) : Prop := ∀ c o, c ≠ b → H c = some o → H' c = some o
theorem KB.refl (b : Addr) (H : Hp) : KB b H H := fun _ _ _ h => h
theorem KB.trans {b : Addr} {H H1 H2 : Hp} (a : KB b H H1) (c : KB b H1 H2) : KB b H H2 := fun x o n h => c x o n (a x o n h)
theorem KB.off {b : Addr} {H H' : Hp} (h : ∀ a, a ≠ b → H' a = H a) : KB b H H' := fun c o n e => (h c n).trans e
theorem KB.alloc {b p : Addr} {H : Hp} {o : HO} (n : H p = none) : KB b H (upd H p o) := fun c u _ h => by rw [upd_ne (ne_of_none h n)]; exact h
theorem Bx.alloc {b p : Addr} {n : Int} {H : Hp} {o : HO} (h : Bx b n H) (f : H p = none) : Bx b n (upd H p o) := by
  obtain ⟨x, y, z, h1, r⟩ := h
  exact ⟨x, y, z, by rw [upd_ne (ne_of_none h1 f)]; exact h1, r⟩
theorem Bx.put {b p : Addr} {n : Int} {H : Hp} {o : HO} (h : Bx b n H) (f : p ≠ b) : Bx b n (upd H p o) := by
  obtain ⟨x, y, z, h1, r⟩ := h
  exact ⟨x, y, z, by rw [upd_ne f.symm]; exact h1, r⟩
/-- a comprehension over a text's signs -/
theorem lc_text {z : Str} {g : TG} {tt : TT} {te : TE} {vs : List Nat} {σ : L2.St} {H1 : Hp} {D : Addr} {Qd : Hp → Prop} (Pv : Nat → Hp → Prop) (h0 : Pv 0 (upd H1 D (.lst [])))
    (hs : ∀ i c H, z.cps.toList[i]? = some c → Pv i H → g (.str ⟨#[c]⟩) (wipe σ vs) H fun σ2 H2 => wipe σ2 vs = wipe σ vs ∧ tt σ2 H2 fun b H3 =>
      if b = true then te σ2 H3 fun y H4 => ∃ acc, H4 D = some (.lst acc) ∧ acc.length < sizeLine ∧ Pv (i + 1) (upd H4 D (.lst (acc ++ [y]))) else Pv (i + 1) H3) (hd : ∀ H, Pv z.length H → Qd H) :
    ∃ W : Nat → Nat → Hp → Prop, (∃ m, W 0 m (upd H1 D (.lst []))) ∧ ∀ i m H, W i m H →
      ((Its z).stop i H ∧ Qd H) ∨ ((Its z).go i H ∧ ∃ Nx : Hp → Prop, (∀ H', Nx H' → ∃ m', m' < m ∧ W (i + 1) m' H') ∧ ∀ x H', (Its z).yld i H x H' → g x (wipe σ vs) H' fun σ2 H2 => wipe σ2 vs = wipe σ vs ∧ tt σ2 H2 fun b H3 =>
        if b = true then te σ2 H3 fun y H4 => ∃ acc, H4 D = some (.lst acc) ∧ acc.length < sizeLine ∧ Nx (upd H4 D (.lst (acc ++ [y]))) else Nx H3) := by
  refine ⟨fun i m H => i + m = z.cps.size ∧ Pv i H, ⟨z.cps.size, by simp, h0⟩, fun i m H hW => ?_⟩
  obtain ⟨e, p⟩ := hW
  cases m with
  | zero =>
    have ei : i = z.cps.size := e
    subst ei
    exact .inl ⟨Nat.le_refl _, hd H p⟩
  | succ m =>
    refine .inr ⟨show i < z.cps.size by omega, Pv (i + 1), fun H' q => ⟨m, Nat.lt_succ_self m, by omega, q⟩, ?_⟩
    rintro x H' ⟨rfl, c, hc, rfl⟩
    exact hs i c _ (by rw [← hc]; simp) p
def badOf (l : List Nat) : List V := (l.filter fun c => !lc c).map fun c => V.str ⟨#[c]⟩
theorem bad_data {K : PySem.W.Frag} {H : Hp} : ∀ l : List Nat, DpAll K H (l.map fun c => V.str ⟨#[c]⟩) (l.map fun c => PyData.str ⟨#[c]⟩)
  | [] => .nil
  | c :: r => .cons (.str _) (bad_data r)
theorem one_ok {c : Nat} (h : c < 1114112) : PyData.strOk ⟨#[c]⟩ = true := by
  simp [PyData.strOk, h]
theorem bad_shaped : ∀ l : List Nat, (∀ c ∈ l, c < 1114112) → PyData.canLayAll0 (l.map fun c => PyData.str ⟨#[c]⟩) = true
  | [], _ => by simp [PyData.canLayAll0]
  | c :: r, h => by
    simp only [List.map_cons, PyData.canLayAll0, PyData.canLay0, Bool.and_eq_true]
    exact ⟨one_ok (h c List.mem_cons_self), bad_shaped r fun d hd => h d (List.mem_cons_of_mem _ hd)⟩
theorem bad_depth : ∀ l : List Nat, PyData.depthAll (l.map fun c => PyData.str ⟨#[c]⟩) = 0
  | [] => by simp [PyData.depthAll]
  | c :: r => by
    simp only [List.map_cons, PyData.depthAll, PyData.depth, bad_depth r]
    rfl
theorem letters_mem (c : Nat) : decide (c ∈ (Str.ofString "abcdefghijklmnopqrstuvwxyz").cps.toList) = lc c := by
  have e : (Str.ofString "abcdefghijklmnopqrstuvwxyz").cps.toList = (List.range 26).map (· + 97) := by decide +kernel
  rw [e]
  unfold lc
  rw [Bool.eq_iff_iff]
  simp only [decide_eq_true_eq, List.mem_map, List.mem_range, Bool.and_eq_true]
  constructor
  · rintro ⟨a, h, rfl⟩
    omega
  · intro h
    exact ⟨c - 97, by omega, by omega⟩
/-- a fresh place is no box -/
theorem Bx.fresh {b p : Addr} {n : Int} {H : Hp} (h : Bx b n H) (f : H p = none) : p ≠ b := by
  rintro rfl
  obtain ⟨x, y, z, e, _⟩ := h
  rw [f] at e
  cases e
theorem dec9000 {m : Int} (h0 : 0 < m) (h : m ≤ 10 ^ 30) : m.natAbs.log2 < 9000 := by
  have h1 : m.natAbs ≤ 10 ^ 30 := by omega
  have h2 : m.natAbs < 2 ^ 100 := Nat.lt_of_le_of_lt h1 (by decide)
  have h3 := (Nat.log2_lt (by omega)).mpr h2
  omega
theorem log1900 {m : Int} (h : m.natAbs ≤ 10 ^ 31) : m.natAbs.log2 < 1900 := by
  by_cases h0 : m.natAbs = 0
  · rw [h0]
    decide
  · have h2 : m.natAbs < 2 ^ 110 := Nat.lt_of_le_of_lt h (by decide)
    have h3 := (Nat.log2_lt h0).mpr h2
    omega
/-- a place in a list of the script stays -/
theorem seq_kt {K : PySem.W.Frag} {P a : Addr} {H H' : Hp} {xs : List V} (t : TabG H P) (k : KT P H H') (h : SqL K H a xs) : SqL K H' a xs := by
  rcases h with (h | ⟨o, h⟩) | h
  · exact .inl (.inl (k.keep _ _ (ne_tab t h (by simp)) h))
  · exact .inl (.inr ⟨o, k.keep _ _ (ne_tab t h (by simp)) h⟩)
  · exact .inr h
/-- what a row of steps with the box does to all else -/
theorem KT.box {P b : Addr} {H H' H1 : Hp} (t : TabG H P) (f : H b = none) (e : ∀ a, a ≠ b → H1 a = H a) (k : KB b H1 H') : KT P H H' := by
  obtain ⟨ps, ht, tr⟩ := t
  have nb : P ≠ b := ne_of_none ht f
  exact ⟨fun c o _ h => k c o (ne_of_none h f) ((e c (ne_of_none h f)).trans h), ps, k P _ nb ((e P nb).trans ht), tr⟩
theorem two_bools (a b : Bool) : (PyData.list [.bool a, .bool b]).shown.length ≤ sizeLine := by
  cases a <;> cases b <;> decide +kernel
end My

set_option maxRecDepth 100000
set_option maxHeartbeats 4000000
namespace F4
open PySem PySem.Spec PyProof.Rows L2 GxR Gd TL My
/-! ### the text -/
def top (i : Nat) : Stmt := PySem.Challenge.pw_onestaff_k74_what_is_no_deed.main.body.getD i (.Pass ⟨0, 0, 0, 0⟩)
abbrev sWhole : Stmt := top 7
abbrev sName : Stmt := top 8
abbrev sCell : Stmt := top 30
abbrev sBox : Stmt := top 31
abbrev sTake : Stmt := top 32
structure Txt (mg : Str → Option Value) : Prop where
  isinstance_ : mg "isinstance" = none
  int_ : mg "int" = none
  bool_ : mg "bool" = none
  str_ : mg "str" = none
  len_ : mg "len" = none
  all_ : mg "all" = none
  max_ : mg "max" = none
  min_ : mg "min" = none
  range_ : mg "range" = none
  repr_ : mg "repr" = none
  list_ : mg "list" = none
  tuple_ : mg "tuple" = none
  enumerate_ : mg "enumerate" = none
  sorted_ : mg "sorted" = none
  zip_ : mg "zip" = none
structure Fn (K : PySem.W.Frag) (mg : Str → Option Value) (x : Str) (st : Stmt) (ps : List Str) (f : Addr) (fd : FuncData) : Prop where
  fn : Fun K x x st f fd
  g : mg x = some (.ref f)
  b : Binds K fd ps []
theorem Fn.kp {K : PySem.W.Frag} {mg : Str → Option Value} {x : Str} {st : Stmt} {ps : List Str} {f : Addr} {fd : FuncData} (h : Fn K mg x st ps f fd) : PySem.W.keepIn K (.ref f) = true := h.fn.kp
section
variable {P : Program} {w : World} {K : PySem.W.Frag} {mg : Str → Option Value} {base : Heap}
def spWhole : Sp := fun vs H Q _ => ∃ (v : V) (lo hi : Int), vs = [v, .int lo, .int hi] ∧ Th H v ∧ Q (.bl (wh lo hi v)) H
theorem scWhole : FnScope ["thing", "low", "high"] ["thing", "low", "high"] (defScope sWhole) := ⟨rfl, rfl, rfl, by decide +kernel, rfl, by decide +kernel, by decide +kernel⟩
theorem ok_whole {f : Addr} {fd : FuncData} (F : Fun K "is_whole" "is_whole" sWhole f fd) (T : Txt mg) : FnOk P w K mg base CX0 1 f fd ["thing", "low", "high"] spWhole := by
  refine F.ok scWhole (fun vs H Q E h => ?_) (fun cdv A outer s H vs Q E hr h => ?_)
  · obtain ⟨v, lo, hi, rfl, _⟩ := h
    rfl
  · obtain ⟨v, lo, hi, rfl, th, k⟩ := h
    obtain ⟨t, ty, cs⟩ := th.ty (K := K)
    refine ⟨_, pss_cons (ps_if (PW.pt (pw_or (pt_not (pt_val (pe_callB call_isi (by rfl) T.isinstance_ (by decide +kernel) (pa_cons (pv 0) (pa_cons (pe_bltn (v := .ty "int") (by rfl) T.int_ (by decide +kernel) rfl) pa_nil)))))
        (pw_or1 (pt_val (pe_callB call_isi (by rfl) T.isinstance_ (by decide +kernel) (pa_cons (pv 0) (pa_cons (pe_bltn (v := .ty "bool") (by rfl) T.bool_ (by decide +kernel) rfl) pa_nil)))))))
        (pss_one (ps_ret pe_bl)) pss_nil)
      (pss_one (ps_ret (pe_chain op_le op_le (pv 1) (pv 0) (pv 2)))), ?_⟩
    rcases cs with ⟨i, rfl, rfl⟩ | ⟨b, rfl, rfl⟩ | ⟨z, rfl, _, rfl⟩ | ⟨n1, n2, n3, ht⟩
    · refine ⟨_, rfl, _, _, _, _, true, rfl, .ty "int", ty, (by rfl), _, rfl, iteF ?_⟩
      refine ⟨_, rfl, _, _, _, _, false, rfl, .ty "bool", ty, (by rfl), _, rfl, iteF ?_⟩
      refine ⟨_, rfl, _, rfl, _, _, rfl, rfl, _, rfl, ?_⟩
      refine ite2 (fun c => ?_) (fun c => ?_)
      · refine ⟨_, rfl, _, _, rfl, rfl, ?_⟩
        have e : (decide (i ≤ hi)) = wh lo hi (.int i) := by simp [wh, of_decide_eq_true c]
        show Q (.bl (decide (i ≤ hi))) H
        rw [e]; exact k
      · have e : false = wh lo hi (.int i) := by simp at c; simp [wh]; omega
        rw [e]; exact k
    · refine ⟨_, rfl, _, _, _, _, true, rfl, .ty "int", ty, (by rfl), _, rfl, iteF ?_⟩
      refine ⟨_, rfl, _, _, _, _, true, rfl, .ty "bool", ty, (by rfl), _, rfl, iteT ?_⟩
      exact k
    · refine ⟨_, rfl, _, _, _, _, false, rfl, .ty "int", ty, (by rfl), _, rfl, iteT (iteT ?_)⟩
      exact k
    · have e : wh lo hi v = false := by
        cases v with
        | int i => exact absurd rfl (n1 i)
        | _ => rfl
      rw [e] at k
      rcases ht with rfl | rfl | rfl | rfl
      · exact ⟨_, rfl, _, _, _, _, false, rfl, .ty "int", ty, (by rfl), _, rfl, iteT (iteT k)⟩
      · exact ⟨_, rfl, _, _, _, _, false, rfl, .ty "int", ty, (by rfl), _, rfl, iteT (iteT k)⟩
      · exact ⟨_, rfl, _, _, _, _, false, rfl, .ty "int", ty, (by rfl), _, rfl, iteT (iteT k)⟩
      · exact ⟨_, rfl, _, _, _, _, false, rfl, .ty "int", ty, (by rfl), _, rfl, iteT (iteT k)⟩

/-! ### is_name -/
theorem scName : FnScope ["thing"] ["thing"] (defScope sName) := ⟨rfl, rfl, rfl, by decide +kernel, rfl, by decide +kernel, by decide +kernel⟩
def spName (Pt : Addr) : Sp := fun vs H Q _ => ∃ (v : V), vs = [v] ∧ Th H v ∧ TabG H Pt ∧ ∀ H', KT Pt H H' → Q (.bl (nm v)) H'
theorem ok_name {f Pt c : Addr} {oc kV doc pm ct : Value} {od an : Option Addr} {osl : Array (Option Value)}
    (lk : K.lookup f = some ⟨oc, od, .func (PySem.W.fnOf "is_name" "is_name" (defArgs sName) (defBody sName) (defScope sName) .none kV doc pm an (.ref c) ct), osl⟩) (hcd : PySem.W.codeIn K (.ref c) "is_name" = true)
    (T : Txt mg) (TB : TabB base mg c Pt) : FnOk P w K mg base CX0 2 f (PySem.W.fnOf "is_name" "is_name" (defArgs sName) (defBody sName) (defScope sName) .none kV doc pm an (.ref c) ct) ["thing"] (spName Pt) := by
  refine fn_of lk hcd scName (fun vs H Q E h => ?_) (fun A outer s H vs Q E hr h => ?_)
  · obtain ⟨v, rfl, _⟩ := h
    rfl
  · obtain ⟨v, rfl, th, tb, k⟩ := h
    obtain ⟨t, ty, cs⟩ := th.ty (K := K)
    refine ⟨_, (pss_cons (ps_if (PW.pt (pw_or (pt_not (pt_val (pe_callB call_isi (by rfl) T.isinstance_ (by decide +kernel) (pa_cons (pv 0) (pa_cons (pe_bltn (v := .ty "str") (by rfl) T.str_ (by decide +kernel) rfl) pa_nil)))))
        (pw_or1 (pt_not (pt_chain op_le op_le pe_int (pe_callB call_len_str (by rfl) T.len_ PySem.boot_len (pa_cons (pv 0) pa_nil)) pe_int)))))
        (pss_one (ps_ret pe_bl)) pss_nil)
      (pss_one (ps_ret (pe_allS hr (by rfl) T.all_ (by decide +kernel) TB rfl ⟨rfl, rfl, by decide +kernel, by decide +kernel, by decide +kernel, fun y hy e => absurd e (no_free y hy)⟩ (pv 0) (elt_between (by rfl) (by decide +kernel)) (fun _ => rfl))))).nox, ?_⟩
    have no : ∀ e : nm v = false, Q (.bl false) H := fun e => e ▸ k H (KT.refl tb)
    rcases cs with ⟨i, rfl, rfl⟩ | ⟨b, rfl, rfl⟩ | ⟨z, rfl, ⟨hz, _⟩, rfl⟩ | ⟨n1, n2, n3, ht⟩
    · exact ⟨_, rfl, _, _, _, _, false, rfl, .ty "str", ty, (by rfl), _, rfl, iteT (iteT (no rfl))⟩
    · exact ⟨_, rfl, _, _, _, _, false, rfl, .ty "str", ty, (by rfl), _, rfl, iteT (iteT (no rfl))⟩
    · refine ⟨_, rfl, _, _, _, _, true, rfl, .ty "str", ty, (by rfl), _, rfl, iteF ?_⟩
      have hz2 : z.length ≤ sizeLine := Nat.le_trans hz (by decide)
      refine ⟨_, rfl, z, rfl, hz2, _, _, rfl, rfl, _, rfl, ite2 (fun c1 => ?_) (fun c1 => ?_)⟩
      · have c1' : (1 : Int) ≤ z.length := of_decide_eq_true c1
        refine ⟨_, _, rfl, rfl, _, rfl, ?_⟩
        refine ite2 (fun c2 => ?_) (fun c2 => ?_)
        · refine no ?_
          have c2' : ¬ (z.length : Int) ≤ 6 := by simpa using c2
          have n6 : ¬ z.length ≤ 6 := by omega
          simp [nm, n6]
        · have c2' : (z.length : Int) ≤ 6 := by simpa using c2
          have n6 : z.length ≤ 6 := by omega
          have n1 : 1 ≤ z.length := by omega
          refine ⟨_, rfl, z, rfl, tb, fun H2 ht => ?_⟩
          have e : z.cps.toList.all (fun c => !decide ([c] < (Str.ofString "a").cps.toList) && !decide ((Str.ofString "z").cps.toList < [c])) = nm (.str z) := by
            have ea : (Str.ofString "a").cps.toList = [97] := by decide +kernel
            have ez : (Str.ofString "z").cps.toList = [122] := by decide +kernel
            rw [ea, ez]
            simp only [lc_eq]
            simp [nm, n6, n1]
          show Q (.bl (z.cps.toList.all _)) H2
          rw [e]
          exact k H2 (KT.of ht)
      · refine ⟨_, rfl, iteT (no ?_)⟩
        have c1' : ¬ (1 : Int) ≤ z.length := by simpa using c1
        have n1 : ¬ 1 ≤ z.length := by omega
        simp [nm, n1]
    · have e : nm v = false := by
        cases v with
        | str z => exact absurd rfl (n3 z)
        | _ => rfl
      rcases ht with rfl | rfl | rfl | rfl
      · exact ⟨_, rfl, _, _, _, _, false, rfl, .ty "str", ty, (by rfl), _, rfl, iteT (iteT (no e))⟩
      · exact ⟨_, rfl, _, _, _, _, false, rfl, .ty "str", ty, (by rfl), _, rfl, iteT (iteT (no e))⟩
      · exact ⟨_, rfl, _, _, _, _, false, rfl, .ty "str", ty, (by rfl), _, rfl, iteT (iteT (no e))⟩
      · exact ⟨_, rfl, _, _, _, _, false, rfl, .ty "str", ty, (by rfl), _, rfl, iteT (iteT (no e))⟩
def spCell (K : PySem.W.Frag) : Sp := fun vs H Q _ => ∃ (l : Addr) (ns : List Int) (j : Nat), vs = [.ref l, .int (j : Int)] ∧ SqL K H l (ns.map V.int) ∧ ∀ i : Int, Q (.int i) H
theorem scCell : FnScope ["_law_script", "_law_k"] ["_law_script", "_law_k"] (defScope sCell) := ⟨rfl, rfl, rfl, by decide +kernel, rfl, by decide +kernel, by decide +kernel⟩
theorem ok_cell {f : Addr} {fd : FuncData} (F : Fun K "_law_cell" "_law_cell" sCell f fd) (T : Txt mg) : FnOk P w K mg base CX0 1 f fd ["_law_script", "_law_k"] (spCell K) := by
  refine F.ok scCell (fun vs H Q E h => ?_) (fun cdv A outer s H vs Q E hr h => ?_)
  · obtain ⟨l, ns, j, rfl, _⟩ := h
    rfl
  · obtain ⟨l, ns, j, rfl, hS, k⟩ := h
    refine ⟨_, pss_cons (ps_if (pt_cmpR op_lt (pv 1) (pe_callB call_len_seq (by rfl) T.len_ PySem.boot_len (pa_cons (pv 0) pa_nil)) (nomark _)) (pss_one (ps_ret (pe_ix ix_list (pv 0) (pv 1) (fun _ _ => rfl)))) pss_nil)
      (pss_one (ps_ret (pe_op op_add (pe_op op_mul pe_int (pv 1)) pe_int))), ?_⟩
    refine ⟨_, rfl, _, rfl, l, _, rfl, .inl hS, _, _, rfl, rfl, _, rfl, ite2 (fun c => ?_) (fun c => ?_)⟩
    · have c1 : (j : Int) < ((ns.map V.int).length : Nat) := of_decide_eq_true c
      have c2 : j < ns.length := by rw [List.length_map] at c1; omega
      refine ⟨_, rfl, _, rfl, l, _, _, _, rfl, rfl, hS, atI_nat (v := .int ns[j]) ?_, k _⟩
      rw [List.getElem?_map, List.getElem?_eq_getElem c2]
      rfl
    · exact ⟨_, rfl, _, _, rfl, rfl, .inl ⟨by decide, by decide⟩, _, _, rfl, rfl, k _⟩
def spBox : Sp := fun vs H Q _ => ∃ c : Int, vs = [.int c] ∧ ∀ b H', H b = none → (∀ a, a ≠ b → H' a = H a) → Bx b 0 H' → Q (.ref b) H'
theorem scBox : FnScope ["_law_cell_here"] ["_law_cell_here"] (defScope sBox) := ⟨rfl, rfl, rfl, by decide +kernel, rfl, by decide +kernel, by decide +kernel⟩
theorem ok_box {f : Addr} {fd : FuncData} (F : Fun K "_law_box" "_law_box" sBox f fd) (T : Txt mg) : FnOk P w K mg base CX0 1 f fd ["_law_cell_here"] spBox := by
  refine F.ok scBox (fun vs H Q E h => ?_) (fun cdv A outer s H vs Q E hr h => ?_)
  · obtain ⟨c, rfl, _⟩ := h
    rfl
  · obtain ⟨c, rfl, k⟩ := h
    refine ⟨_, pss_one (ps_ret (pe_lst (pa_cons (pe_callB (call_max2 rfl) (by rfl) T.max_ (by decide +kernel) (pa_cons pe_int (pa_cons (pe_op op_sub (pv 0) (pe_op op_pow pe_int pe_int)) pa_nil))) (pa_cons (pe_op op_mod (pv 0) pe_int) (pa_cons pe_int pa_nil))))), ?_⟩
    refine ⟨_, rfl, _, _, rfl, rfl, ⟨by decide, by decide, by decide⟩, _, _, rfl, rfl, _, _, rfl, ?_⟩
    refine ⟨_, rfl, _, _, rfl, rfl, (by show (0 : Int) < 2147483629; decide), ?_⟩
    refine ⟨(by show 3 ≤ sizeLine; decide), fun b hb => ?_⟩
    refine k b _ hb (fun a na => upd_ne na) ⟨_, _, 0, upd_same, ?_, ?_, ?_, Int.le_refl _, Int.le_refl _⟩
    · split <;> omega
    · exact Int.emod_nonneg _ (by decide)
    · exact Int.emod_lt_of_pos _ (by decide)
def spTake : Sp := fun vs H Q _ => ∃ (b : Addr) (many n : Int), vs = [.ref b, .int many] ∧ Bx b n H ∧ n ≤ 100000 ∧ 0 < many ∧ many.natAbs.log2 < 9000 ∧
  ∀ d H', 0 ≤ d → d < many → (∀ a, a ≠ b → H' a = H a) → Bx b (n + 1) H' → Q (.int d) H'
theorem scTake : FnScope ["_law_box_here", "_law_many", "_law_digit", "_law_number_here"] ["_law_box_here", "_law_many"] (defScope sTake) := ⟨rfl, rfl, rfl, by decide +kernel, rfl, by decide +kernel, by decide +kernel⟩
theorem ok_take {f : Addr} {fd : FuncData} (F : Fun K "_law_take" "_law_take" sTake f fd) : FnOk P w K mg base CX0 1 f fd ["_law_box_here", "_law_many"] spTake := by
  refine F.ok scTake (fun vs H Q E h => ?_) (fun cdv A outer s H vs Q E hr h => ?_)
  · obtain ⟨b, many, n, rfl, _⟩ := h
    rfl
  · obtain ⟨b, many, n, rfl, ⟨x, y, z, hb, x0, y0, y1, z0, zn⟩, hn, m0, ml, k⟩ := h
    refine ⟨_, pss_cons (ps_if (pt_cmpR op_gt (pe_ix ix_list (pv 0) pe_int (fun _ _ => rfl)) pe_int (nomark _))
        (pss_cons (ps_set (i := 2) scTake.nd rfl (Or.inl rfl) (pe_op op_mod (pe_ix ix_list (pv 0) pe_int (fun _ _ => rfl)) (pv 1)))
        (pss_cons (ps_asg (pe_op op_fdivW (pe_ix ix_list (pv 0) pe_int (fun _ _ => rfl)) (pv 1)) (pg_sub (pv 0) pe_int set_list))
        (pss_one (ps_ret (pv 2))))) pss_nil)
      (pss_cons (ps_asg (pe_op op_add (pe_ix ix_list (pv 0) pe_int (fun _ _ => rfl)) pe_int) (pg_sub (pv 0) pe_int set_list))
      (pss_cons (ps_set (i := 3) scTake.nd rfl (Or.inl rfl) (pe_op op_mod (pe_op op_pow (pe_op op_add (pe_op op_add (pe_ix ix_list (pv 0) pe_int (fun _ _ => rfl)) (pe_op op_mul pe_int (pe_ix ix_list (pv 0) pe_int (fun _ _ => rfl)))) pe_int) pe_int) pe_int))
      (pss_cons (ps_set (i := 3) scTake.nd rfl (Or.inl rfl) (pe_op op_mod (pe_op op_pow (pe_op op_add (pv 3) (pe_op op_mul pe_int (pe_ix ix_list (pv 0) pe_int (fun _ _ => rfl)))) pe_int) pe_int))
      (pss_one (ps_ret (pe_op op_mod (pe_op op_fdiv (pv 3) pe_int) (pv 1))))))), ?_⟩
    have hL : SqL K H b [.int x, .int y, .int z] := SqL.of hb
    refine ⟨_, rfl, b, _, _, _, rfl, rfl, hL, i0 _ _ _, _, _, rfl, rfl, _, rfl, ite2 (fun c => ?_) (fun c => ?_)⟩
    · refine ⟨_, rfl, b, _, _, _, rfl, rfl, hL, i0 _ _ _, _, rfl, _, _, rfl, rfl, m0, ?_⟩
      refine ⟨_, rfl, b, _, _, _, rfl, rfl, hL, i0 _ _ _, _, rfl, _, _, rfl, rfl, ⟨m0, ml⟩, ?_⟩
      refine ⟨_, rfl, b, _, _, _, rfl, rfl, hb, j0, ?_⟩
      refine ⟨_, rfl, ?_⟩
      exact k _ _ (Int.emod_nonneg _ (by omega)) (Int.emod_lt_of_pos _ m0) (fun a na => upd_ne na) ⟨_, _, _, upd_same, Int.ediv_nonneg x0 (by omega), y0, y1, z0, by omega⟩
    · refine ⟨_, rfl, b, _, _, _, rfl, rfl, hL, i2 _ _ _, _, _, rfl, rfl, ?_⟩
      refine ⟨_, rfl, b, _, _, _, rfl, rfl, hb, j2, ?_⟩
      have h1 : upd H b (.lst ([V.int x, .int y, .int z].set 2 (.int (z + 1)))) b = some (.lst [.int x, .int y, .int (z + 1)]) := upd_same
      have hL1 : SqL K (upd H b (.lst ([V.int x, .int y, .int z].set 2 (.int (z + 1))))) b [.int x, .int y, .int (z + 1)] := SqL.of h1
      refine ⟨_, rfl, b, _, _, _, rfl, rfl, hL1, i1 _ _ _, _, rfl, b, _, _, _, rfl, rfl, hL1, i2 _ _ _, _, _, rfl, rfl, .inl ⟨by decide, by decide⟩, _, _, rfl, rfl, _, _, rfl, rfl,
        _, _, rfl, rfl, ⟨by decide, by decide, ?_⟩, _, _, rfl, rfl, (by show (0 : Int) < 2147483647; decide), ?_⟩
      · omega
      refine ⟨_, rfl, _, rfl, b, _, _, _, rfl, rfl, hL1, i2 _ _ _, _, _, rfl, rfl, .inl ⟨by decide, by decide⟩, _, _, rfl, rfl,
        _, _, rfl, rfl, ⟨by decide, by decide, ?_⟩, _, _, rfl, rfl, (by show (0 : Int) < 2147483587; decide), ?_⟩
      · have g0 := Int.emod_nonneg ((y + 7919 * (z + 1) + 17) ^ (5 : Int).toNat) (show (2147483647 : Int) ≠ 0 by decide)
        have g1 := Int.emod_lt_of_pos ((y + 7919 * (z + 1) + 17) ^ (5 : Int).toNat) (show (0 : Int) < 2147483647 by decide)
        generalize (y + 7919 * (z + 1) + 17) ^ (5 : Int).toNat % 2147483647 = q at g0 g1 ⊢
        omega
      refine ⟨_, rfl, _, _, rfl, rfl, ⟨by decide, by decide⟩, _, rfl, _, _, rfl, rfl, m0, ?_⟩
      exact k _ _ (Int.emod_nonneg _ (by omega)) (Int.emod_lt_of_pos _ m0) (fun a na => upd_ne na) ⟨_, _, _, h1, x0, y0, y1, by omega, by omega⟩
end
end F4


set_option maxRecDepth 100000
set_option maxHeartbeats 4000000
/-! Data in the heap, kept by steps that change a box, a table. -/
namespace My
open PySem PySem.Spec PyProof.Rows L2 GxR Gd TL
/-- all but tables stays -/
def Nt (H H' : Hp) : Prop := ∀ c o, (∀ ps, o ≠ .tbl ps) → H c = some o → H' c = some o
theorem Nt.refl (H : Hp) : Nt H H := fun _ _ _ h => h
theorem Nt.trans {H H1 H2 : Hp} (a : Nt H H1) (b : Nt H1 H2) : Nt H H2 := fun c o n h => b c o n (a c o n h)
theorem KT.nt {P : Addr} {H H' : Hp} (t : TabG H P) (k : KT P H H') : Nt H H' := fun c o n h => k.keep c o (ne_tab t h n) h
theorem Nt.alloc {H : Hp} {p : Addr} {o : HO} (n : H p = none) : Nt H (upd H p o) := fun c u _ h => by rw [upd_ne (ne_of_none h n)]; exact h
/-- the heap but the box -/
def hide (b : Addr) (H : Hp) : Hp := fun c => if c = b then none else H c
theorem hide_ne {b c : Addr} {H : Hp} (h : c ≠ b) : hide b H c = H c := if_neg h
theorem hide_some {b c : Addr} {H : Hp} {o : HO} (h : hide b H c = some o) : c ≠ b ∧ H c = some o := by
  unfold hide at h
  by_cases q : c = b
  · rw [if_pos q] at h
    cases h
  · rw [if_neg q] at h
    exact ⟨q, h⟩
theorem KB.nt {b : Addr} {H H' : Hp} (k : KB b H H') : Nt (hide b H) (hide b H') := fun c o _ h => by
  obtain ⟨n, h⟩ := hide_some h
  rw [hide_ne n]
  exact k c o n h
theorem hide_nt (b : Addr) (H : Hp) : Nt (hide b H) H := fun c o _ h => (hide_some h).2
theorem Nt.seq {K : PySem.W.Frag} {H H' : Hp} {a : Addr} {xs : List V} (e : Nt H H') (h : SqL K H a xs) : SqL K H' a xs := by
  rcases h with (h | ⟨o, h⟩) | h
  · exact .inl (.inl (e _ _ (by simp) h))
  · exact .inl (.inr ⟨o, e _ _ (by simp) h⟩)
  · exact .inr h
theorem Nt.seqT {K : PySem.W.Frag} {H H' : Hp} {a : Addr} {xs : List V} (e : Nt H H') (h : SqT K H a xs) : SqT K H' a xs := by
  rcases h with (h | ⟨o, h⟩) | h
  · exact .inl (.inl (e _ _ (by simp) h))
  · exact .inl (.inr ⟨o, e _ _ (by simp) h⟩)
  · exact .inr h
section
variable {K : PySem.W.Frag} {H H' : Hp}
mutual
theorem dp_nt (e : Nt H H') : ∀ {v : V} {d : PyData}, Dp K H v d → Dp K H' v d
  | _, _, .non => .non
  | _, _, .bl b => .bl b
  | _, _, .int i => .int i
  | _, _, .str z => .str z
  | _, _, .lst h a => .lst (e.seq h) (dpAll_nt e a)
  | _, _, .tup h a => .tup (e.seqT h) (dpAll_nt e a)
theorem dpAll_nt (e : Nt H H') : ∀ {vs : List V} {ds : List PyData}, DpAll K H vs ds → DpAll K H' vs ds
  | _, _, .nil => .nil
  | _, _, .cons h t => .cons (dp_nt e h) (dpAll_nt e t)
end
theorem dp_list {v : V} {ds : List PyData} (h : Dp K H v (.list ds)) : ∃ a xs, v = .ref a ∧ SqL K H a xs ∧ DpAll K H xs ds := by
  cases h with
  | lst h a => exact ⟨_, _, rfl, h, a⟩
theorem dp_tuple {v : V} {ds : List PyData} (h : Dp K H v (.tuple ds)) : ∃ a xs, v = .ref a ∧ SqT K H a xs ∧ DpAll K H xs ds := by
  cases h with
  | tup h a => exact ⟨_, _, rfl, h, a⟩
theorem dp_str {v : V} {z : Str} (h : Dp K H v (.str z)) : v = .str z := by
  cases h
  rfl
theorem dp_int {v : V} {i : Int} (h : Dp K H v (.int i)) : v = .int i := by
  cases h
  rfl
theorem dp_none {v : V} (h : Dp K H v .none) : v = .non := by
  cases h
  rfl
theorem dpAll_len : ∀ {xs : List V} {ds : List PyData}, DpAll K H xs ds → xs.length = ds.length
  | _, _, .nil => rfl
  | _, _, .cons _ t => congrArg (· + 1) (dpAll_len t)
theorem dpAll_get : ∀ {xs : List V} {ds : List PyData}, DpAll K H xs ds → ∀ {i : Nat} {x : V}, xs[i]? = some x → ∃ d, ds[i]? = some d ∧ Dp K H x d
  | _, _, .nil, _, _, h => by simp at h
  | _, _, .cons a _, 0, _, h => by simp at h; subst h; exact ⟨_, rfl, a⟩
  | _, _, .cons _ t, i + 1, x, h => by
    obtain ⟨d, h1, h2⟩ := dpAll_get t (i := i) (x := x) (by simpa using h)
    exact ⟨d, by simpa using h1, h2⟩
theorem dpAll_at : ∀ {xs : List V} {ds : List PyData}, DpAll K H xs ds → ∀ {i : Nat} {d : PyData}, ds[i]? = some d → ∃ x, xs[i]? = some x ∧ Dp K H x d
  | _, _, .nil, _, _, h => by simp at h
  | _, _, .cons a _, 0, _, h => by simp at h; subst h; exact ⟨_, rfl, a⟩
  | _, _, .cons _ t, i + 1, d, h => by
    obtain ⟨x, h1, h2⟩ := dpAll_at t (i := i) (d := d) (by simpa using h)
    exact ⟨x, by simpa using h1, h2⟩
theorem dpAll_app : ∀ {xs ys : List V} {ds es : List PyData}, DpAll K H xs ds → DpAll K H ys es → DpAll K H (xs ++ ys) (ds ++ es)
  | _, _, _, _, .nil, h => h
  | _, _, _, _, .cons a t, h => .cons a (dpAll_app t h)
theorem dp_two {v : V} {c d : PyData} (h : Dp K H v (.tuple [c, d])) : ∃ a x y, v = .ref a ∧ SqT K H a [x, y] ∧ Dp K H x c ∧ Dp K H y d := by
  obtain ⟨a, xs, rfl, h1, h2⟩ := dp_tuple h
  cases h2 with
  | cons p t =>
    cases t with
    | cons q t =>
      cases t
      exact ⟨a, _, _, rfl, h1, p, q⟩
theorem dp_three {v : V} {c d e : PyData} (h : Dp K H v (.tuple [c, d, e])) : ∃ a x y z, v = .ref a ∧ SqT K H a [x, y, z] ∧ Dp K H x c ∧ Dp K H y d ∧ Dp K H z e := by
  obtain ⟨a, xs, rfl, h1, h2⟩ := dp_tuple h
  cases h2 with
  | cons p t =>
    cases t with
    | cons q t =>
      cases t with
      | cons r t =>
        cases t
        exact ⟨a, _, _, _, rfl, h1, p, q, r⟩
theorem dp_four {v : V} {c d e f : PyData} (h : Dp K H v (.list [c, d, e, f])) : ∃ a x y z u, v = .ref a ∧ SqL K H a [x, y, z, u] ∧ Dp K H x c ∧ Dp K H y d ∧ Dp K H z e ∧ Dp K H u f := by
  obtain ⟨a, xs, rfl, h1, h2⟩ := dp_list h
  cases h2 with
  | cons p t =>
    cases t with
    | cons q t =>
      cases t with
      | cons r t =>
        cases t with
        | cons s t =>
          cases t
          exact ⟨a, _, _, _, _, rfl, h1, p, q, r, s⟩
end
/-! ### names that are good, worlds of lines -/
def NameOk (z : Str) : Prop := 1 ≤ z.length ∧ z.length ≤ 6 ∧ z.cps.toList.all lc = true
theorem NameOk.good {z : Str} (h : NameOk z) : Good z := fun c hc => by
  have := List.all_eq_true.mp h.2.2 c hc
  unfold lc at this
  simp at this
  omega
theorem NameOk.nm {z : Str} (h : NameOk z) : nm (.str z) = true := by
  obtain ⟨h1, h2, h3⟩ := h
  simp [My.nm, h1, h2, h3]
theorem NameOk.th {z : Str} {H : Hp} (h : NameOk z) : Th H (.str z) := .str z (by have := h.2.1; omega) h.good
structure Wd where
  ps : List (Str × Int)
  st : List (Str × Int)
  lo : List (Int × Int × Int)
  sp : Str
def longsOk (top : Int) : Int → List (Int × Int × Int) → Prop
  | _, [] => True
  | low, (f, l, h) :: r => low ≤ f ∧ f + 2 ≤ l ∧ l ≤ top ∧ 0 ≤ h ∧ h ≤ 1 ∧ longsOk top l r
structure Wd.Ok (w : Wd) : Prop where
  p2 : 2 ≤ w.ps.length
  p6 : w.ps.length ≤ 6
  nm : ∀ p ∈ w.ps, NameOk p.1 ∧ 1 ≤ p.2 ∧ p.2 ≤ 3
  nd : (w.ps.map (·.1)).Nodup
  sl : w.st.length + 1 = w.ps.length
  st : ∀ p ∈ w.st, (p.1 = "staff" ∨ p.1 = "ticket") ∧ 0 ≤ p.2 ∧ p.2 ≤ 1
  ll : w.lo.length ≤ 2
  lo : longsOk (w.ps.length - 1 : Nat) 0 w.lo
  sn : NameOk w.sp
  s0 : w.sp ∉ w.ps.map (·.1)
def dP (p : Str × Int) : PyData := .tuple [.str p.1, .int p.2]
def dL (p : Int × Int × Int) : PyData := .tuple [.int p.1, .int p.2.1, .int p.2.2]
def Wd.data (w : Wd) : PyData := .list [.list (w.ps.map dP), .list (w.st.map dP), .list (w.lo.map dL), .str w.sp]
end My

set_option maxRecDepth 100000
set_option maxHeartbeats 4000000
/-! the names that a law draws: three ways, all good, all apart -/
namespace My
open PySem PySem.Spec PyProof.Rows L2 GxR Gd TL
theorem tl_inj {a b : Str} (h : tl a = tl b) : a = b := by
  obtain ⟨⟨x⟩⟩ := a
  obtain ⟨⟨y⟩⟩ := b
  have e : x = y := h
  rw [e]
theorem name_of {z : Str} (h1 : 1 ≤ (tl z).length) (h2 : (tl z).length ≤ 6) (h3 : ∀ c ∈ tl z, lc c = true) : NameOk z := by
  rw [tl_len] at h1 h2
  exact ⟨h1, h2, List.all_eq_true.mpr h3⟩
theorem tl_to {z : Str} {j : Nat} (h : j ≤ (tl z).length) : tl (cutS z none (some (j : Int))) = (tl z).take j := by
  show (((tl z).drop (HT.sIx z.length 0 none)).take (HT.sIx z.length z.length (some (j : Int)) - HT.sIx z.length 0 none)) = _
  rw [HT.sIx_none, HT.sIx_nat, ← tl_len, Nat.min_eq_left h]
  simp
theorem tl_cut {z : Str} {a b : Nat} (h : b ≤ (tl z).length) (ha : a ≤ b) : tl (cutS z (some (a : Int)) (some (b : Int))) = ((tl z).drop a).take (b - a) := by
  show (((tl z).drop (HT.sIx z.length 0 (some (a : Int)))).take (HT.sIx z.length z.length (some (b : Int)) - HT.sIx z.length 0 (some (a : Int)))) = _
  rw [HT.sIx_nat, HT.sIx_nat, ← tl_len, Nat.min_eq_left h, Nat.min_eq_left (Nat.le_trans ha h)]
theorem joinL_ones : ∀ cs : List Nat, joinL [] (cs.map fun c => [c]) = cs
  | [] => rfl
  | [c] => rfl
  | c :: d :: r => by
    have ih := joinL_ones (d :: r)
    show [c] ++ ([] ++ joinL [] ((d :: r).map fun c => [c])) = _
    rw [ih]
    rfl
theorem tl_ones (cs : List Nat) : tl (Txt.join (Str.ofString "") (cs.map fun c => ⟨#[c]⟩)) = cs := by
  rw [join_eq, tl_join, List.map_map]
  have e : tl (Str.ofString "") = [] := by decide +kernel
  rw [e]
  exact joinL_ones cs
/-- all good, all apart -/
structure Nms (ns : List Str) : Prop where
  ok : ∀ z ∈ ns, NameOk z
  nd : ns.Nodup
theorem nms_of {f : Nat → Str} {n : Nat} (ok : ∀ k, k < n → NameOk (f k)) (ap : ∀ j k, j < k → k < n → f j ≠ f k) : Nms ((List.range n).map f) := by
  refine ⟨fun z hz => ?_, ?_⟩
  · obtain ⟨k, hk, rfl⟩ := List.mem_map.mp hz
    exact ok k (List.mem_range.mp hk)
  · show ((List.range n).map f).Pairwise (· ≠ ·)
    rw [List.pairwise_map]
    have p : (List.range n).Pairwise (fun a b => a < b) := List.pairwise_lt_range
    refine List.Pairwise.imp_of_mem ?_ p
    intro a b ha hb hab
    exact ap a b hab (List.mem_range.mp hb)
/-! the first way -/
def wds : List Str := ["place", "staff", "ticket", "low", "high", "long", "pilot", "train", "at", "to", "in", "get", "a"]
theorem wds_ok : ∀ z ∈ wds, NameOk z := by
  intro z hz
  have h : (wds.all fun z => decide (1 ≤ (tl z).length) && decide ((tl z).length ≤ 6) && (tl z).all lc) = true := by decide +kernel
  have q := List.all_eq_true.mp h z hz
  rw [Bool.and_eq_true, Bool.and_eq_true, decide_eq_true_eq, decide_eq_true_eq] at q
  exact name_of q.1.1 q.1.2 (List.all_eq_true.mp q.2)
theorem wds_nd : wds.Nodup := by decide +kernel
def nm0 (a : Int) (k : Nat) : Str := (wds[((a + 5 * (k : Int)) % 13).toNat]?).getD ⟨#[]⟩
theorem nm0_at (a : Int) (k : Nat) : atI wds ((a + 5 * (k : Int)) % 13) = some (nm0 a k) := by
  have h0 := Int.emod_nonneg (a + 5 * (k : Int)) (by decide : (13 : Int) ≠ 0)
  have h1 := Int.emod_lt_of_pos (a + 5 * (k : Int)) (by decide : (0 : Int) < 13)
  have hl : wds.length = 13 := by decide +kernel
  generalize e : (a + 5 * (k : Int)) % 13 = m at h0 h1
  obtain ⟨j, rfl⟩ := Int.eq_ofNat_of_zero_le h0
  have hj : j < wds.length := by omega
  unfold nm0
  rw [e, Int.toNat_natCast, List.getElem?_eq_getElem hj]
  exact atI_nat (List.getElem?_eq_getElem hj)
theorem nm0_ok (a : Int) (n : Nat) (hn : n ≤ 7) : Nms ((List.range n).map (nm0 a)) := by
  have hl : wds.length = 13 := by decide +kernel
  have key : ∀ k : Nat, ∃ j : Nat, ((j : Nat) : Int) = (a + 5 * (k : Int)) % 13 ∧ ∃ h : j < wds.length, nm0 a k = wds[j] := fun k => by
    have h0 := Int.emod_nonneg (a + 5 * (k : Int)) (by decide : (13 : Int) ≠ 0)
    have h1 := Int.emod_lt_of_pos (a + 5 * (k : Int)) (by decide : (0 : Int) < 13)
    unfold nm0
    generalize (a + 5 * (k : Int)) % 13 = m at h0 h1
    obtain ⟨j, rfl⟩ := Int.eq_ofNat_of_zero_le h0
    have hj : j < wds.length := by omega
    exact ⟨j, rfl, hj, by rw [Int.toNat_natCast, List.getElem?_eq_getElem hj]; rfl⟩
  refine nms_of (fun k hk => ?_) (fun j k hjk hk e => ?_)
  · obtain ⟨j, _, hj, e⟩ := key k
    rw [e]
    exact wds_ok _ (List.getElem_mem hj)
  · obtain ⟨j1, a1, b1, c1⟩ := key j
    obtain ⟨j2, a2, b2, c2⟩ := key k
    rw [c1, c2] at e
    have nd : wds.Pairwise (· ≠ ·) := wds_nd
    rcases Nat.lt_trichotomy j1 j2 with h | h | h
    · exact List.pairwise_iff_getElem.mp nd j1 j2 b1 b2 h e
    · omega
    · exact List.pairwise_iff_getElem.mp nd j2 j1 b2 b1 h e.symm
/-! the second way -/
structure Stem (z : Str) : Prop where
  len : (tl z).length = 6
  ok : ∀ c ∈ tl z, lc c = true
def nm1 (z : Str) (a : Int) (k : Nat) : Str := cutS z none (some (1 + (a + 5 * (k : Int)) % 6))
theorem nm1_ok {z : Str} (h : Stem z) (a : Int) (n : Nat) (hn : n < 7) : Nms ((List.range n).map (nm1 z a)) := by
  have key : ∀ k : Nat, ∃ j : Nat, ((j : Nat) : Int) = 1 + (a + 5 * (k : Int)) % 6 ∧ 1 ≤ j ∧ j ≤ 6 ∧ tl (nm1 z a k) = (tl z).take j := fun k => by
    have h0 := Int.emod_nonneg (a + 5 * (k : Int)) (by decide : (6 : Int) ≠ 0)
    have h1 := Int.emod_lt_of_pos (a + 5 * (k : Int)) (by decide : (0 : Int) < 6)
    unfold nm1
    generalize (a + 5 * (k : Int)) % 6 = m at h0 h1
    obtain ⟨j, rfl⟩ := Int.eq_ofNat_of_zero_le h0
    refine ⟨1 + j, by omega, by omega, by omega, ?_⟩
    have e : (1 + (j : Int)) = ((1 + j : Nat) : Int) := by omega
    rw [e]
    exact tl_to (by rw [h.len]; omega)
  refine nms_of (fun k hk => ?_) (fun j k hjk hk e => ?_)
  · obtain ⟨j, _, j1, j6, e⟩ := key k
    have hl := h.len
    refine name_of ?_ ?_ (fun c hc => h.ok c (by rw [e] at hc; exact List.mem_of_mem_take hc)) <;> rw [e, List.length_take] <;> omega
  · obtain ⟨j1, a1, _, b1, c1⟩ := key j
    obtain ⟨j2, a2, _, b2, c2⟩ := key k
    have l := congrArg (fun z => (tl z).length) e
    have hl := h.len
    simp only [c1, c2, List.length_take] at l
    omega
/-! the third way -/
def abc : Str := "abcdefghijklmnopqrstuvwxyz"
def lt1 (a : Int) (k : Nat) : Nat := 97 + ((a + 7 * (k : Int)) % 26).toNat
theorem abc_at {i : Int} (h0 : 0 ≤ i) (h1 : i < 26) : atI abc.cps.toList i = some (97 + i.toNat) := by
  obtain ⟨j, rfl⟩ := Int.eq_ofNat_of_zero_le h0
  have h : ∀ j : Fin 26, abc.cps.toList[j.1]? = some (97 + j.1) := by decide +kernel
  rw [Int.toNat_natCast]
  exact atI_nat (h ⟨j, by omega⟩)
theorem lt1_at (a : Int) (k : Nat) : atI abc.cps.toList ((a + 7 * (k : Int)) % 26) = some (lt1 a k) := abc_at (Int.emod_nonneg _ (by decide)) (Int.emod_lt_of_pos _ (by decide))
theorem lt1_lc (a : Int) (k : Nat) : lc (lt1 a k) = true := by
  have h0 := Int.emod_nonneg (a + 7 * (k : Int)) (by decide : (26 : Int) ≠ 0)
  have h1 := Int.emod_lt_of_pos (a + 7 * (k : Int)) (by decide : (0 : Int) < 26)
  unfold lt1 lc
  rw [Bool.and_eq_true, decide_eq_true_eq, decide_eq_true_eq]
  omega
def nm2 (z : Str) (a t : Int) (k : Nat) : Str := cutS z none (some t) ++ ⟨#[lt1 a k]⟩ ++ cutS z (some t) (some (t + (a + (k : Int)) % (6 - t)))
theorem nm2_ok {z : Str} (h : Stem z) (a t : Int) (t0 : 0 ≤ t) (t6 : t < 6) (n : Nat) (hn : n ≤ 7) : Nms ((List.range n).map (nm2 z a t)) := by
  obtain ⟨t, rfl⟩ := Int.eq_ofNat_of_zero_le t0
  have hl := h.len
  have key : ∀ k : Nat, ∃ m : Nat, t + m < 6 ∧ tl (nm2 z a t k) = (tl z).take t ++ ([lt1 a k] ++ ((tl z).drop t).take m) := fun k => by
    have h0 := Int.emod_nonneg (a + (k : Int)) (show (6 - (t : Int)) ≠ 0 by omega)
    have h1 := Int.emod_lt_of_pos (a + (k : Int)) (show (0 : Int) < 6 - (t : Int) by omega)
    unfold nm2
    generalize (a + (k : Int)) % (6 - (t : Int)) = m at h0 h1
    obtain ⟨m, rfl⟩ := Int.eq_ofNat_of_zero_le h0
    refine ⟨m, by omega, ?_⟩
    rw [tl_append, tl_append, tl_to (by omega), show ((t : Int) + (m : Int)) = ((t + m : Nat) : Int) by omega, tl_cut (by omega) (by omega), show t + m - t = m by omega, List.append_assoc]
  refine nms_of (fun k hk => ?_) (fun j k hjk hk e => ?_)
  · obtain ⟨m, hm, e⟩ := key k
    refine name_of ?_ ?_ (fun c hc => ?_)
    · rw [e, List.length_append, List.length_append]
      simp
      omega
    · rw [e, List.length_append, List.length_append, List.length_take, List.length_take, List.length_drop]
      simp
      omega
    · rw [e] at hc
      rcases List.mem_append.mp hc with q | q
      · exact h.ok c (List.mem_of_mem_take q)
      · rcases List.mem_append.mp q with q | q
        · rw [List.mem_singleton.mp q]
          exact lt1_lc a k
        · exact h.ok c (List.mem_of_mem_drop (List.mem_of_mem_take q))
  · obtain ⟨m1, hm1, c1⟩ := key j
    obtain ⟨m2, hm2, c2⟩ := key k
    have l := congrArg (fun z => (tl z)[t]?) e
    simp only [c1, c2] at l
    have lt : ((tl z).take t).length = t := by rw [List.length_take]; omega
    have g : ∀ (c : Nat) (r : List Nat), ((tl z).take t ++ ([c] ++ r))[t]? = some c := fun c r => by
      rw [List.getElem?_append_right (by omega), lt, Nat.sub_self]
      rfl
    rw [g, g] at l
    have l := Option.some.inj l
    unfold lt1 at l
    have h0 := Int.emod_nonneg (a + 7 * (j : Int)) (by decide : (26 : Int) ≠ 0)
    have h1 := Int.emod_nonneg (a + 7 * (k : Int)) (by decide : (26 : Int) ≠ 0)
    omega
end My

set_option maxRecDepth 100000
set_option maxHeartbeats 400000
/-! Names wiped behind a comprehension. -/
namespace My
open PySem PySem.Spec PyProof.Rows L2 GxR Gd TL
theorem wipe_set_out {σ : L2.St} {i : Nat} {x : Option V} : ∀ {vs : List Nat}, i ∉ vs → wipe (σ.set i x) vs = (wipe σ vs).set i x
  | [], _ => rfl
  | v :: vs, h => by
    simp only [List.mem_cons, not_or] at h
    show (wipe (σ.set i x) vs).set v none = ((wipe σ vs).set v none).set i x
    rw [wipe_set_out h.2, List.set_comm _ _ h.1]
theorem wipe_set {σ : L2.St} {i : Nat} {x : Option V} : ∀ {vs : List Nat}, i ∈ vs → wipe (σ.set i x) vs = wipe σ vs
  | [], h => by cases h
  | v :: vs, h => by
    show (wipe (σ.set i x) vs).set v none = (wipe σ vs).set v none
    by_cases q : i ∈ vs
    · rw [wipe_set q]
    · have e : i = v := by
        rcases List.mem_cons.mp h with e | e
        · exact e
        · exact absurd e q
      subst e
      rw [wipe_set_out q, List.set_set]
theorem wipe_wipe {σ : L2.St} : ∀ {us vs : List Nat}, (∀ u ∈ us, u ∈ vs) → wipe (wipe σ us) vs = wipe σ vs
  | [], _, _ => rfl
  | u :: us, vs, h => by
    show wipe ((wipe σ us).set u none) vs = _
    rw [wipe_set (h u (by simp)), wipe_wipe fun x hx => h x (by simp [hx])]
theorem wipe1 {σ : L2.St} {vs : List Nat} {i : Nat} {a : Option V} (hi : i ∈ vs) : wipe ((wipe σ vs).set i a) vs = wipe σ vs := by
  rw [wipe_set hi, wipe_wipe fun _ h => h]
theorem wipe2 {σ : L2.St} {vs : List Nat} {i j : Nat} {a b : Option V} (hi : i ∈ vs) (hj : j ∈ vs) : wipe (((wipe σ vs).set i a).set j b) vs = wipe σ vs := by
  rw [wipe_set hj, wipe_set hi, wipe_wipe fun _ h => h]
theorem wipe3 {σ : L2.St} {vs : List Nat} {i j k : Nat} {a b c : Option V} (hi : i ∈ vs) (hj : j ∈ vs) (hk : k ∈ vs) : wipe ((((wipe σ vs).set i a).set j b).set k c) vs = wipe σ vs := by
  rw [wipe_set hk, wipe_set hj, wipe_set hi, wipe_wipe fun _ h => h]
theorem wipe4 {σ : L2.St} {vs : List Nat} {i j k l : Nat} {a b c d : Option V} (hi : i ∈ vs) (hj : j ∈ vs) (hk : k ∈ vs) (hl : l ∈ vs) : wipe (((((wipe σ vs).set i a).set j b).set k c).set l d) vs = wipe σ vs := by
  rw [wipe_set hl, wipe_set hk, wipe_set hj, wipe_set hi, wipe_wipe fun _ h => h]
end My

set_option maxRecDepth 100000
set_option maxHeartbeats 1000000
/-! The end of a law whose own def shows dicts: the module table is tracked, so that no new thing is it. For laws without tables. -/
namespace Gd
open PySem PySem.Spec PyProof.Rows L2 GxR
/-- the module table: it is there -/
def smU : HO := .ext fun h => ∃ o, h.get? sysModules = some o
def SmAt (H : Hp) : Prop := ∃ o, H sysModules = some (.frz o smU)
theorem SmAt.same {H H' : Hp} (h : SmAt H) (s : Same H H') : SmAt H' := let ⟨o, e⟩ := h; ⟨o, s _ _ e⟩
theorem smU_ne {u : HO} (n : ∀ φ, u ≠ .ext φ) : smU ≠ u := fun z => n _ z.symm
open Classical in
noncomputable def hs0 (K : PySem.W.Frag) (a : Addr) (vs : List Value) (ns : List Int) (o1 : Obj) : Hp := fun b =>
  if b = sysModules then some (.frz o1 smU) else if b = a ∧ K.lookup a = none then some (.frz (scriptO vs) (.lst (ns.map V.int))) else none
theorem hs0_inv {K : PySem.W.Frag} {a b : Addr} {vs : List Value} {ns : List Int} {o1 : Obj} {u : HO} (h : hs0 K a vs ns o1 b = some u) :
    (b = sysModules ∧ u = .frz o1 smU) ∨ (b = a ∧ K.lookup a = none ∧ u = .frz (scriptO vs) (.lst (ns.map V.int))) := by
  unfold hs0 at h
  split at h
  · rename_i c
    exact .inl ⟨c, (Option.some.inj h).symm⟩
  · split at h
    · rename_i c
      exact .inr ⟨c.1, c.2, (Option.some.inj h).symm⟩
    · cases h
section
variable {P : Program} {w : World} {K : PySem.W.Frag} {mg mb : Str → Option Value} {CX : CXT} {k : Nat} {fa a : Addr} {fd : FuncData} {x : Str} {sp : Sp} {s1 : Shared} {vs : List Value} {ns : List Int}
theorem law_scall (KX : K.In s1.heap) (nsG : s1.heap.Ns mainGlobals mg) (nsB : s1.heap.Ns builtinsNs mb) (isB : ∀ x : Str, x ≠ "__name__" → mb x = bootBuiltins x) (lim : s1.heap.NoLimit) (gens : s1.gens = #[])
    (hsm : ∃ o, s1.heap.get? sysModules = some o) (k1 : K.lookup sysModules = none) (na : a ≠ sysModules) (ha : s1.heap.get? a = some (scriptO vs)) (hi : IntsAre vs ns) (hl : ns.length ≤ sizeLine) (hr : Room k callerA)
    (F : ∀ base : Heap, K.In base → base.Ns mainGlobals mg → GOk P w K mg base CX k fa fd [x] sp) (hbind : ∀ (s : Shared) (u : Value), BindsTo s fd ⟨[u], []⟩ [(x, u)])
    (hsp : ∀ H : Hp, SmAt H → SqL K H a (ns.map V.int) → sp [.ref a] H (fun v _ => v = .bl true) fun _ _ _ => False) (hCX : ∀ H e s', CX [] H s1 (fun _ _ _ => False) e s' → False) :
    codeAny (model P w) callerA (.call (.ref fa) ⟨[.ref a], []⟩) (fun r s' => r = .ok (.ret (.bool true)) ∧ OldK s1.heap s'.heap ∧ s'.os = s1.os ∧ AllBare s'.gens) s1 := by
  have rv := vals_ints hi
  have hlen := hi.length
  obtain ⟨o1, ho1⟩ := hsm
  let H := hs0 K a vs ns o1
  have off : ∀ {b : Addr}, b ≠ sysModules → b ≠ a → H b = none := fun {b} n1 n2 => by
    cases q : H b with
    | none => rfl
    | some u =>
      rcases hs0_inv q with ⟨e, _⟩ | ⟨e, _⟩
      · exact absurd e n1
      · exact absurd e n2
  have dic : ∀ {b : Addr} {m : Str → Option Value}, b ≠ sysModules → s1.heap.Ns b m → (hidT s1.heap H).Ns b m := by
    rintro b m n1 ⟨o, es, ep, e, d, rest⟩
    refine ⟨o, es, ep, hidT_get e (off n1 ?_), d, rest⟩
    rintro rfl
    rw [ha] at e
    obtain rfl := Option.some.inj e
    cases d
  have KH : K.In (hidT s1.heap H) := by
    intro b o e
    refine hidT_get (KX b o e) ?_
    cases q : H b with
    | none => rfl
    | some u =>
      rcases hs0_inv q with ⟨rfl, _⟩ | ⟨rfl, z, _⟩
      · rw [k1] at e
        cases e
      · rw [z] at e
        cases e
  have limH : (hidT s1.heap H).NoLimit := let ⟨mc, h1, h2⟩ := lim; ⟨mc, dic (by decide) h1, h2⟩
  have M : L2.Mod K mg (hidT s1.heap H) := ⟨KH, dic (by decide) nsG, ⟨mb, dic (by decide) nsB, isB⟩, limH⟩
  have hS : SqL K H a (ns.map V.int) := by
    cases q : K.lookup a with
    | none => exact .inl (.inr ⟨scriptO vs, (if_neg na).trans (if_pos ⟨rfl, q⟩)⟩)
    | some o =>
      have e := KX a o q
      rw [ha] at e
      obtain rfl := Option.some.inj e
      exact .inr ⟨_, vs.toArray, _, q, rfl, rfl, rfl, by rw [List.size_toArray, hlen]; exact hl, by simpa using rv⟩
  have hok : HOk P w H s1.heap := by
    intro b u q
    rcases hs0_inv q with ⟨rfl, rfl⟩ | ⟨rfl, _, rfl⟩
    · exact ⟨ho1, ⟨_, ho1⟩, ⟨_, ho1⟩, fun h1 h2 ⟨o, z⟩ k => ⟨o, k _ z⟩⟩
    · exact ⟨ha, by rw [List.length_map]; exact hl, vs, _, rv, ha⟩
  have e0 : Env0 P w K mg (hidT s1.heap H) callerA [] s1 H :=
    ⟨rfl, M, fun b o e => of_hidT e, Nat.le_of_eq (hidT_size _ _), trivial, (fun b hb => by cases (show b ∈ ([] : List Addr) from hb)), hok, .of_eq gens⟩
  refine codeAny_mono ((F _ KH (dic (by decide) nsG)).go callerA [] s1 H ⟨[.ref a], []⟩ [.ref a] [.ref a] (fun v _ => v = .bl true) (fun _ _ _ => False) rfl hr e0 (hbind s1 (.ref a)) (.cons rfl .nil) (hsp H ⟨o1, if_pos rfl⟩ hS)) ?_
  intro r z h
  match r, h with
  | .ok .next, h => exact h.elim
  | .ok .brk, h => exact h.elim
  | .ok .cont, h => exact h.elim
  | .error e, h => exact (hCX H e z h).elim
  | .ok (.ret u), h =>
    obtain ⟨v, G, os, bare, un, hokG, rv', q⟩ := h
    obtain rfl : v = .bl true := q
    obtain rfl : u = Value.bool true := rv'
    have plain : ∀ b o, s1.heap.get? b = some o → z.heap.get? b = some o := by
      intro b o e
      cases q : H b with
      | none => exact un.keep b o e q (fun y => by cases (show b ∈ ([] : List Addr) from y)) (by simp)
      | some y =>
        rcases hs0_inv q with ⟨rfl, rfl⟩ | ⟨rfl, _, rfl⟩
        · obtain ⟨e2, _⟩ := hokG sysModules _ (un.frzs _ _ _ q)
          rw [ho1] at e
          exact Option.some.inj e ▸ e2
        · obtain ⟨e2, _⟩ := hokG b _ (un.frzs b _ _ q)
          rw [ha] at e
          exact Option.some.inj e ▸ e2
    exact ⟨rfl, ⟨fun b o e => .inl (plain b o e), fun b o e => ⟨o, plain b o e⟩⟩, os, bare⟩
end
/-- what is to be known of such a law -/
def GLawS (l : PySem.W.OpenLaw) (w : World) (K : PySem.W.Frag) (CX : CXT) (k n : Nat) (x : Str) (mg : Str → Option Value) (fa : Addr) : Prop :=
  ∃ (fd : FuncData) (sp : Sp), K.lookup sysModules = none ∧ (∀ (s : Shared) (u : Value), BindsTo s fd ⟨[u], []⟩ [(x, u)]) ∧
    (∀ (H : Hp) (a : Addr) (ns : List Int), ns.length ≤ n → SmAt H → SqL K H a (ns.map V.int) → sp [.ref a] H (fun v _ => v = .bl true) fun _ _ _ => False) ∧
    ∀ base : Heap, K.In base → base.Ns mainGlobals mg → GOk l.prog w K mg base CX k fa fd [x] sp
open PySem.W in
theorem walk_s {l : PySem.W.OpenLaw} {n k : Nat} {q : Program} {loose : List Str} {XP : (Str → Option Value) → Heap → Prop} {YP : World → Heap → Prop} {d : DefRec} {K : Params → PySem.W.Frag} {CX : World → CXT} {x : Str}
    (no : importsNone q = true) (hn : l.most = some n) (small : n ≤ sizeLine) (hdf : d.params.defaults = []) (hr : Room k callerA) (hY : ∀ (w : World) (h : Heap), YP w h → (K w.params).In h)
    (F : ∀ (w : World) (mg : Str → Option Value) (fa : Addr) (h : Heap), YP w h → (K w.params).In h → h.Ns mainGlobals mg → mg d.name = some (.ref fa) → GLawS l w (K w.params) (CX w) k n x mg fa)
    (hCX : ∀ (w : World) (H : Hp) (s : Shared) (e : Value) (s' : Shared), CX w [] H s (fun _ _ _ => False) e s' → False) :
    PySem.W.WalkO q loose XP YP l.row.toRowW d [] (fun f vs => PySem.call f vs) := by
  intro w s0 s1 mg mb G Y fa o pm cd doc dV kV ho hd hcd hD hmg hg args vals as pre lay rd well low
  obtain ⟨a, vs, ns, rfl, rfl, hobj, hints, hlen⟩ := Att.script_of hn pre well
  have na : a ≠ sysModules := by
    cases rd with
    | cons r1 r2 =>
      cases r1 with
      | list _ _ _ _ => exact beq_eq_false_iff_ne.mp (low a (by simp))
  have KX := hY w _ Y
  obtain ⟨fd, sp, k1, hb, hsp, hF⟩ := F w mg fa _ Y KX G.T.g hmg
  have run := law_scall KX G.T.g G.T.b G.T.builtins G.T.nolimit hg (let ⟨_, ⟨o, _, _, e, _⟩, _⟩ := (G.T.seer no).mods; ⟨o, e⟩) k1 na hobj hints (Nat.le_trans hlen small) hr hF hb (fun H a1 a2 => hsp H a ns hlen a1 a2) (fun H e s' => hCX w H s1 e s')
  refine enter_call (codeAny_mono run ?_)
  rintro r z ⟨rfl, old, os, bare⟩
  exact ⟨.inl ⟨.bool true, .bool true, [], rfl, fun _ => rfl, .bool true, Att.post_true l _, fun _ => ⟨List.Pairwise.nil, fun _ m => (nomatch m)⟩⟩, old, os, bare⟩
end Gd

set_option maxRecDepth 100000
set_option maxHeartbeats 1000000
/-! Data with dicts: what repr asks of them. -/
namespace My
open PySem PySem.Spec PyProof.Rows L2 GxR Gd TL
theorem same_new {H : Hp} {p : Addr} {o : HO} (n : H p = none) : Same H (upd H p o) := fun b u e => by rw [upd_ne (ne_of_none e n)]; exact e
theorem sameT {K : PySem.W.Frag} {H H' : Hp} {a : Addr} {xs : List V} (s : Same H H') (h : SqT K H a xs) : SqT K H' a xs := by
  rcases h with (h | ⟨o, h⟩) | h
  · exact .inl (.inl (s _ _ h))
  · exact .inl (.inr ⟨o, s _ _ h⟩)
  · exact .inr h
def keyD : Key → PyData
  | .inl i => .int i
  | .inr x => .str x
mutual
/-- v is the data d, dicts too -/
inductive Dq (K : PySem.W.Frag) (H : Hp) : V → PyData → Prop
  | non : Dq K H .non .none
  | bl (b : Bool) : Dq K H (.bl b) (.bool b)
  | int (i : Int) : Dq K H (.int i) (.int i)
  | str (z : Str) : Dq K H (.str z) (.str z)
  | lst {a : Addr} {xs : List V} {ds : List PyData} (e : SqL K H a xs) (h : DqAll K H xs ds) : Dq K H (.ref a) (.list ds)
  | tup {a : Addr} {xs : List V} {ds : List PyData} (e : SqT K H a xs) (h : DqAll K H xs ds) : Dq K H (.ref a) (.tuple ds)
  | dic {a : Addr} {kvs : List (Key × V)} {ds : List (PyData × PyData)} (e : H a = some (.dK kvs)) (h : DqKv K H kvs ds) : Dq K H (.ref a) (.dict ds)
inductive DqAll (K : PySem.W.Frag) (H : Hp) : List V → List PyData → Prop
  | nil : DqAll K H [] []
  | cons {v : V} {vs : List V} {d : PyData} {ds : List PyData} (h : Dq K H v d) (t : DqAll K H vs ds) : DqAll K H (v :: vs) (d :: ds)
inductive DqKv (K : PySem.W.Frag) (H : Hp) : List (Key × V) → List (PyData × PyData) → Prop
  | nil : DqKv K H [] []
  | cons {k : Key} {v : V} {r : List (Key × V)} {d : PyData} {ds : List (PyData × PyData)} (h : Dq K H v d) (t : DqKv K H r ds) : DqKv K H ((k, v) :: r) ((keyD k, d) :: ds)
end
mutual
theorem Dq.of {K : PySem.W.Frag} {H : Hp} : ∀ {v : V} {d : PyData}, Dp K H v d → Dq K H v d
  | _, _, .non => .non
  | _, _, .bl b => .bl b
  | _, _, .int i => .int i
  | _, _, .str z => .str z
  | _, _, .lst e h => .lst e (DqAll.of h)
  | _, _, .tup e h => .tup e (DqAll.of h)
theorem DqAll.of {K : PySem.W.Frag} {H : Hp} : ∀ {vs : List V} {ds : List PyData}, DpAll K H vs ds → DqAll K H vs ds
  | _, _, .nil => .nil
  | _, _, .cons h t => .cons (Dq.of h) (DqAll.of t)
end
mutual
theorem Dq.same {K : PySem.W.Frag} {H H' : Hp} (s : Same H H') : ∀ {v : V} {d : PyData}, Dq K H v d → Dq K H' v d
  | _, _, .non => .non
  | _, _, .bl b => .bl b
  | _, _, .int i => .int i
  | _, _, .str z => .str z
  | _, _, .lst e h => .lst (s.seq e) (DqAll.same s h)
  | _, _, .tup e h => .tup (sameT s e) (DqAll.same s h)
  | _, _, .dic e h => .dic (s _ _ e) (DqKv.same s h)
theorem DqAll.same {K : PySem.W.Frag} {H H' : Hp} (s : Same H H') : ∀ {vs : List V} {ds : List PyData}, DqAll K H vs ds → DqAll K H' vs ds
  | _, _, .nil => .nil
  | _, _, .cons h t => .cons (Dq.same s h) (DqAll.same s t)
theorem DqKv.same {K : PySem.W.Frag} {H H' : Hp} (s : Same H H') : ∀ {kvs : List (Key × V)} {ds : List (PyData × PyData)}, DqKv K H kvs ds → DqKv K H' kvs ds
  | _, _, .nil => .nil
  | _, _, .cons h t => .cons (Dq.same s h) (DqKv.same s t)
end
theorem keyD_reads {h : Heap} {k : Key} {v : Value} (e : keyIs k v = true) : Reads h v (keyD k) [] := by
  rcases keyIs_shape e with ⟨i, t, rfl, rfl⟩ | ⟨x, t, rfl, rfl⟩
  · exact .int i t
  · exact .str x t
section
variable {X : Cx} {pins : List (Addr × Obj)} {σ : L2.St} {H : Hp} {s : Shared}
theorem ne_sm {K : PySem.W.Frag} {H : Hp} {a : Addr} {xs : List V} (n : K.lookup sysModules = none) (sm : SmAt H) (h : SqL K H a xs) : a ≠ sysModules := by
  rintro rfl
  obtain ⟨o, e⟩ := sm
  rcases h with (h | ⟨u, h⟩) | ⟨u, _, _, h, _⟩
  · rw [e] at h
    cases h
  · rw [e] at h
    cases h
  · rw [n] at h
    cases h
mutual
theorem Dq.reads (n : X.K.lookup sysModules = none) (sm : SmAt H) (I : Inv X pins σ H s) : ∀ (d : PyData) (v : V) (u : Value), Dq X.K H v d → RelV v u → ∃ as, Reads s.heap u d as ∧ sysModules ∉ as
  | .none, _, _, h, r => by
    cases h
    cases r
    exact ⟨_, .none, by simp⟩
  | .bool b, _, _, h, r => by
    cases h
    cases r
    exact ⟨_, .bool b, by simp⟩
  | .int i, _, _, h, r => by
    cases h
    obtain ⟨t, rfl⟩ := r
    exact ⟨_, .int i t, by simp⟩
  | .str z, _, _, h, r => by
    cases h
    obtain ⟨t, rfl⟩ := r
    exact ⟨_, .str z t, by simp⟩
  | .list ds, _, _, h, r => by
    cases h with
    | lst hs ha =>
      cases r
      obtain ⟨its, rv, ⟨o, m, ho, hc, _, hd⟩, _⟩ := I.list hs
      obtain ⟨as, hr, no⟩ := Dq.readsAll n sm I ds _ its ha rv
      exact ⟨_, .list ho hc hd hr, fun m => (List.mem_cons.mp m).elim (ne_sm n sm hs).symm no⟩
  | .tuple ds, _, _, h, r => by
    cases h with
    | tup hs ha =>
      cases r
      obtain ⟨its, rv, ⟨o, ho, hc, m, hd⟩, _⟩ := I.tuple hs
      obtain ⟨as, hr, no⟩ := Dq.readsAll n sm I ds _ its ha rv
      exact ⟨_, .tuple ho hc hd hr, no⟩
  | .dict ds, _, _, h, r => by
    cases h with
    | dic e hk =>
      cases r
      obtain ⟨_, ne, vs, rel, o, es, ep, ho, hx, hd, _, hp, _⟩ := dk_of I.hok e
      obtain ⟨as, bs, h1, h2, n1, n2⟩ := Dq.readsKv n sm I ds _ vs es.toList hk rel hp
      refine ⟨_, .dict ho hx.1 hd h1 h2, fun m => ?_⟩
      rw [List.cons_append] at m
      rcases List.mem_cons.mp m with m | m
      · exact (beq_eq_false_iff_ne.mp ne) m.symm
      · exact (List.mem_append.mp m).elim n1 n2
theorem Dq.readsAll (n : X.K.lookup sysModules = none) (sm : SmAt H) (I : Inv X pins σ H s) : ∀ (ds : List PyData) (vs : List V) (us : List Value), DqAll X.K H vs ds → Vals vs us → ∃ as, ReadsAll s.heap us ds as ∧ sysModules ∉ as
  | [], _, _, h, r => by
    cases h
    cases r
    exact ⟨_, .nil, by simp⟩
  | d :: ds, _, _, h, r => by
    cases h with
    | cons h1 h2 =>
      cases r with
      | cons r1 r2 =>
        obtain ⟨as, q1, n1⟩ := Dq.reads n sm I d _ _ h1 r1
        obtain ⟨bs, q2, n2⟩ := Dq.readsAll n sm I ds _ _ h2 r2
        exact ⟨_, .cons q1 q2, fun m => (List.mem_append.mp m).elim n1 n2⟩
theorem Dq.readsKv (n : X.K.lookup sysModules = none) (sm : SmAt H) (I : Inv X pins σ H s) : ∀ (ds : List (PyData × PyData)) (kvs : List (Key × V)) (vs : List (Key × Value)) (es : List DictEntry), DqKv X.K H kvs ds → KV kvs vs → Pairs (mixKind X.prog X.w) es vs →
    ∃ as bs, ReadsAll s.heap (es.map (·.key)) (ds.map (·.1)) as ∧ ReadsAll s.heap (es.map (·.val)) (ds.map (·.2)) bs ∧ sysModules ∉ as ∧ sysModules ∉ bs
  | [], _, _, _, h, r, p => by
    cases h
    cases r
    cases p
    exact ⟨_, _, .nil, .nil, by simp, by simp⟩
  | (_, d) :: ds, _, _, _, h, r, p => by
    cases h with
    | cons h1 h2 =>
      cases r with
      | cons r1 r2 =>
        cases p with
        | cons p1 p2 p3 =>
          obtain ⟨as, q1, n1⟩ := Dq.reads n sm I d _ _ h1 r1.2
          obtain ⟨bs, cs, q2, q3, n2, n3⟩ := Dq.readsKv n sm I ds _ _ _ h2 r2 p3
          refine ⟨_, _, .cons (keyD_reads ?_) q2, .cons ?_ q3, by simpa using n2, fun m => (List.mem_append.mp m).elim n1 n3⟩
          · have e := r1.1
            dsimp only at e ⊢
            rw [e]
            exact p1
          · dsimp only
            rw [p2]
            exact q1
end
end
/-- repr(v), v data with dicts -/
def rReprQ (K : PySem.W.Frag) : List V → Hp → VK → Prop := fun xs H Q => ∃ v d, xs = [v] ∧ SmAt H ∧ Dq K H v d ∧ d.showable = true ∧ d.depth ≤ 100 ∧ d.shown.length ≤ sizeLine ∧ Q (.str d.shown) H
theorem call_reprQ {X : Cx} {k : Nat} (n : X.K.lookup sysModules = none) (gd : X.A.guards = some []) (hr : Room k X.A) : CallR X (.builtin "repr") (rReprQ X.K) := by
  rintro pins s σ H xs us Q I r ⟨v, d, rfl, sm, dq, hs, hdep, hsz, q⟩
  have whole : ∀ {a : Addr} {as : List Addr}, Reads s.heap (.ref a) d as → sysModules ∉ as → wpAny (model X.prog X.w) X.A (call (.builtin "repr") [.ref a]) (EP X pins σ Q) X.xe s := by
    intro a as rd no
    have hun := hr.un
    exact repr_of_reads' rd hs (fun _ => no) gd (by omega) (fun _ _ z => z) (fun h' u tk hk => ⟨.str _, H, I.kept hk, ⟨_, rfl⟩, q⟩) hsz
  cases dq with
  | non => exact call_repr gd hr pins s σ H _ us Q I r ⟨_, _, rfl, .non, hs, hdep, hsz, q⟩
  | bl b => exact call_repr gd hr pins s σ H _ us Q I r ⟨_, _, rfl, .bl b, hs, hdep, hsz, q⟩
  | int i => exact call_repr gd hr pins s σ H _ us Q I r ⟨_, _, rfl, .int i, hs, hdep, hsz, q⟩
  | str z => exact call_repr gd hr pins s σ H _ us Q I r ⟨_, _, rfl, .str z, hs, hdep, hsz, q⟩
  | lst e h =>
    obtain ⟨as, rd, no⟩ := Dq.reads n sm I _ _ us.head! (.lst e h) (by cases r with | cons a b => cases b; exact a)
    cases r with
    | cons a b => cases b; cases a; exact whole rd no
  | tup e h =>
    obtain ⟨as, rd, no⟩ := Dq.reads n sm I _ _ us.head! (.tup e h) (by cases r with | cons a b => cases b; exact a)
    cases r with
    | cons a b => cases b; cases a; exact whole rd no
  | dic e h =>
    obtain ⟨as, rd, no⟩ := Dq.reads n sm I _ _ us.head! (.dic e h) (by cases r with | cons a b => cases b; exact a)
    cases r with
    | cons a b => cases b; cases a; exact whole rd no
end My

set_option maxRecDepth 100000
set_option maxHeartbeats 1000000
/-! x in texts, x any thing -/
namespace My
open PySem PySem.Spec PyProof.Rows L2 GxR Gd TL
open PySem.SeqAt PySem.MeetsSeq in
theorem str_eq_dict (b : Str) (u : Tok) (l : Addr) (c : Value) (es : Array DictEntry) (n : Nat) (dd : Option Addr) (sl : Array (Option Value)) :
    Meets (Builtin.«str.__eq__» ⟨[.str b u, .ref l], []⟩) (fun _ R s => s.heap.get? l = some { cls := c, dict := dd, data := .dict es n, slots := sl } ∧ R (.ok (.ret .notImplemented)) s) :=
  .of_wp fun prog w A R s h => by obtain ⟨hp, g, d, tk, os⟩ := s; obtain ⟨hl, h⟩ := h; wp_walk using wpAny_loadPart hl, wpAny_load hl; exact ⟨_, rfl, h⟩
end My
namespace My
open PySem PySem.Spec PyProof.Rows L2 GxR Gd TL
open PySem.SeqAt PySem.MeetsSeq in
theorem rcAt_str_dict {A : Around} {s : Shared} {l : Addr} {o : Obj} {es : Array DictEntry} {n : Nat} (b : Str) (u : Tok) (ho : s.heap.get? l = some o) (hc : o.cls = .type "dict") (hd : o.data = .dict es n) (hu : A.units < cLine) : RcAt A s (.str b u) (.ref l) false := fun prog w E Q h => by
  obtain ⟨cls, dd, data, sl⟩ := o
  simp only at hc hd
  subst hc hd
  have ty : s.TypeIs (.ref l) "dict" := ⟨_, ho, rfl⟩
  refine rc_eq_decline_or (k := false) (typeIs_str s b u) ty (by decide) PySem.F.sub_dict_str PySem.F.slot_str_eq PySem.F.slot_dict_eq_refl
    (fun _ hq => call_meets PySem.F.slot_str_eq (typeIs_str s b u) PySem.F.entry_str_eq (PySem.F.args_str_eq_2 _ _) (str_eq_dict b u l (.type "dict") es n dd sl) ⟨ho, hq⟩)
    (fun _ hq => ?_)
    (fun _ hq => wpAny_of_eq (rfl : isSame (.str b u) (.ref l) = pure false) hq) (.inr hu) h
  refine wpAny_call_entry PySem.F.slot_dict_eq_refl ty PySem.F.entry_dict_eq ?_ (PySem.F.args_dict_eq_2 _ _)
  show wpAny _ _ (Builtin.Dict.dictSlotArgs "__eq__" ⟨[.ref l, .str b u], []⟩ >>= _) _ _ s
  refine wpAny_bind ?_
  unfold Builtin.Dict.dictSlotArgs
  refine wpAny_bind (wpAny_notOrdered_dict ty ?_)
  show wpAny _ _ (pure (Value.ref l, Value.str b u)) _ _ s
  refine wpAny_pure ?_
  refine wpAny_bind (wpAny_isInstance (T := "str") (typeIs_str s b u) PySem.F.sub_str_dict ?_)
  simp only [Bool.not_false, if_true]
  refine wpAny_bind (wpAny_rule (wpAny_pure ⟨_, rfl, hq⟩))
open PySem.SeqAt PySem.MeetsSeq in
theorem eqAt_str_dict {A : Around} {s : Shared} {l : Addr} {o : Obj} {es : Array DictEntry} {n : Nat} (b : Str) (u : Tok) (ho : s.heap.get? l = some o) (hc : o.cls = .type "dict") (hd : o.data = .dict es n) (hu : A.units < cLine) : EqAt A s (.str b u) (.ref l) false := fun prog w E Q h => by
  unfold eqBool
  refine wpAny_holding ?_
  refine wpAny_ite_split (fun hab => absurd (eq_of_beq hab) nofun) (fun _ => ?_)
  exact wpAny_bind (rcAt_str_dict b u ho hc hd hu prog w E _ (wpAny_truthy_bool h))
/-- any thing in a list of texts -/
def rInT (K : PySem.W.Frag) : R2 := fun x y H Q => ∃ (p : Addr) (zs : List Str), y = .ref p ∧ SqL K H p (zs.map V.str) ∧
  ((flatV x = true ∧ Q (.bl (inV x (zs.map V.str))) H) ∨ ((∃ a, x = .ref a ∧ ((∃ xs, SqL K H a xs) ∨ (∃ xs, SqT K H a xs) ∨ ∃ kvs, H a = some (.dK kvs))) ∧ Q (.bl false) H))
theorem any_false {α : Type} : ∀ xs : List α, (xs.any fun _ => false) = false
  | [] => rfl
  | _ :: r => by rw [List.any_cons, any_false r]; rfl
theorem op_inT {X : Cx} (hu : X.A.units + 2 < cLine) : OpR X (compareOp .In) (rInT X.K) := by
  rintro pins s σ H x y v u Q I rx ry ⟨p, zs, rfl, hp, cs⟩
  rcases cs with ⟨fx, q⟩ | ⟨⟨a, rfl, ha⟩, q⟩
  · refine op_in_seq pins s σ H x _ v u Q I rx ry ⟨p, _, rfl, .inl hp, fx, ?_, q⟩
    rw [List.all_map]
    exact List.all_eq_true.mpr fun _ _ => rfl
  · cases ry
    cases rx
    obtain ⟨its, r, pl, hz⟩ := I.list hp
    refine SeqAt.in_listAt (fun _ => false) pl.isList (fun w hw => ?_) ⟨.bl _, H, I, rfl, ?_⟩
    · obtain ⟨z, hz, rz⟩ : ∃ z : Str, z ∈ zs ∧ RelV (.str z) w := by
        have hw2 : w ∈ its := by simpa using hw
        clear pl hz hp hw
        induction zs generalizing its with
        | nil => cases r; cases hw2
        | cons z zs ih =>
          cases r with
          | cons r1 r2 =>
            rcases List.mem_cons.mp hw2 with rfl | hw
            · exact ⟨z, List.mem_cons_self, r1⟩
            · obtain ⟨z', h1, h2⟩ := ih _ r2 hw
              exact ⟨z', List.mem_cons_of_mem _ h1, h2⟩
      obtain ⟨t, rfl⟩ := rz
      have hu2 : X.A.in1.units < cLine := by show X.A.units + 1 < cLine; omega
      rcases ha with ⟨xs, h⟩ | ⟨xs, h⟩ | ⟨kvs, h⟩
      · obtain ⟨its2, _, pl2, _⟩ := I.list h
        exact SeqAt.EqAt.str_list z t pl2.isList hu2
      · obtain ⟨its2, _, pl2, _⟩ := I.tuple h
        exact SeqAt.EqAt.str_tuple z t pl2 hu2
      · obtain ⟨_, _, vs, _, o, es, ep, h1, h2, h3, _⟩ := dk_of I.hok h
        exact eqAt_str_dict z t h1 h2.1 h3 hu2
    · rw [← Array.any_toList, any_false]
      exact q
def rInTt (K : PySem.W.Frag) : R2 := fun x y H Q => ∃ (p : Addr) (zs : List Str), y = .ref p ∧ SqT K H p (zs.map V.str) ∧
  ((flatV x = true ∧ Q (.bl (inV x (zs.map V.str))) H) ∨ ((∃ a, x = .ref a ∧ ((∃ xs, SqL K H a xs) ∨ (∃ xs, SqT K H a xs) ∨ ∃ kvs, H a = some (.dK kvs))) ∧ Q (.bl false) H))
theorem op_inTt {X : Cx} (hu : X.A.units + 2 < cLine) : OpR X (compareOp .In) (rInTt X.K) := by
  rintro pins s σ H x y v u Q I rx ry ⟨p, zs, rfl, hp, cs⟩
  rcases cs with ⟨fx, q⟩ | ⟨⟨a, rfl, ha⟩, q⟩
  · refine op_in_seq pins s σ H x _ v u Q I rx ry ⟨p, _, rfl, .inr hp, fx, ?_, q⟩
    rw [List.all_map]
    exact List.all_eq_true.mpr fun _ _ => rfl
  · cases ry
    cases rx
    obtain ⟨its, r, pl, hz⟩ := I.tuple hp
    refine SeqAt.in_tupleAt (fun _ => false) pl (fun w hw => ?_) ⟨.bl _, H, I, rfl, ?_⟩
    · obtain ⟨z, hz, rz⟩ : ∃ z : Str, z ∈ zs ∧ RelV (.str z) w := by
        have hw2 : w ∈ its := by simpa using hw
        clear pl hz hp hw
        induction zs generalizing its with
        | nil => cases r; cases hw2
        | cons z zs ih =>
          cases r with
          | cons r1 r2 =>
            rcases List.mem_cons.mp hw2 with rfl | hw
            · exact ⟨z, List.mem_cons_self, r1⟩
            · obtain ⟨z', h1, h2⟩ := ih _ r2 hw
              exact ⟨z', List.mem_cons_of_mem _ h1, h2⟩
      obtain ⟨t, rfl⟩ := rz
      have hu2 : X.A.in1.units < cLine := by show X.A.units + 1 < cLine; omega
      rcases ha with ⟨xs, h⟩ | ⟨xs, h⟩ | ⟨kvs, h⟩
      · obtain ⟨its2, _, pl2, _⟩ := I.list h
        exact SeqAt.EqAt.str_list z t pl2.isList hu2
      · obtain ⟨its2, _, pl2, _⟩ := I.tuple h
        exact SeqAt.EqAt.str_tuple z t pl2 hu2
      · obtain ⟨_, _, vs, _, o, es, ep, h1, h2, h3, _⟩ := dk_of I.hok h
        exact eqAt_str_dict z t h1 h2.1 h3 hu2
    · rw [← Array.any_toList, any_false]
      exact q
end My

set_option maxRecDepth 100000
set_option maxHeartbeats 4000000
/-! enumerate(a tuple) -/
namespace My
open PySem PySem.Spec PyProof.Rows L2
open Builtin in
set_option maxHeartbeats 1000000 in
theorem meets_enum_of {v : Value} {o : Obj} {H : Heap → Prop} (B : Begins v o H) :
    Meets (Builtin.«enumerate.__new__» ⟨[.type "enumerate", v], []⟩) (fun _ R s => H s.heap ∧
      R (.ok (.ret (.ref (s.heap.push o).objs.size))) { s with heap := (s.heap.push o).push { cls := .type "enumerate", data := .fields #[.none, .bool false, .ref s.heap.objs.size, rawInt 0, .none, .none] } }) :=
  .of_wp fun prog w A R s hh => by
    obtain ⟨hp, g, d, tk, os⟩ := s
    obtain ⟨hB, hR⟩ := hh
    have hsub := sub_enumerate
    have it1 : ∀ {A' : Around} {E : Value → Shared → Prop} {Q : Value → Shared → Prop}, Q (.ref hp.objs.size) ⟨hp.push o, g, d, tk, os⟩ → wpAny (model prog w) A' (pyIter v) Q E ⟨hp, g, d, tk, os⟩ :=
      fun z => B.iter prog w _ _ ⟨hp, g, d, tk, os⟩ _ hB z
    wp_walk using it1
    refine wpAny_stack_any fun st => wpAny_pure ?_
    split
    · rename_i c _ _ _ _ _
      cases (c == Value.type "enumerate") <;> (wp_walk using it1; exact ⟨_, rfl, hR⟩)
    · wp_walk using it1
      exact ⟨_, rfl, hR⟩
theorem call_enum_tuple {prog : Program} {w : World} {A : Around} {E : Value → Shared → Prop} {s : Shared} {a : Addr} {items : Array Value} {Q : Value → Shared → Prop} (ht : s.heap.IsTuple a items)
    (h : ∀ h', IsEnum h' (s.heap.objs.size + 1) s.heap.objs.size 0 .none → h'.IsTupleIter s.heap.objs.size a 0 → (∀ b o, s.heap.get? b = some o → h'.get? b = some o) →
      Q (.ref (s.heap.objs.size + 1)) { s with heap := h' }) : wpAny (model prog w) A (call (.type "enumerate") [.ref a]) Q E s := by
  refine callType_new F.called_enumerate (by decide) (F.typeCall_enumerate_1 _) (F.newCall_enumerate_1 _) (fun obj => F.args_object_init_2 obj _) F.entry_enumerate_new (meets_enum_of (begins_tuple a items)) ⟨ht, ?_⟩
  have z1 : (s.heap.push { cls := .type "tuple_iterator", data := .fields #[.ref a, .int 0 0] }).objs.size = s.heap.objs.size + 1 := Heap.size_push ..
  have ge := Heap.get?_push_size (s.heap.push { cls := .type "tuple_iterator", data := .fields #[.ref a, .int 0 0] }) (o := { cls := .type "enumerate", data := .fields #[.none, .bool false, .ref s.heap.objs.size, rawInt 0, .none, .none] }) rfl
  rw [z1] at ge
  show _ ∧ _
  rw [z1]
  exact ⟨⟨_, ge, rfl⟩, h _ ge ⟨_, Heap.get?_push_of_some _ (Heap.get?_push_size _ rfl), rfl, rfl⟩ fun b o x => Heap.get?_push_of_some _ (Heap.get?_push_of_some _ x)⟩
/-- the tuple at a, each item in a new pair with its number -/
def IteT (K : PySem.W.Frag) (a : Addr) : It :=
  ⟨fun i H => ∃ (xs : List V) (x : V), SqT K H a xs ∧ xs[i]? = some x,
   fun i H v H' => ∃ T x, v = .ref T ∧ H T = none ∧ H' = upd H T (.tup [.int (i : Nat), x]) ∧ ∀ xs, SqT K H a xs → xs[i]? = some x,
   fun i H => ∃ xs : List V, SqT K H a xs ∧ xs.length ≤ i⟩
theorem turn_enumT {P : Program} {w : World} {K : PySem.W.Frag} {elts : List Expr} {kk : Nat} {tp : Pos} (a e it : Addr) :
    Turn P w K (.Tuple elts kk tp) (IteT K a) [e, it] e (fun i h => (∃ old, IsEnum h e it ((i : Nat) : Int) old) ∧ h.IsTupleIter it a i ∧ e ≠ it) := by
  have two : ∀ {b : Addr}, b ∈ [e, it] → b = e ∨ b = it := fun {b} hb => by simpa using hb
  constructor
  case mem => exact List.mem_cons_self
  case obj =>
    rintro i h ⟨⟨old, he⟩, ⟨o, ho, hc, hd⟩, hne⟩ b hb
    rcases two hb with rfl | rfl
    · exact ⟨_, he, fun v q => nomatch q⟩
    · exact ⟨o, ho, fun v q => by rw [hd] at q; cases q⟩
  case keep =>
    rintro i h h' ⟨⟨old, he⟩, ⟨o, ho, r⟩, hne⟩ k
    exact ⟨⟨old, k e List.mem_cons_self _ he⟩, ⟨o, k it (by simp) _ ho, r⟩, hne⟩
  case self =>
    rintro A i s Q E ⟨⟨_, he⟩, _⟩ hQ
    exact wpAny_pyIter_enum he hQ
  case item =>
    rintro X rfl rfl rfl hc i pins s σ H E I hf ⟨⟨old, he⟩, hit, hne⟩ ⟨xs, x, hq, hx⟩
    obtain ⟨its, rv, p, hz⟩ := I.tuple hq
    have pt : s.heap.IsTuple a its.toArray := let ⟨o, h1, h2, n, h3⟩ := p; ⟨o, h1, h2, n, h3⟩
    obtain ⟨u, hu, ru⟩ := rv.get hx
    have hi : i < its.toArray.size := by
      have := (List.getElem?_eq_some_iff.mp hu).1
      simpa using this
    have ane : a ≠ it := by
      rintro rfl
      obtain ⟨o1, h1, h2, _⟩ := hit
      obtain ⟨o2, h3, h4, _⟩ := pt
      rw [h1] at h3
      cases h3
      rw [h2] at h4
      simp at h4
    have aee : a ≠ e := by
      rintro rfl
      obtain ⟨o2, h3, h4, _⟩ := pt
      have h1 : s.heap.get? a = some _ := he
      rw [h1] at h3
      cases h3
      simp at h4
    have le : e < s.heap.objs.size := Heap.lt_size he
    have li : it < s.heap.objs.size := by
      obtain ⟨_, q, _⟩ := hit
      exact Heap.lt_size q
    have D := Draws.tuple (prog := X.prog) (w := X.w) (A := X.A.in1) (show X.A.in1.handled = none from I.ok.hd hc) it a ane its.toArray
    refine wpAny_pyNext_enum_itemD D he ⟨hit, pt⟩ hi hne (fun z => ?_) fun y h' tk hy ho hst hT hsz hk => ?_
    · rcases List.mem_cons.mp z with z | z
      · exact hne z
      · exact aee (List.mem_singleton.mp z).symm
    · have ey : y = u := by
        have z : its.toArray[i]? = some u := by simpa using hu
        exact Option.some.inj (hy.symm.trans z)
      subst ey
      refine ⟨_, rfl, wpAny_letOwnedTupleGo_enum (s := { s with heap := h', toks := tk + 1 }) ho fun h2 he2 sb => ?_⟩
      have hT2 : h2.get? s.heap.objs.size = some { cls := .type "tuple", data := .seq #[.int i tk, y] } := (sb.2 _ (Nat.ne_of_gt le)).trans hT
      have new : ObjOk X.prog X.w (upd H s.heap.objs.size (.tup [.int (i : Nat), x])) h2 s.heap.objs.size (.tup [.int (i : Nat), x]) :=
        ⟨(by show 2 ≤ sizeLine; decide), [.int i tk, y], .cons ⟨_, rfl⟩ (.cons ru .nil), ⟨_, hT2, rfl, _, rfl⟩⟩
      have I1 := I.turnedNew (t' := tk + 1) (ch := [e, it]) (h' := h2) (fun b o hb q => (sb.2 b (fun z => hb (by simp [z]))).trans (hk b o (fun z => hb (by simp [z])) (fun z => hb (by simp [z])) q)) hf (Nat.le_refl _) new
      refine ⟨.ref s.heap.objs.size, _, I1, rfl, ⟨_, x, rfl, I.hok.fresh (Nat.le_refl _), rfl, fun ys hy => by rw [I.tuple_inj hy hq]; exact hx⟩, ⟨⟨y, ?_⟩, ?_, hne⟩, fun b hb => ?_⟩
      · have e1 : ((i + 1 : Nat) : Int) = (i : Int) + 1 := by omega
        rw [e1]
        exact he2
      · obtain ⟨o, q1, q2⟩ := hst.1
        exact ⟨o, (sb.2 it (Ne.symm hne)).trans q1, q2⟩
      · have lb : b < s.heap.objs.size := by
          rcases two hb with rfl | rfl
          · exact le
          · exact li
        rw [upd_ne (Nat.ne_of_lt lb)]
        exact (hf b hb).1
  case done =>
    rintro X rfl rfl rfl hc i pins s σ H E I hf ⟨⟨old, he⟩, hit, hne⟩ ⟨xs, hq, hx⟩
    obtain ⟨its, rv, p, hz⟩ := I.tuple hq
    have pt : s.heap.IsTuple a its.toArray := let ⟨o, h1, h2, n, h3⟩ := p; ⟨o, h1, h2, n, h3⟩
    have ane : a ≠ it := by
      rintro rfl
      obtain ⟨o1, h1, h2, _⟩ := hit
      obtain ⟨o2, h3, h4, _⟩ := pt
      rw [h1] at h3
      cases h3
      rw [h2] at h4
      simp at h4
    obtain ⟨f0, f1, f2, f3, f4, f5⟩ := hf it (by simp)
    have hl := rv.length
    -- at the end the place is not told by Draws (it stands at any i ≥ the size): the library's end of a tuple's iterator
    have D : Draws X.prog X.w X.A.in1 it [it, a] i (fun _ _ => False) (fun j h => j = i ∧ h.IsTupleIter it a i ∧ h.IsTuple a its.toArray) := by
      constructor
      case live => rintro j h ⟨_, ⟨o, ho, _⟩, _⟩; exact ⟨o, ho⟩
      case frame => rintro j h h' ⟨ej, st1, st2⟩ hk; exact ⟨ej, st1.at fun o e => hk it (by simp) o e, st2.at fun o e => hk a (by simp) o e⟩
      case item => rintro j s Q E hj ⟨ej, _⟩ _; exact absurd hj (by omega)
      case done => rintro s Q E ⟨_, st1, st2⟩ hE; exact wpAny_nextOf_tuple_end (show X.A.in1.handled = none from I.ok.hd hc) st1 st2 (by simp; omega) hE
    exact wpAny_pyNext_enum_endD D he ⟨rfl, hit, pt⟩ fun h' eb => ⟨rfl, I.turned (t' := s.toks) (fun b o hb q => eb b o hb q) f0 f1 f3 f4 f5⟩
def iEnumT (K : PySem.W.Frag) (ta : TA) : TI := fun σ H R => ta σ H fun vs H1 => ∃ a xs, vs = [.ref a] ∧ SqT K H1 a xs ∧ R (IteT K a) H1
theorem pi_enumT {X : Cx} {e : Expr} {ta : TA} {p pos tp : Pos} {elts : List Expr} {kk : Nat} (hg : Gl X "enumerate") (hm : X.mg "enumerate" = none) (ha : PA X [e] ta) (hs : starEach [e] X.env = [(false, eval e X.env)] := by rfl) :
    PI X (.Tuple elts kk tp) (.Call (.Name "enumerate" p) [e] [] pos) (iEnumT X.K ta) := by
  refine ⟨fun pins s σ H R I h => Call_ (ld_blt I hg hm boot_enumerate (PyProof.Rows.callWith_type1 (thn (ha.run pos pins s σ H _ I h) ?_) hs rfl))⟩
  rintro us s1 ⟨vs, H1, I1, r1, a, xs, rfl, hq, q⟩
  cases r1 with
  | cons r rr =>
    cases rr
    cases r
    obtain ⟨its, rv, p, hz⟩ := I1.tuple hq
    have pt : s1.heap.IsTuple a its.toArray := let ⟨o, h1, h2, n, h3⟩ := p; ⟨o, h1, h2, n, h3⟩
    refine call_enum_tuple pt fun h' he hit hk => wpAny_pyIter_enum he ?_
    have I2 : Inv X pins σ H1 { s1 with heap := h' } := I1.kept (t' := s1.toks) hk
    refine ⟨s1.heap.objs.size + 1, [s1.heap.objs.size + 1, s1.heap.objs.size], _, _, H1, rfl, I2, turn_enumT a (s1.heap.objs.size + 1) s1.heap.objs.size, ⟨⟨.none, he⟩, hit, Nat.succ_ne_self _⟩, fun b hb => ?_, q⟩
    have lb : s1.heap.objs.size ≤ b := by
      have e' : b = s1.heap.objs.size + 1 ∨ b = s1.heap.objs.size := by simpa using hb
      rcases e' with z | z
      · rw [z]; exact Nat.le_add_right _ _
      · rw [z]; exact Nat.le_refl _
    exact I1.fpOk lb (I1.hok.fresh lb)
theorem walk_enumT {K : PySem.W.Frag} {a : Addr} {xs : List V} : Walk (IteT K a) xs.length (fun H => SqT K H a xs) (YPair (fun i => some (.int (i : Nat))) (fun i => xs[i]?)) := by
  refine ⟨fun i _ hi q => ⟨xs, xs[i], q, by simp [hi]⟩, fun _ q => ⟨xs, q, Nat.le_refl _⟩, ?_⟩
  rintro i H v H' _ q ⟨T, x, h1, h2, h3, h4⟩
  exact ⟨T, .int (i : Nat), x, h1, h2, h3, rfl, h4 xs q⟩
/-- a dict comprehension over a walk -/
theorem dc_it {J : It} {n : Nat} {G : Hp → Prop} {Y : Nat → Hp → V → Hp → Prop} (w : Walk J n G Y) {g : TG} {tt : TT} {tk tv : TE} {vs : List Nat} {σ : L2.St} {H1 : Hp} {D : Addr} {Qd : Hp → Prop} (Pv : Nat → Hp → Prop) (h0 : Pv 0 (upd H1 D (.dK [])))
    (hG : ∀ i H, i ≤ n → Pv i H → G H)
    (hs : ∀ i x H H', i < n → Pv i H → Y i H x H' → g x (wipe σ vs) H' fun σ2 H2 => wipe σ2 vs = wipe σ vs ∧ tt σ2 H2 fun b H3 =>
      if b = true then tk σ2 H3 fun y H4 => tv σ2 H4 fun z H5 => ∃ kvs k, y = kV k ∧ H5 D = some (.dK kvs) ∧ kvs.length < sizeLine ∧ Pv (i + 1) (upd H5 D (.dK (putK kvs k z))) else Pv (i + 1) H3) (hd : ∀ H, Pv n H → Qd H) :
    ∃ W : Nat → Nat → Hp → Prop, (∃ m, W 0 m (upd H1 D (.dK []))) ∧ ∀ i m H, W i m H →
      (J.stop i H ∧ Qd H) ∨ (J.go i H ∧ ∃ Nx : Hp → Prop, (∀ H', Nx H' → ∃ m', m' < m ∧ W (i + 1) m' H') ∧ ∀ x H', J.yld i H x H' → g x (wipe σ vs) H' fun σ2 H2 => wipe σ2 vs = wipe σ vs ∧ tt σ2 H2 fun b H3 =>
        if b = true then tk σ2 H3 fun y H4 => tv σ2 H4 fun z H5 => ∃ kvs k, y = kV k ∧ H5 D = some (.dK kvs) ∧ kvs.length < sizeLine ∧ Nx (upd H5 D (.dK (putK kvs k z))) else Nx H3) := by
  refine ⟨fun i m H => i + m = n ∧ Pv i H, ⟨n, by simp, h0⟩, ?_⟩
  rintro i m H ⟨ei, p⟩
  have g1 := hG i H (by omega) p
  cases m with
  | zero =>
    have e : i = n := by omega
    subst e
    exact .inl ⟨w.stops H g1, hd H p⟩
  | succ m =>
    refine .inr ⟨w.goes i H (by omega) g1, Pv (i + 1), fun H' q => ⟨m, Nat.lt_succ_self m, by omega, q⟩, fun x H' y => hs i x H H' (by omega) p (w.yields i H x H' (by omega) g1 y)⟩
end My

set_option maxRecDepth 100000
set_option maxHeartbeats 400000
namespace F4
open PySem PySem.Spec PyProof.Rows L2 GxR Gd TL My
theorem same_alloc {H : Hp} {p : Addr} {o : HO} (n : H p = none) : Same H (upd H p o) := fun c u h => by rw [upd_ne (ne_of_none h n)]; exact h
theorem take_at {α : Type} {l : List α} {i : Nat} {x : α} (h : l[i]? = some x) : l.take (i + 1) = l.take i ++ [x] := by
  rw [List.take_add_one, h]
  rfl
theorem lt_line (i : Nat) (h : i ≤ 100) : i < sizeLine := Nat.lt_of_le_of_lt h (by decide)
theorem two_line : 2 ≤ sizeLine := by decide
theorem three_line : 3 ≤ sizeLine := by decide
theorem drop_atG {α : Type} {xs : List α} {i : Nat} {x : α} (h : xs[i]? = some x) : xs.drop i = x :: xs.drop (i + 1) := by
  obtain ⟨hi, e⟩ := (List.getElem?_eq_some_iff.mp h)
  rw [← e]
  exact List.drop_eq_getElem_cons hi
theorem strs_dp {K : PySem.W.Frag} {H : Hp} : ∀ l : List Str, DpAll K H (l.map V.str) (l.map PyData.str)
  | [] => .nil
  | z :: r => .cons (.str z) (strs_dp r)
theorem small_line {n : Nat} (h : n ≤ 1000000) : n ≤ sizeLine := Nat.le_trans h (by rw [sizeLine_eq]; decide)
theorem fit2 {n : Nat} (h : n ≤ 1000000) : n ≤ sizeLine := small_line h
theorem fit {n : Nat} (h : n ≤ 1000) : n ≤ sizeLine := small_line (by omega)
theorem KB.same {D : Addr} {H H' : Hp} (n : H D = none) (k : KB D H H') : Same H H' := fun c o h => k c o (ne_of_none h n) h
/-- a comprehension that makes texts, by any walk over values -/
theorem strs_it {J : It} {G : Hp → Prop} {xs : List V} {out : List Str} (w : Walk J xs.length G (YAt xs)) {g : TG} {te : TE} {vs : List Nat} {σ : L2.St} {H : Hp} {D : Addr} {Qd : Hp → Prop} (hl : out.length = xs.length) (h20 : out.length ≤ 100) (hD : H D = none)
    (hG : ∀ H', KB D H H' → G H')
    (hs : ∀ (i : Nat) (v : V) (H' : Hp) (C : VK) (B : Hp → Prop), xs[i]? = some v → KB D H H' → (∀ z H4, out[i]? = some z → Same H' H4 → C (.str z) H4) → g v (wipe σ vs) H' fun σ2 H2 => wipe σ2 vs = wipe σ vs ∧ tYes σ2 H2 fun b H3 => if b = true then te σ2 H3 C else B H3)
    (hd : ∀ H', KB D H H' → H' D = some (.lst (out.map V.str)) → Qd H') :
    ∃ W : Nat → Nat → Hp → Prop, (∃ m, W 0 m (upd H D (.lst []))) ∧ ∀ i m H, W i m H →
    (J.stop i H ∧ Qd H) ∨ (J.go i H ∧ ∃ Nx : Hp → Prop, (∀ H', Nx H' → ∃ m', m' < m ∧ W (i + 1) m' H') ∧ ∀ x H', J.yld i H x H' → g x (wipe σ vs) H' fun σ2 H2 => wipe σ2 vs = wipe σ vs ∧ tYes σ2 H2 fun b H3 =>
      if b = true then te σ2 H3 fun y H4 => ∃ acc, H4 D = some (.lst acc) ∧ acc.length < sizeLine ∧ Nx (upd H4 D (.lst (acc ++ [y]))) else Nx H3) := by
  refine lc_it w (fun i H' => KB D H H' ∧ H' D = some (.lst ((out.take i).map V.str))) ⟨KB.alloc hD, upd_same⟩ (fun i H' _ h => hG H' h.1) ?_ ?_
  · rintro i v H' H'' hi ⟨kb, e⟩ ⟨rfl, hv⟩
    refine hs i v H'' _ _ hv kb fun z H4 hz s => ⟨_, s _ _ e, ?_, fun c o n h => by rw [upd_ne n]; exact s _ _ (kb c o n h), ?_⟩
    · (rw [List.length_map, List.length_take])
      exact lt_line _ (by omega)
    · rw [take_at hz, List.map_append]
      exact upd_same
  · rintro H' ⟨kb, e⟩
    rw [← hl, List.take_of_length_le (Nat.le_refl _)] at e
    exact hd H' kb e
theorem strs_flat (zs : List Str) : (zs.map V.str).all flatV = true := by
  rw [List.all_eq_true]
  intro x hx
  obtain ⟨z, _, rfl⟩ := List.mem_map.mp hx
  rfl
theorem strs_at {zs : List Str} {j : Nat} {k : Str} (h1 : zs[j]? = some k) : (zs.map V.str)[j]? = some (.str k) := by rw [List.getElem?_map, h1]; rfl
theorem strs_eq (k : Str) : eqV (.str k) (.str k) = true := by simp [eqV]
theorem strs_no {zs : List Str} {j : Nat} {k : Str} (h2 : ∀ m, m < j → zs[m]? ≠ some k) : ∀ (m : Nat) (z' : V), m < j → (zs.map V.str)[m]? = some z' → eqV z' (.str k) = false := by
  intro m z' hm e
  rw [List.getElem?_map] at e
  cases e2 : zs[m]? with
  | none => rw [e2] at e; cases e
  | some y =>
    rw [e2] at e
    obtain rfl := Option.some.inj e
    have : y ≠ k := fun h => h2 m hm (by rw [e2, h])
    simp [eqV, this]
theorem in_strs (z : Str) (zs : List Str) : inV (.str z) (zs.map V.str) = decide (z ∈ zs) := by
  rw [Bool.eq_iff_iff, decide_eq_true_iff]
  unfold inV
  rw [List.any_eq_true]
  constructor
  · rintro ⟨y, hy, q⟩
    obtain ⟨x, hx, rfl⟩ := List.mem_map.mp hy
    have q : V.str x = V.str z := by simpa [eqV] using q
    rw [← V.str.inj q]
    exact hx
  · intro h
    exact ⟨.str z, List.mem_map.mpr ⟨z, h, rfl⟩, by simp [eqV]⟩
end F4

set_option maxRecDepth 100000
set_option maxHeartbeats 1000000
/-! GxA: all(..) of a generator expression whose element calls: the consumer. -/
namespace My
open PySem PySem.Spec PyProof.Rows L2 GenW
/-- amid two turns the consumer changes nothing that stood -/
structure Woke (s s' : Shared) : Prop where
  os : s'.os = s.os
  bare : AllBare s'.gens
  keep : ∀ b o, s.heap.get? b = some o → s'.heap.get? b = some o
/-- a truth is handed out -/
def AY (a : Addr) (g : Nat) (Fw : Bool → Shared → Prop) : Protocol := fun _ _ v s kap =>
  AllBare s.gens ∧ ∃ b : Bool, v = .bool b ∧ (b = false → Fw false s) ∧ (b = true → s.heap.NoLimit ∧ s.heap.IsGen a g ∧ ∀ s', Woke s s' → kap (.send .none) s')
/-- all were true -/
def AR (Fw : Bool → Shared → Prop) : GenEnd := fun _ _ r s => r = .ok .next ∧ AllBare s.gens ∧ Fw true s
section
variable {P : Program} {w : World} {A : Around} {E : Value → Shared → Prop} {Fw : Bool → Shared → Prop} {a : Addr} {g : Nat} {R : Result → Shared → Prop}
theorem all_walk (hh : A.handled = none) (hd : A.depth < recursionLimit) (st : ∀ b s s', Woke s s' → Fw b s → Fw b s') (hR : ∀ b s, Fw b s → R (.ok (.ret (.bool b))) s) :
    ∀ (n : Nat) (s : Shared), s.heap.IsGen a g → s.heap.NoLimit → (∃ gs, s.gens[g]? = some gs ∧ gs.Goes (model P w) A.in1.in1 (AR Fw) (AY a g Fw) n (.send .none) (s.setGen g .running)) →
      codeAny (model P w) A (.builtin "all.loop" ⟨[.ref a], []⟩) R s := by
  intro n
  induction n with
  | zero =>
    intro s hg hl ⟨gs, hgs, hgo⟩
    refine (codeAny_builtin F.entry_all_loop ?_)
    (rw [Around.under_plainId F.plain_all_loop _])
    show (wpAny _ A.in1 (pyNext (.ref a) >>= _) _ _ s)
    refine wpAny_bind (wpAny_pyNext_genexpQ (A := A.in1) (P := fun _ _ s₁ => AllBare s₁.gens ∧ Fw true s₁) hh hl hd hg hgs hgo (fun v s₁ gs' hb hv => ?_) fun s₁ hp h' hk => ?_)
    · obtain ⟨hb1, b, rfl, hf, ht⟩ := hv
      refine wpAny_bind (wpAny_holding (wpAny_truthy_bool (wpAny_bind (wpAny_letGo ?_))))
      cases b with
      | true => exact False.elim ((ht rfl).2.2 s₁ ⟨rfl, hb1, fun _ _ e => e⟩)
      | false =>
        simp only [if_false, Bool.false_eq_true]
        exact wpAny_bind (wpAny_rule (wpAny_pure (hR false _ (st false s₁ _ ⟨rfl, allBare_setGen hb1 hb, fun _ _ e => e⟩ (hf rfl)))))
    · refine wpAny_bind (wpAny_rule (wpAny_pure (hR true _ (st true s₁ _ ⟨rfl, allBare_setGen hp.1 rfl, hk⟩ hp.2))))
  | succ n ih =>
    intro s hg hl ⟨gs, hgs, hgo⟩
    have hgl : (g < s.gens.size) := (Array.getElem?_eq_some_iff.mp hgs).1
    refine (codeAny_builtin F.entry_all_loop ?_)
    (rw [Around.under_plainId F.plain_all_loop _])
    show (wpAny _ A.in1 (pyNext (.ref a) >>= _) _ _ s)
    refine wpAny_bind (wpAny_gsz (n := g + 1) hgl (wpAny_pyNext_genexpQ (A := A.in1) (P := fun _ _ s₁ => AllBare s₁.gens ∧ Fw true s₁) hh hl hd hg hgs hgo (fun v s₁ gs' hb hv => ?_) fun s₁ hp h' hk => ?_))
    · intro hsz
      obtain ⟨hb1, b, rfl, hf, ht⟩ := hv
      refine wpAny_bind (wpAny_holding (wpAny_truthy_bool (wpAny_bind (wpAny_letGo ?_))))
      have hw : Woke s₁ (s₁.setGen g gs') := ⟨rfl, allBare_setGen hb1 hb, fun _ _ e => e⟩
      cases b with
      | true =>
        simp only [if_true]
        obtain ⟨hl1, hg1, hk⟩ := ht rfl
        have hsz1 : (g < s₁.gens.size) := by
          have q : ((s₁.setGen g gs').gens.size = s₁.gens.size) := setGen_size _ _ _
          omega
        refine wpAny_pure ⟨plainId_quiet F.plain_all_loop _, ih _ hg1 hl1 ⟨gs', setGen_at hsz1, ?_⟩⟩
        exact hk _ ⟨rfl, allBare_setGen (allBare_setGen hb1 hb) rfl, fun _ _ e => e⟩
      | false =>
        simp only [if_false, Bool.false_eq_true]
        exact wpAny_bind (wpAny_rule (wpAny_pure (hR false _ (st false s₁ _ hw (hf rfl)))))
    · intro _
      exact wpAny_bind (wpAny_rule (wpAny_pure (hR true _ (st true s₁ _ ⟨rfl, allBare_setGen hp.1 rfl, hk⟩ hp.2))))
/-- all(g), g a generator that has not begun -/
theorem call_all_own {Q : Value → Shared → Prop} {s : Shared} {c : Code} {n : Nat} (hh : A.handled = none) (hd : A.depth < recursionLimit) (st : ∀ b s s', Woke s s' → Fw b s → Fw b s') (hQ : ∀ b s, Fw b s → Q (.bool b) s)
    (hg : s.heap.IsGen a g) (hl : s.heap.NoLimit) (hgs : s.gens[g]? = some (.fresh c)) (hgo : Seg (model P w) A.in1.in1 (AR Fw) (AY a g Fw) n (s.setGen g .running) c ((model P w).den c) [] (s.setGen g .running)) :
    wpAny (model P w) A (call (.builtin "all") [.ref a]) Q E s := by
  refine (call_function_tree F.kind_all F.plain_all F.entry_all (F.args_all1 _) ?_)
  unfold Builtin.«all»
  refine (wpAny_bind (m := oneArg "all" _) (wpAny_pure ?_))
  refine wpAny_bind (wpAny_pyIter_gen hg ?_)
  exact wpAny_pure ⟨plainId_quiet F.plain_all_loop _, all_walk hh hd st hQ n s hg hl ⟨_, hgs, rfl, hgo⟩⟩
end
end My

set_option maxRecDepth 100000
set_option maxHeartbeats 1800000
/-! GxB: a generator expression's code, turn by turn. -/
namespace My
open PySem PySem.Spec PyProof.Rows L2 GenW
abbrev gxLoop (elt tg iter : Expr) (scope : Scope) (pos : Pos) (it : Addr) (env : Env) : Code := .compLoop (.GeneratorExp elt [⟨tg, iter, [], 0⟩] scope pos) 0 (.ref it) .none env
abbrev gxStart (elt tg iter : Expr) (scope : Scope) (pos : Pos) (it : Addr) (env : Env) : Code := .compStart (.GeneratorExp elt [⟨tg, iter, [], 0⟩] scope pos) 0 (.ref it) .none env
/-- what is wanted at each turn -/
def GxT (J : It) (g : TG) (te : TE) (vs : List Nat) (σ : L2.St) (QF : Bool → Hp → Prop) (W : Nat → Nat → Hp → Prop) : Prop :=
  ∀ i m H, W i m H → (J.stop i H ∧ QF true H) ∨ (J.go i H ∧ ∃ Nx : Hp → Prop, (∀ H', Nx H' → ∃ m', m' < m ∧ W (i + 1) m' H') ∧ ∀ x H', J.yld i H x H' → g x σ H' fun σ2 H2 => wipe σ2 vs = σ ∧ te σ2 H2 fun y H3 => ∃ b : Bool, y = .bl b ∧ (b = true → Nx H3) ∧ (b = false → QF false H3))
section
variable {G : Cx} {A : Around} {a it : Addr} {g : Nat} {Fw : Bool → Shared → Prop} {elt tg iter : Expr} {scope : Scope} {pos : Pos} {fp : List Addr} {tn : Nat → Heap → Prop} {J : It} {gt : TG} {te : TE} {vs : List Nat} {σ0 : L2.St} {QF : Bool → Hp → Prop} {W : Nat → Nat → Hp → Prop}
/-- how such code stands -/
structure GxOk (G : Cx) (A : Around) (a : Addr) (g : Nat) (Fw : Bool → Shared → Prop) (elt tg iter : Expr) (scope : Scope) (pos : Pos) (it : Addr) (fp : List Addr) (tn : Nat → Heap → Prop) (J : It) (gt : TG) (te : TE) (vs : List Nat) (σ0 : L2.St) (QF : Bool → Hp → Prop) (W : Nat → Nat → Hp → Prop) : Prop where
  noX : ∀ e s, ¬ G.xe e s
  calm : G.calm = true
  over : A.over (gxLoop elt tg iter scope pos it G.env) [] = G.A
  co : G.env.scope.isCoroutine = false
  ex : G.ex = fp
  pf : ∀ p ∈ G.pn, p.1 ∉ fp
  T : Turn G.prog G.w G.K tg J fp it tn
  pg : PG G tg gt
  pe : PE G elt te
  gen : ∀ pins σ H s, Inv G pins σ H s → s.heap.IsGen a g
  back : ∀ pins σ H s b, Inv G pins σ H s → QF b H → Fw b s
  wide : ∀ σ2 : L2.St, wipe σ2 vs = σ0 → σ2.length = σ0.length
  turn : GxT J gt te vs σ0 QF W
theorem gx_loop (o : GxOk G A a g Fw elt tg iter scope pos it fp tn J gt te vs σ0 QF W) : ∀ (m n i : Nat) (H' : Hp) (s s₀ : Shared), m < n → Inv G [] σ0 H' s → tn i s.heap → (∀ b ∈ fp, H' b = none) → W i m H' →
    Seg (model G.prog G.w) A (AR Fw) (AY a g Fw) n s₀ (gxLoop elt tg iter scope pos it G.env) ((model G.prog G.w).den (gxLoop elt tg iter scope pos it G.env)) [] s := by
  obtain ⟨noX, calm, over, co, ex, pf, T, pg, pe, gen, back, wide, turn⟩ := o
  have nox : ∀ {α : Type} {t : Sem α} {Q Q' : α → Shared → Prop} {E : Value → Shared → Prop} {s : Shared}, wpAny (model G.prog G.w) G.A t Q G.xe s → (∀ a s, Q a s → Q' a s) → wpAny (model G.prog G.w) G.A t Q' E s :=
    fun h k => wpAny_mono h k fun e s z => absurd z (noX e s)
  have stand : ∀ {σ' : L2.St} {H' : Hp} {s' : Shared}, Inv G [] σ' H' s' → (∀ b ∈ fp, H' b = none) → ∀ b ∈ fp, FpOk G [] H' b := fun {σ' H' s'} I' hn b hb => by
    have hb' : b ∈ G.ex := by rw [ex]; exact hb
    exact ⟨hn b hb, (I'.ok.exf b hb').1, I'.ok.exfs b hb', .inl hb', fun x c e => (I'.ok.exf b hb').2 x c e, fun p hp z => by
      rw [List.append_nil] at hp
      exact pf p hp (z ▸ hb)⟩
  intro m
  induction m using Nat.strongRecOn with -- case by case
  | ind m ih =>
    intro n i H1 s s₀ hmn I1 st1 n1 w1
    show Seg _ A _ _ _ s₀ _ ((compTurn (.GeneratorExp elt [⟨tg, iter, [], 0⟩] scope pos) 0 (.ref it) .none G.env).onRaise (leaving G.env)) [] s
    (rw [compTurn_gen, Sem.onRaise_eq_wrap])
    refine (seg_bind_wrap (wpAny_standAt ?_))
    refine seg_bind_wrap ?_
    rw [over]
    rcases turn i m H1 w1 with ⟨ss, qe⟩ | ⟨gg, Nf, gN, stp⟩
    · refine thnF (T.done G rfl rfl rfl calm i [] s _ H1 (fun _ _ => False) I1 (stand I1 n1) st1 ss) fun r s2 ⟨er, I2⟩ => ?_
      subst er
      exact seg_end (.ok .next) ⟨rfl, I2.bare, back _ _ _ _ _ I2 qe⟩
    · refine thnF (T.item G rfl rfl rfl calm i [] s _ H1 (fun _ _ => False) I1 (stand I1 n1) st1 gg) fun r s2 ⟨u, er, h2⟩ => ?_
      subst er
      refine seg_bind_wrap ?_
      rw [over]
      refine thnF h2 fun _ s3 ⟨x, H3, I3, rx, yx, st3, n3⟩ => ?_
      have I3' := I3.pinned (stand I3 n3) (T.obj _ _ st3)
      refine seg_bind_wrap ?_
      rw [over]
      refine nox (pg.run _ s3 _ H3 x u _ I3' rx (stp x H3 yx)) fun _ s4 ⟨σ4, H4, I4, hw4, q4⟩ => ?_
      refine seg_bind_wrap ?_
      rw [over, List.forIn_nil]
      refine wpAny_pure ?_
      simp only [if_true]
      have hy : ∀ v, yieldOut G.env v = yieldValue v := fun v => by simp only [yieldOut, co, Bool.false_eq_true, if_false]
      simp only [hy]
      (rw [Sem.bind_eq_wrap', Sem.bind_eq_wrap', Sem.wrap_wrap, Sem.wrap_wrap])
      refine seg_wrap ?_
      rw [over]
      refine nox (pe.run _ s4 σ4 H4 _ I4 q4) fun z s5 ⟨y, H5, I5, rz, b, eb, bt, bf⟩ => ?_
      subst eb
      have ez : z = .bool b := rz
      subst ez
      obtain ⟨k, rfl⟩ : ∃ k, n = k + 1 := ⟨n - 1, by omega⟩
      refine seg_at (seg_yield rfl rfl rfl ⟨I5.bare, b, rfl, fun hb => back _ _ _ _ _ I5 (bf hb), fun hb => ⟨I5.nolimit, gen _ _ _ _ I5, fun s6 wk => ?_⟩⟩)
      obtain ⟨m', lm, w'⟩ := gN H5 (bt hb)
      have pin' : ∀ b ∈ fp, ∀ o, s3.heap.get? b = some o → s5.heap.get? b = some o ∧ H5 b = none := fun b hb o e =>
        let z := I5.pin (b, o) (List.mem_append_right _ (List.mem_append_right _ (mem_pinsAt hb e)))
        ⟨z.1, z.2.1⟩
      have J5 : Inv G [] σ0 H5 s5 := (I5.unpinned (pins := [])).weak (wide σ4 hw4).symm fun j v e => by
        rw [← hw4] at e
        exact (wipe_some e).1
      have J6 : Inv G [] σ0 H5 s6 := J5.call' (ch := []) wk.os (Un.kept wk.keep) (J5.hok.kept wk.keep) wk.bare fun _ z => nomatch z
      refine seg_again rfl (ih m' lm k (i + 1) H5 s6 s6 (by omega) J6 (T.keep _ _ _ st3 fun b hb o e => wk.keep b o (pin' b hb o e).1) (fun b hb => ?_) w')
      obtain ⟨o, e, _⟩ := T.obj _ _ st3 b hb
      exact (pin' b hb o e).2
theorem gx_start (o : GxOk G A a g Fw elt tg iter scope pos it fp tn J gt te vs σ0 QF W) {m n : Nat} {H' : Hp} {s s₀ : Shared} (hmn : m < n) (I : Inv G [] σ0 H' s) (st : tn 0 s.heap) (n1 : ∀ b ∈ fp, H' b = none) (w1 : W 0 m H') :
    Seg (model G.prog G.w) A (AR Fw) (AY a g Fw) n s₀ (gxStart elt tg iter scope pos it G.env) ((model G.prog G.w).den (gxStart elt tg iter scope pos it G.env)) [] s := by
  have loop := gx_loop o m n 0 H' s s₀ hmn I st n1 w1
  show Seg _ A _ _ _ s₀ _ ((compStart (.GeneratorExp elt [⟨tg, iter, [], 0⟩] scope pos) 0 (.ref it) .none G.env).onRaise (leaving G.env)) [] s
  unfold compStart
  rw [Sem.onRaise_eq_wrap]
  show (Seg _ A _ _ _ s₀ _ ((ask >>= _).wrap _ _ _ _) [] s)
  refine (seg_bind_wrap (wpAny_askSetting ?_))
  split
  · exact seg_again rfl loop
  · refine seg_bind_wrap (wpAny_rule ?_)
    show Seg _ A _ _ _ s₀ _ ((standAt iter.pos >>= _).wrap _ _ _ _) [] s
    exact seg_bind_wrap (wpAny_standAt (seg_bind_wrap (o.T.self _ 0 s _ _ st (seg_again rfl loop))))
end
end My

set_option maxRecDepth 100000
set_option maxHeartbeats 1800000
/-! GxD: where a generator expression's code begins. -/
namespace My
open PySem PySem.Spec PyProof.Rows L2 GenW
/-- the context of a generator expression's code -/
abbrev GxC (X : Cx) (B : Around) (s : Shared) (H : Hp) (scope : Scope) (cenv : Env) (fp : List Addr) (pn : List (Addr × Obj)) : Cx :=
  { X with A := B, s_0 := s, H_0 := H, env := cenv, outer := X.stack, stack := cenv :: X.stack, ex := fp, fn := fun x => scope.names.lookup x == some .cell, pn := pn, xe := fun _ _ => False }
section
variable {X : Cx} {pins : List (Addr × Obj)} {σ : L2.St} {H : Hp} {s s1 : Shared}
theorem gx_begin {B : Around} {scope : Scope} {own : List (Str × Nat)} {fp : List Addr} {C a bi : Addr} {code : Value} {m : Str → Option Value} {go : Obj} (I : Inv X pins σ H s) (ok : BlkOk X.N X.env.scope scope own) (nc : ∀ y ∈ scope.names, y.2 ≠ .cell) (hN : X.N.Nodup)
    (hfp : ∀ b ∈ fp, FpOk X pins H b ∧ b < s.heap.objs.size) (hA : B.handled = none) (hC : C = s.heap.objs.size) (hbi : bi = builtinsNs) (hf : B.frames = some (genEnv scope (cloFrom X.env.cells scope.names []) C code bi X.env :: X.stack))
    (kp : ∀ b o, s.heap.get? b = some o → s1.heap.get? b = some o) (hos : s1.os = s.os) (hb : AllBare s1.gens) (hn : s1.heap.Ns C m) (ha : s1.heap.get? a = some go) (hgo : ∀ v, go.data ≠ .cell v) (haC : C < a) :
    Inv (GxC X B s H scope (genEnv scope (cloFrom X.env.cells scope.names []) C code bi X.env) fp [(a, go)]) [] (wipe σ (own.map (·.2))) H s1 := by
  have hfree : (∀ y ∈ scope.names, y.2 = .free → ∃ c, X.env.cells.lookup y.1 = some c) := fun y hy e => by
    rcases (ok.free y hy e) with k | k
    · exact I.ok.has _ (.inl k)
    · exact I.ok.has _ (.inr k)
  have cm : (∀ {y c}, (y, c) ∈ cloFrom X.env.cells scope.names [] → X.env.cells.lookup y = some c ∧ c < s.heap.objs.size) := fun {y c} hm => by
    rcases (cloFrom_mem hm) with hm | ⟨h1, rfl⟩
    · cases hm
    · obtain ⟨c, hc⟩ := (hfree _ h1 rfl)
      rw [hc]
      obtain ⟨w, z⟩ := (I.cell _ _ hc)
      exact ⟨rfl, z.lt⟩
  have mem : ∀ {y c}, (cloFrom X.env.cells scope.names []).lookup y = some c → X.env.cells.lookup y = some c ∧ c < s.heap.objs.size := fun {y c} e => cm (PySem.mem_of_lookup e)
  have look : ∀ {y}, scope.names.lookup y = some .free → ∃ c, (cloFrom X.env.cells scope.names []).lookup y = some c ∧ X.env.cells.lookup y = some c := fun {y} hl => by
    obtain ⟨c', e'⟩ := mem_lookup (cloFrom_has (cells := X.env.cells) (acc := []) (PySem.mem_of_lookup hl))
    exact ⟨c', e', (mem e').1⟩
  have noCell : ∀ {y}, scope.names.lookup y ≠ some .cell := fun {y} e => nc _ (PySem.mem_of_lookup e) rfl
  have stkLt : ∀ b ∈ frs X.stack, b < s.heap.objs.size := fun b hb => by
    obtain ⟨_, o, e, _⟩ := I.stack.mem hb
    exact Heap.lt_size e
  have okG : (GxC X B s H scope (genEnv scope (cloFrom X.env.cells scope.names []) C code bi X.env) fp [(a, go)]).Ok := by
    refine ⟨I.ok.mod, ok.kind, I.ok.glob, hbi, Nat.le_of_eq hC.symm, fun y z c e1 e2 => I.ok.inj y z c (mem e1).1 (mem e2).1, fun y hy => ?_, fun y c z e => ?_, fun _ => hA, hf, .inr ⟨rfl, rfl⟩,
      fun b hb => ⟨?_, fun y c e z => ?_⟩, I.bs, Nat.le_trans I.ok.bsz I.sz, fun b o e hb => ?_, fun b hb z => ?_, I.stack, I.stkFree⟩
    · rcases hy with hy | hy
      · exact absurd hy noCell
      · obtain ⟨c, h1, _⟩ := look hy
        exact ⟨c, h1⟩
    · have z : ((scope.names.lookup y == some NameKind.cell) = true) := z
      exact absurd (by simpa using z) (noCell (y := y))
    · show b ≠ C
      rw [hC]; exact Nat.ne_of_lt (hfp b hb).2
    · exact (hfp b hb).1.2.2.2.2.1 y c (mem e).1 z
    · rcases ((hfp b hb).1.2.2.2.1) with z | z
      · exact I.ok.noex b o e z
      · exact (absurd (Nat.lt_of_lt_of_le (Heap.lt_size e) (Nat.le_trans I.ok.bsz z)) (Nat.lt_irrefl _))
    · rcases (List.mem_cons.mp (I.stkSub b z)) with z | z
      · exact (hfp b hb).1.2.1 z
      · exact (hfp b hb).1.2.2.1 z
  refine ⟨okG, hos, hb, Un.kept kp, ⟨m, hn, fun i y av e1 e2 e3 => ?_⟩, fun y c e => ?_, ?_, fun y c e => ?_, fun p hp => ?_, I.hok.kept kp, by rw [wipe_length]; exact I.len⟩
  · obtain ⟨e2, hne⟩ := (wipe_some e2)
    have hfr : scope.names.lookup y = some .free := by
      have e3 : Vis scope y := e3
      rcases e3 with k | k | k
      · rcases ok.own _ (PySem.mem_of_lookup k) (.inl rfl) with e' | e'
        · obtain ⟨p, hp, hpy⟩ := (List.mem_map.mp e')
          have e3 := ok.ix p hp
          have : p.1 = y := hpy
          rw [this] at e3
          exact absurd (List.mem_map.mpr ⟨p, hp, nodup_ix hN e3 e1⟩) hne
        · exact absurd (List.mem_of_getElem? e1) e'
      · exact absurd k noCell
      · exact k
    obtain ⟨m', hn', hl⟩ := I.loc
    have hvis : Vis X.env.scope y := (ok.free _ (PySem.mem_of_lookup hfr) rfl).elim (fun k => .inr (.inl k)) (fun k => .inr (.inr k))
    obtain ⟨w, r, q⟩ := (hl i y av e1 e2 hvis)
    refine ⟨w, r, .inr ⟨.inr hfr, ?_⟩⟩
    obtain ⟨c, h1, h2⟩ := look hfr
    rcases (q) with ⟨k, _⟩ | ⟨_, c', e', z⟩
    · have k : (X.env.scope.names.lookup y = some .local) := k
      rcases ok.free _ (PySem.mem_of_lookup hfr) rfl with k' | k' <;> rw [show X.env.scope.names.lookup y = _ from k'] at k <;> cases k
    · rw [h2] at e'; cases e'
      exact ⟨c, h1, z.keeps kp⟩
  · obtain ⟨w, z⟩ := I.cell y c (mem e).1
    exact ⟨w, z.keeps kp⟩
  · show H C = none
    rw [hC]; exact I.hok.fresh (Nat.le_refl _)
  · exact I.freeC y c (mem e).1
  · obtain rfl := List.mem_singleton.mp (show p ∈ [(a, go)] from by simpa using hp)
    refine ⟨ha, I.hok.fresh (Nat.le_of_lt (by rw [← hC]; exact haC)), Nat.ne_of_gt haC, fun hm => ?_, hgo⟩
    have := stkLt a hm
    rw [← hC] at this
    exact absurd (Nat.lt_trans haC this) (Nat.lt_irrefl _)
end
end My

set_option maxRecDepth 100000
set_option maxHeartbeats 1800000
/-! GxE: all(elt for tg in iter), the element any expression that raises nothing: the rule. -/
namespace My
open PySem PySem.Spec PyProof.Rows L2 GenW GxR
/-- the generator expression's own scope -/
structure GxS (scope : Scope) : Prop where
  co : (scope.isCoroutine = false)
  nc : ∀ y ∈ scope.names, y.2 ≠ .cell
  dot : (scope.names.lookup (".0" : Str) = some NameKind.local)
/-- all(..): the def's table may have grown ahead of the first turn -/
def tAllX (P : Addr) (wi : TI) (g : TG) (te : TE) (vs : List Nat) : TE := fun σ H Q => wi σ H fun J H1 => TabG H1 P ∧ ∀ H2, Tabbed P H1 H2 → ∃ W : Nat → Nat → Hp → Prop, (∃ m, W 0 m H2) ∧ GxT J g te vs (wipe σ vs) (fun b H3 => Q (.bl b) H3) W
/-- the around of such code is a deeper one -/
theorem gx_over {A : Around} {elt tg iter : Expr} {scope : Scope} {pos : Pos} {it : Addr} {env : Env} : A.over (gxLoop elt tg iter scope pos it env) [] = A.deeper env := by
  obtain ⟨hd, d, fr, gs, u⟩ := (A)
  cases fr <;> cases gs <;> simp [Around.over, Around.deeper, marksOver, frameCount, unitsOf, envsOf, guardsOf, pushEnvs, pushGuards, Code.envs, Code.env?, Code.isFrame, Code.guards, Code.isGuard, Code.weight, Code.frames, Code.isCreation, Code.isCaller, Code.cUnits]
theorem in2_room {k : Nat} {A : Around} (r : Room (k + 1) A) (env : Env) : Room k (A.in1.in1.deeper env) :=
  ⟨r.hd, by have := r.dp; show A.depth + 1 + 3 * k + 5 < _; omega, by have := r.un; show A.units + 1 + 1 + 3 + 16 * k + 200 < _; omega⟩
theorem in2_frames {A : Around} {env : Env} {l : List Env} (h : A.frames = some l) : (A.in1.in1.deeper env).frames = some (env :: l) := Around.frames_deeper (A := A.in1.in1) h
section
variable {X : Cx} {k : Nat} {c P : Addr} {elt tg iter : Expr} {p pos gpos : Pos} {scope : Scope} {own : List (Str × Nat)} {wi : TI} {g : TG} {te : TE}
theorem pe_allX (hr : Room (k + 1) X.A) (hc : X.calm = true) (hN : X.N.Nodup) (hg : Gl X "all") (hm : X.mg "all" = none) (hb : bootBuiltins "all" = some (.builtin "all")) (TB : TabB X.base X.mg c P) (hcode : X.env.code = .ref c) (S : GxS scope) (ok : BlkOk X.N X.env.scope scope own) (hi : PI X tg iter wi)
    (hpg : ∀ (B : Around) (s : Shared) (H : Hp) (C : Addr) (cd : Value) (fp : List Addr) (pn : List (Addr × Obj)), Room k B → PG (GxC X B s H scope (genEnv scope (cloFrom X.env.cells scope.names []) C cd builtinsNs X.env) fp pn) tg g)
    (hpe : ∀ (B : Around) (s : Shared) (H : Hp) (C : Addr) (cd : Value) (fp : List Addr) (pn : List (Addr × Obj)), Room k B → PE (GxC X B s H scope (genEnv scope (cloFrom X.env.cells scope.names []) C cd builtinsNs X.env) fp pn) elt te)
    (hs : ∀ u, genFold iter X.env u = pure u)
    (he : starEach [.GeneratorExp elt [⟨tg, iter, [], 0⟩] scope gpos] X.env = (false, eval (.GeneratorExp elt [⟨tg, iter, [], 0⟩] scope gpos) X.env) :: starEach [] X.env := by rfl) :
    PE X (.Call (.Name "all" p) [.GeneratorExp elt [⟨tg, iter, [], 0⟩] scope gpos] [] pos) (tAllX P wi g te (own.map (·.2))) := by
  refine (⟨fun pins s σ H Q I h => ?_⟩)
  refine (wpAny_Call_Name_kw (ld_blt I hg hm hb ?_))
  refine (PyProof.Rows.callWith_builtin1 ?_ he (by rfl))
  rw [he]
  show wpAny _ _ (spliced ((false, eval (.GeneratorExp elt [⟨tg, iter, [], 0⟩] scope gpos) X.env) :: backTo pos (starEach [] X.env))) _ _ s
  have hfree : (∀ y ∈ scope.names, y.2 = .free → ∃ c, X.env.cells.lookup y.1 = some c) := fun y hy e => by
    rcases (ok.free y hy e) with k | k
    · exact I.ok.has _ (.inl k)
    · exact I.ok.has _ (.inr k)
  refine Calls.spliced_cons (wpAny_GeneratorExp_make S.co (closure_ok hfree) S.nc S.dot ok.kind (by have := hr.dp; omega) ?_ hs)
  refine thn (hi.run pins s σ H _ I h) fun xv s1 h1 => thn h1 fun itv s2 h2 => ?_
  obtain ⟨it, fp, tn, J, H2, rfl, I2, T, st2, f2, ⟨ps, hP, ht⟩, q⟩ := h2
  have hPs : s2.heap.get? P = some { cls := .none, data := .fields ps } := I2.hok P _ hP
  have cd : PySem.W.CodeHd s2.heap c P := TB.code.keeps I2.bk
  refine ⟨I2.nolimit, ?_⟩
  have cont : ∀ (code : Value) (h3 : Heap) (tk : Nat) (ps' : Array Value), Heap.ExtBut P s2.heap h3 → s2.heap.objs.size ≤ h3.objs.size → h3.get? P = some { cls := .none, data := .fields ps' } → (∃ more, ps' = ps ++ more) → TriplesOk ps'.toList →
      wpAny (model X.prog X.w) X.A (builtinsFor X.env.globals X.env.builtins) (fun bi s4 => ∀ h', h'.Ns s4.heap.objs.size (fun y => if y = ".0" then some (.ref it) else none) → Heap.SameBut s4.heap.objs.size (s4.heap.push { cls := .type "frame", data := .dict #[] }) h' →
        wpAny (model X.prog X.w) X.A (spliced (backTo pos (starEach [] X.env))) (fun us s6 => wpAny (model X.prog X.w) X.A (call (.builtin "all") (Value.ref h'.objs.size :: us)) (EP X pins σ Q) X.xe s6) X.xe { s4 with
          gens := s4.gens.push (.fresh (gxStart elt tg iter scope gpos it (genEnv scope (cloFrom X.env.cells scope.names []) s4.heap.objs.size code bi X.env)))
          toks := s4.toks + 1 + 1 + 1
          heap := h'.push { cls := .type "generator", data := .fields #[.int s4.gens.size 0, .str "<genexpr>" (s4.toks + 1), .str (X.env.qual ++ "<genexpr>") (s4.toks + 1 + 1)] } }) X.xe { s2 with heap := h3, toks := tk } := by
    intro code h3 tk ps'; intro hx hsz hP3 hmore ht3
    obtain ⟨bm, ob, e1, e2, e3, e4, e5, e6, e7, e8⟩ := (TB.bm)
    obtain ⟨more, rfl⟩ := hmore
    have keep3 : ∀ b u, b ≠ P → s2.heap.get? b = some u → h3.get? b = some u := fun b u hb e => hx b u hb e
    have I3 : Inv X pins σ (upd H2 P (.tbl (ps ++ more))) { s2 with heap := h3, toks := tk } := inv_tab (more := more) (h' := h3) (g' := s2.gens) (d' := s2.drawn) (t' := tk) I2 hP keep3 hP3 I2.bare
    have hT : Tabbed P H2 (upd H2 P (.tbl (ps ++ more))) := ⟨⟨ps ++ more, upd_same, ht3⟩, fun b hb => upd_ne hb⟩
    have nP : ∀ b ∈ fp, b ≠ P := fun b hb z => by
      have := (f2 b hb).1
      rw [z, hP] at this; cases this
    have sz : ∀ b ∈ fp, b < h3.objs.size := fun b hb => by
      obtain ⟨o, e, _⟩ := (T.obj _ _ st2 b hb)
      exact Nat.lt_of_lt_of_le (Heap.lt_size e) hsz
    have f3 : ∀ b ∈ fp, FpOk X pins (upd H2 P (.tbl (ps ++ more))) b ∧ b < h3.objs.size := fun b hb =>
      ⟨⟨by rw [upd_ne (nP b hb)]; exact (f2 b hb).1, (f2 b hb).2⟩, sz b hb⟩
    have st3 : tn 0 h3 := T.keep _ _ _ st2 fun b hb o e => keep3 b o (nP b hb) e
    refine wpAny_builtinsFor (m := X.mg) (by rw [I.ok.glob]; exact (I.mod.glob.keeps I2.bk).extBut hx TB.gP) e1 e2 (keep3 _ _ e4 (I2.bk _ _ e5)) e6 e7 e8 ?_
    intro h' hn' hs'
    obtain ⟨W, ⟨m0, w0⟩, turn⟩ := q _ hT
    generalize upd H2 P (.tbl (ps ++ more)) = H4 at I3 f3 w0 turn
    generalize es4 : ({ s2 with heap := h3, toks := tk } : Shared) = s4 at I3 hn' hs' ⊢
    have eh : s4.heap = h3 := by rw [← es4]
    rw [← eh] at f3 st3
    have hsz' : h'.objs.size = s4.heap.objs.size + 1 := by rw [hs'.1, Heap.size_push]
    have kp' : ∀ b o, s4.heap.get? b = some o → h'.get? b = some o := fun b o e => hs'.extBut b o (Nat.ne_of_lt (Heap.lt_size e)) (Heap.get?_push_of_some _ e)
    refine Calls.spliced_nil ?_
    obtain ⟨go, ego⟩ : ∃ go : Obj, go = { cls := .type "generator", data := .fields #[.int s4.gens.size 0, .str "<genexpr>" (s4.toks + 1), .str (X.env.qual ++ "<genexpr>") (s4.toks + 1 + 1)] } := ⟨_, rfl⟩
    rw [← ego]
    have hga : (h'.push go).get? h'.objs.size = some go := by rw [ego]; exact Heap.get?_push_size _ rfl
    have hgen : ∀ h : Heap, h.get? h'.objs.size = some go → h.IsGen h'.objs.size s4.gens.size := fun h e => ⟨go, _, _, e, by rw [ego], by rw [ego], by rw [ego]⟩
    have hgd : ∀ v, go.data ≠ .cell v := fun v => by rw [ego]; exact fun e => by cases e
    have kp5 : ∀ b o, s4.heap.get? b = some o → (h'.push go).get? b = some o := fun b o e => Heap.get?_push_of_some _ (kp' b o e)
    have hbg : AllBare (s4.gens.push (.fresh (gxStart elt tg iter scope gpos it (genEnv scope (cloFrom X.env.cells scope.names []) s4.heap.objs.size code builtinsNs X.env)))) := AllBare.push I3.bare rfl
    have st : ∀ (b : Bool) (s s' : Shared), Woke s s' → (∃ H', Inv X pins σ H' s ∧ Q (.bl b) H') → ∃ H', Inv X pins σ H' s' ∧ Q (.bl b) H' := fun b s s' wk ⟨H', J', q'⟩ =>
      ⟨H', J'.call' (ch := []) wk.os (Un.kept wk.keep) (J'.hok.kept wk.keep) wk.bare fun _ z => (nomatch z), q'⟩
    refine call_all_own (a := h'.objs.size) (g := s4.gens.size) (n := m0 + 1) (Fw := fun b s' => ∃ H', Inv X pins σ H' s' ∧ Q (.bl b) H') hr.hd (by have := hr.dp; omega) st (fun b s' ⟨H', J', q'⟩ => ⟨.bl b, H', J', rfl, q'⟩)
      (hgen _ hga) (I3.nolimit.keeps kp5) (Array.getElem?_push_size ..) ?_
    obtain ⟨ce, ece⟩ : ∃ ce, ce = genEnv scope (cloFrom X.env.cells scope.names []) s4.heap.objs.size code builtinsNs X.env := ⟨_, rfl⟩
    have IG := gx_begin (B := X.A.in1.in1.deeper ce) (C := s4.heap.objs.size) (a := h'.objs.size) (bi := builtinsNs) (code := code) (go := go) (s1 := ({ s4 with gens := s4.gens.push (.fresh (gxStart elt tg iter scope gpos it (genEnv scope (cloFrom X.env.cells scope.names []) s4.heap.objs.size code builtinsNs X.env))), toks := s4.toks + 1 + 1 + 1, heap := h'.push go } : Shared).setGen s4.gens.size .running)
      I3 ok S.nc hN f3 hr.hd rfl rfl (by rw [← ece]; exact in2_frames I3.ok.frames) kp5 rfl (allBare_setGen (s := { s4 with gens := _, toks := _, heap := _ }) hbg rfl) (hn'.push _) hga hgd (Nat.lt_of_lt_of_eq (Nat.lt_succ_self _) hsz'.symm)
    have pgG := hpg (X.A.in1.in1.deeper ce) s4 H4 s4.heap.objs.size code fp [(h'.objs.size, go)] (in2_room hr ce)
    have peG := hpe (X.A.in1.in1.deeper ce) s4 H4 s4.heap.objs.size code fp [(h'.objs.size, go)] (in2_room hr ce)
    rw [← ece] at IG pgG peG ⊢
    have cL : ce.locals = s4.heap.objs.size := by rw [ece]; rfl
    have cS : ce.scope = scope := by rw [ece]; rfl
    have wide : ∀ σ2 : L2.St, wipe σ2 (own.map (·.2)) = wipe σ (own.map (·.2)) → σ2.length = (wipe σ (own.map (·.2))).length := fun σ2 e => by
      have := congrArg List.length e
      rw [wipe_length, wipe_length] at this
      rw [wipe_length]
      exact this
    have bck : ∀ (pins' : List (Addr × Obj)) (σ' : L2.St) (H' : Hp) (s' : Shared) (b : Bool), Inv (GxC X (X.A.in1.in1.deeper ce) s4 H4 scope ce fp [(h'.objs.size, go)]) pins' σ' H' s' → Q (.bl b) H' → ∃ H', Inv X pins σ H' s' ∧ Q (.bl b) H' := fun pins' σ' H' s' b I' q' =>
      ⟨H', I3.call' (ch := fp) I'.os I'.base I'.hok I'.bare fun b hb => ⟨(f3 b hb).1.2.2.2.1, (f3 b hb).1.2.1, (f3 b hb).1.2.2.2.2.1, (f3 b hb).1.2.2.2.2.2⟩, q'⟩
    refine gx_start (G := GxC X (X.A.in1.in1.deeper ce) s4 H4 scope ce fp [(h'.objs.size, go)]) ⟨fun _ _ z => z, hc, gx_over, by show ce.scope.isCoroutine = false; rw [cS]; exact S.co, rfl, fun pp hp hm => ?_, T, pgG, peG,
      fun pins' σ' H' s' I' => hgen _ (I'.pin (h'.objs.size, go) (List.mem_append_left _ (List.mem_singleton.mpr rfl))).1, bck, wide, turn⟩ (Nat.lt_succ_self m0) IG (T.keep _ _ _ st3 fun b _ o e => kp5 b o e) (fun b hb => (f3 b hb).1.1) w0
    obtain rfl := (List.mem_singleton.mp hp)
    have h9 : h'.objs.size < s4.heap.objs.size := (f3 _ hm).2
    rw [hsz'] at h9
    exact absurd h9 (Nat.not_lt.mpr (Nat.le_succ _))
  cases hf : codeAmong gpos ps.toList with -- case by case
  | none =>
    refine wpAny_genexprCodeX hcode (cd.code hPs ht) (cd.tab hPs) hf fun c' h' tk hx hge hlt hco' _ htab' _ => ?_
    obtain ⟨o1, vs, f1, tf, fl, tg', inF, tx, tt, op, _, _, _, _, _, _, _, _, _, htr, _⟩ := hco'
    exact (cont _ h' tk _ hx (Nat.le_trans hge (Nat.le_of_lt hlt)) htab'.2 ⟨_, rfl⟩ htr)
  | some cv =>
    refine wpAny_genexprCode_hit hcode (cd.code hPs ht) hf ?_
    exact cont cv s2.heap s2.toks ps (Heap.ExtBut.refl _ _) (Nat.le_refl _) hPs ⟨#[], by simp⟩ ht
end
end My

set_option maxRecDepth 100000
set_option maxHeartbeats 1600000
/-! ZipM: zip of a list and a tuple. -/
namespace My
open PySem PySem.Spec PyProof.Rows L2 RZ
/-- the list at a and the tuple at b as they stand at each turn -/
def ItzM (K : PySem.W.Frag) (a b : Addr) : It where
  go i H := ∃ (xs ys : List V) (x y : V), SqL K H a xs ∧ SqT K H b ys ∧ xs[i]? = some x ∧ ys[i]? = some y
  yld i H v H' := ∃ T x y, v = .ref T ∧ H T = none ∧ H' = upd H T (.tup [x, y]) ∧ (∀ xs, SqL K H a xs → xs[i]? = some x) ∧ ∀ ys, SqT K H b ys → ys[i]? = some y
  stop i H := ∃ xs ys : List V, SqL K H a xs ∧ SqT K H b ys ∧ xs.length = i ∧ ys.length = i
theorem sep_of {z TI TO i1 i2 a b : Addr} (D : ZipApart z TI TO i1 i2 a b) : ZipSep2 z TI TO i1 i2 [i1, a] [i2, b] where
  TIz := D.TIz
  TOz := D.TOz
  TITO := D.TITO
  TIi1 := D.TIi1
  mem1 := by simp
  zf1 := by simp [D.i1z.symm, D.l1z.symm]
  Tf1 := by simp [D.TOi1, D.l1TO.symm]
  TIi2 := D.TIi2
  mem2 := by simp
  zf2 := by simp [D.i2z.symm, D.l2z.symm]
  Tf2 := by simp [D.TOi2, D.l2TO.symm]
  sep1_2 := by simp [D.i12, D.l2i1.symm]
  sep2_1 := by simp [D.i12.symm, D.l1i2.symm]
theorem turn_zipM {P : Program} {w : World} {K : PySem.W.Frag} {elts : List Expr} {kk : Nat} {tpos : Pos} {a b z TI TO i1 i2 : Addr} (D : ZipApart z TI TO i1 i2 a b) :
    Turn P w K (.Tuple elts kk tpos) (ItzM K a b) [z, TI, TO, i1, i2] z (fun i h => IsZip h z TI TO .none ∧ IsPair h TI (.ref i1) (.ref i2) ∧ (∃ x y, IsPair h TO x y) ∧ h.IsListIter i1 a i ∧ h.IsTupleIter i2 b i) where
  mem := by simp
  obj := fun i h st c hc => by
    obtain ⟨hz, hTI, ⟨x, y, hTO⟩, ⟨o1, e1, _, d1⟩, ⟨o2, e2, _, d2⟩⟩ := (st)
    have cs : c = z ∨ c = TI ∨ c = TO ∨ c = i1 ∨ c = i2 := by simpa using hc
    rcases cs with rfl | rfl | rfl | rfl | rfl
    · exact ⟨_, hz, nofun⟩
    · exact ⟨_, hTI, nofun⟩
    · exact ⟨_, hTO, nofun⟩
    · exact ⟨o1, e1, fun v q => by rw [d1] at q; cases q⟩
    · exact ⟨o2, e2, fun v q => by rw [d2] at q; cases q⟩
  keep := fun i h h' st k => by
    obtain ⟨hz, hTI, ⟨x, y, hTO⟩, h1, h2⟩ := (st)
    exact ⟨k z (by simp) _ hz, k TI (by simp) _ hTI, ⟨x, y, k TO (by simp) _ hTO⟩, h1.at fun o => k i1 (by simp) o, h2.at fun o => k i2 (by simp) o⟩
  item := by
    intro X hP hw hK; intro hc i pins s σ H E I hf st hg
    subst hP hw hK
    obtain ⟨hz, hTI, ⟨x0, y0, hTO⟩, h1, h2⟩ := (st)
    obtain ⟨xs, ys, x, y, hqx, hqy, hx, hy⟩ := (hg)
    obtain ⟨its, rv, p, _⟩ := (I.list hqx)
    obtain ⟨its2, rv2, p2, _⟩ := (I.tuple hqy)
    obtain ⟨u, hu, ru⟩ := (rv.get hx)
    obtain ⟨u2, hu2, ru2⟩ := (rv2.get hy)
    have zlt : z < s.heap.objs.size := Heap.lt_size hz
    have hh : X.A.in1.handled = none := I.ok.hd hc
    have lt1 : i < its.toArray.size := by rw [List.size_toArray]; exact (List.getElem?_eq_some_iff.mp hu).1
    have lt2 : i < its2.toArray.size := by rw [List.size_toArray]; exact (List.getElem?_eq_some_iff.mp hu2).1
    refine wpAny_pyNext_zipD2_item (i := i) (sep_of D) (Draws.list hh i1 a D.l1i1 its.toArray) (Draws.tuple hh i2 b D.l2i2 its2.toArray) hz hTI hTO ⟨h1, p.isList⟩ ⟨h2, p2⟩ lt1 lt2 fun v1 v2 h' tk e1 e2 z' TO' s1 s2 hT hsz hk => ?_
    obtain rfl : u = v1 := by
      have e1 : its.toArray[i]? = some v1 := e1
      rw [List.getElem?_toArray, hu] at e1
      exact Option.some.inj e1
    obtain rfl : u2 = v2 := by
      have e2 : its2.toArray[i]? = some v2 := e2
      rw [List.getElem?_toArray, hu2] at e2
      exact Option.some.inj e2
    refine ⟨_, rfl, wpAny_letOwnedTupleGo_zip (s := { s with heap := h', toks := tk }) z' fun h'' z'' sb => ?_⟩
    have hT2 : h''.get? s.heap.objs.size = some { cls := .type "tuple", data := .seq #[u, u2] } := (sb.2 _ (Nat.ne_of_gt zlt)).trans hT
    have up : ∀ c o, c ∉ [z, TI, TO, i1, i2] → s.heap.get? c = some o → h''.get? c = some o := fun c o hb q => by
      simp only [List.mem_cons, List.not_mem_nil, or_false, not_or] at hb
      exact (sb.2 c hb.1).trans (hk c o hb.1 hb.2.2.1 hb.2.2.2.1 hb.2.2.2.2 q)
    have I1 : Inv X pins σ (upd H s.heap.objs.size (.tup [x, y])) { s with heap := h'', toks := tk } :=
      I.turnedNew (t' := tk) (ch := [z, TI, TO, i1, i2]) up hf (Nat.le_refl _) ⟨by show 2 ≤ sizeLine; decide, [u, u2], .cons ru (.cons ru2 .nil), ⟨_, hT2, rfl, _, rfl⟩⟩
    refine ⟨.ref s.heap.objs.size, _, I1, rfl, ⟨_, x, y, rfl, I.hok.fresh (Nat.le_refl _), rfl, fun l hl => by rw [I.list_inj hl hqx]; exact hx, fun l hl => by rw [I.tuple_inj hl hqy]; exact hy⟩,
      ⟨z'', (sb.2 _ D.TIz).trans (hk _ _ D.TIz D.TITO D.TIi1 D.TIi2 hTI), ⟨u, u2, (sb.2 _ D.TOz).trans TO'⟩, s1.1.at fun o q => (sb.2 _ D.i1z).trans q, s2.1.at fun o q => (sb.2 _ D.i2z).trans q⟩, fun c hcm => ?_⟩
    have hlt : c < s.heap.objs.size := by
      have cs : c = z ∨ c = TI ∨ c = TO ∨ c = i1 ∨ c = i2 := by simpa using hcm
      rcases cs with rfl | rfl | rfl | rfl | rfl
      · exact zlt
      · exact Heap.lt_size hTI
      · exact Heap.lt_size hTO
      · obtain ⟨_, q, _⟩ := h1; exact Heap.lt_size q
      · obtain ⟨_, q, _⟩ := h2; exact Heap.lt_size q
    (rw [upd_ne (Nat.ne_of_lt hlt)])
    exact (hf c hcm).1
  done := by
    intro X hP hw hK; intro hc i pins s σ H E I hf st hg
    subst hP hw hK
    obtain ⟨hz, hTI, ⟨x0, y0, hTO⟩, h1, h2⟩ := (st)
    obtain ⟨xs, ys, hqx, hqy, l1, l2⟩ := hg
    obtain ⟨its, rv, p, _⟩ := (I.list hqx)
    obtain ⟨its2, rv2, p2, _⟩ := (I.tuple hqy)
    have hh : X.A.in1.handled = none := I.ok.hd hc
    have q1 : its.toArray.size = i := by rw [List.size_toArray, ← rv.length]; exact l1
    have q2 : its2.toArray.size = i := by rw [List.size_toArray, ← rv2.length]; exact l2
    refine wpAny_pyNext_zipD2_end (i := i) (sep_of D) (Draws.list hh i1 a D.l1i1 its.toArray) (Draws.tuple hh i2 b D.l2i2 its2.toArray) hz hTI hTO ⟨h1, p.isList⟩ ⟨h2, p2⟩ (Nat.le_of_eq q1.symm) (Nat.le_of_eq q2.symm) (.inl q1.symm) fun h' tk hk => ⟨rfl, ?_⟩
    refine I.turnedL (t' := tk) (ch := [z, TI, TO, i1, i2]) (fun c o hb q => ?_) hf
    simp only [List.mem_cons, List.not_mem_nil, or_false, not_or] at hb
    exact hk c o hb.1 hb.2.2.1 hb.2.2.2.1 hb.2.2.2.2 q
  self := fun A i s Q E st h => (wpAny_pyIter_zip st.1 h)
/-- zip of two lists or of a list and a tuple -/
def iZipM (K : PySem.W.Frag) (ta : TA) : TI := fun σ H R => ta σ H fun vs H1 => ∃ a b xs ys, vs = [.ref a, .ref b] ∧ SqL K H1 a xs ∧ ((SqT K H1 b ys ∧ R (ItzM K a b) H1) ∨ (SqL K H1 b ys ∧ R (Itz K a b) H1))
theorem pi_zipM {X : Cx} {e e2 : Expr} {ta : TA} {p pos tpos : Pos} {elts : List Expr} {kk : Nat} (hg : Gl X "zip") (hm : X.mg "zip" = none) (ha : PA X [e, e2] ta)
    (hs : (starEach [e, e2] X.env = (false, eval e X.env) :: starEach [e2] X.env) := by rfl) (hpl : (backTo pos (starEach [e2] X.env)).any (·.1) = false := by rfl) :
    PI X (.Tuple elts kk tpos) (.Call (.Name "zip" p) [e, e2] [] pos) (iZipM X.K ta) := by
  refine (⟨fun pins s σ H R I h => ?_⟩)
  refine (Call_ (ld_blt I hg hm PyProof.Rows.boot_zip (PyProof.Rows.callWith_type1 (thn (ha.run pos pins s σ H _ I h) fun us s1 ⟨vs, H1, I1, r1, q1⟩ => ?_) hs hpl)))
  obtain ⟨a, b, xs, ys, rfl, hqx, q⟩ := q1
  cases r1 with
  | cons r rr =>
    cases rr with
    | cons r' rr =>
      cases rr
      cases r
      cases r'
      have fresh5 : (∀ c, c ∈ [s1.heap.objs.size + 4, s1.heap.objs.size + 2, s1.heap.objs.size + 3, s1.heap.objs.size, s1.heap.objs.size + 1] → FpOk X pins H1 c) := fun c hcm => by
        have hle : (s1.heap.objs.size ≤ c) := by
          have cs : c = s1.heap.objs.size + 4 ∨ c = s1.heap.objs.size + 2 ∨ c = s1.heap.objs.size + 3 ∨ c = s1.heap.objs.size ∨ c = s1.heap.objs.size + 1 := by simpa using hcm
          rcases cs with rfl | rfl | rfl | rfl | rfl <;> first | exact Nat.le_add_right _ _ | exact Nat.le_refl _
        exact (I1.fpOk hle (I1.hok.fresh hle))
      obtain ⟨its, rv, p1, _⟩ := (I1.list hqx)
      rcases q with ⟨hqy, q⟩ | ⟨hqy, q⟩
      rotate_left
      · obtain ⟨its2, rv2, p2, _⟩ := I1.list hqy
        refine zip_begins2 (begins_list a its.toArray) (begins_list b its2.toArray) p1.isList p2.isList fun h' hz hTI hTO e1 e2 hsz hk => wpAny_pyIter_zip hz ?_
        exact ⟨s1.heap.objs.size + 4, [s1.heap.objs.size + 4, s1.heap.objs.size + 2, s1.heap.objs.size + 3, s1.heap.objs.size, s1.heap.objs.size + 1], _, _, H1, rfl, I1.kept (t' := s1.toks) hk,
          turn_zip (PySem.W.ktu_apart s1.heap.objs.size a b p1.lt p2.lt), ⟨hz, hTI, ⟨_, _, hTO⟩, ⟨_, e1, rfl, rfl⟩, ⟨_, e2, rfl, rfl⟩⟩, fresh5, q⟩
      obtain ⟨its2, rv2, p2, _⟩ := (I1.tuple hqy)
      obtain ⟨o2, ho2, _⟩ := id p2
      refine zip_begins2 (begins_list a its.toArray) (begins_tuple b its2.toArray) p1.isList p2 fun h' hz hTI hTO e1 e2 hsz hk => wpAny_pyIter_zip hz ?_
      exact ⟨s1.heap.objs.size + 4, [s1.heap.objs.size + 4, s1.heap.objs.size + 2, s1.heap.objs.size + 3, s1.heap.objs.size, s1.heap.objs.size + 1], _, _, H1, rfl, I1.kept (t' := s1.toks) hk,
        turn_zipM (PySem.W.ktu_apart s1.heap.objs.size a b p1.lt (Heap.lt_size ho2)), ⟨hz, hTI, ⟨_, _, hTO⟩, ⟨_, e1, rfl, rfl⟩, ⟨_, e2, rfl, rfl⟩⟩, fresh5, q⟩
end My

set_option maxRecDepth 100000
set_option maxHeartbeats 1000000
/-! list(a text) -/
namespace My
open PySem PySem.Spec PyProof.Rows L2
theorem vals_of : ∀ {xs : List V} {us : List Value}, xs.length = us.length → (∀ (j : Nat) (x : V) (u : Value), xs[j]? = some x → us[j]? = some u → RelV x u) → Vals xs us
  | [], [], _, _ => .nil
  | x :: xs, u :: us, h, k => .cons (k 0 x u rfl rfl) (vals_of (by simpa using h) fun j y v a b => k (j + 1) y v (by simpa using a) (by simpa using b))
def signsV (z : Str) : List V := z.cps.toList.map fun c => V.str ⟨#[c]⟩
def rListT : List V → Hp → VK → Prop := fun xs H Q => ∃ z, xs = [.str z] ∧ z.length ≤ sizeLine ∧ ∀ l, H l = none → Q (.ref l) (upd H l (.lst (signsV z)))
theorem call_list_text {X : Cx} (hc : X.calm = true) : CallR X (.type "list") rListT := by
  intro pins s σ H xs us Q I r h
  obtain ⟨z, rfl, hz, q⟩ := h
  obtain ⟨u, rfl, rx⟩ := vals1 r
  obtain ⟨t, rfl⟩ := rx
  refine call_list_str (I.ok.hd hc) z t (hn := hz) fun h' tk acc' c' hk hS' hacc => ?_
  have hl : (signsV z).length = acc'.toList.length := by
    have := hacc.1
    simp [signsV, this]
  have hv : Vals (signsV z) acc'.toList := vals_of hl fun j x v a b => by
    obtain ⟨c, w, hc2, rfl⟩ := hacc.2 j v (by simpa using b)
    unfold signsV at a
    rw [List.getElem?_map] at a
    have e : z.cps.toList[j]? = some c := by simpa using hc2
    rw [e] at a
    obtain rfl := Option.some.inj a
    exact ⟨_, rfl⟩
  refine ⟨.ref s.heap.objs.size, _, I.laid (t' := tk) hk (Nat.le_refl _) (show ObjOk X.prog X.w _ h' _ (.lst (signsV z)) from ⟨?_, acc'.toList, c', hv, by simpa using hS'⟩), rfl, q _ (I.hok.fresh (Nat.le_refl _))⟩
  simpa [signsV, Str.length] using hz
end My

set_option maxRecDepth 100000
set_option maxHeartbeats 400000
/-! small data: what repr asks of them -/
namespace My
open PySem PySem.Spec PyProof.Rows L2 GxR Gd TL
structure Sm (d : PyData) (k m : Nat) : Prop where
  lay : d.canLay0 = true
  dep : d.depth ≤ k
  wt : d.weight ≤ m
  ish : d.intsShort 13 = true
  sh : d.showable = true
theorem Sm.rep {d : PyData} {k m : Nat} (h : Sm d k m) (hk : k ≤ 64) (hm : m ≤ 2 ^ 20) : d.showable = true ∧ d.depth ≤ 100 ∧ d.shown.length ≤ sizeLine := by
  refine ⟨h.sh, Nat.le_trans h.dep (by omega), Nat.le_trans (shown_le13 ?_ h.ish) (by rw [sizeLine_eq]; decide)⟩
  unfold PyData.layable0
  rw [Bool.and_eq_true, Bool.and_eq_true, decide_eq_true_eq, decide_eq_true_eq]
  exact ⟨⟨h.lay, Nat.le_trans h.dep hk⟩, Nat.le_trans h.wt hm⟩
theorem Sm.mono {d : PyData} {k m k' m' : Nat} (h : Sm d k m) (hk : k ≤ k') (hm : m ≤ m') : Sm d k' m' := ⟨h.lay, Nat.le_trans h.dep hk, Nat.le_trans h.wt hm, h.ish, h.sh⟩
theorem sm_none : Sm .none 0 0 := ⟨rfl, Nat.le_refl 0, Nat.le_refl 0, rfl, rfl⟩
theorem sm_bool (b : Bool) : Sm (.bool b) 0 0 := ⟨rfl, Nat.le_refl 0, Nat.le_refl 0, rfl, rfl⟩
theorem sm_int {i : Int} (h : i.natAbs ≤ 1000) : Sm (.int i) 0 20 := by
  have hl : i.natAbs.log2 ≤ 10 := by
    by_cases z : i.natAbs = 0
    · rw [z]; decide
    · have : i.natAbs.log2 < 11 := (Nat.log2_lt z).mpr (by omega)
      omega
  refine ⟨rfl, Nat.le_refl 0, ?_, ?_, ?_⟩
  · unfold PyData.weight
    split
    · omega
    · omega
  · exact intsShort_of_noneOrIn (lo := -2000) (hi := 2000) (by decide) (by decide) (.int i) (by simp [noneOrIn]; omega)
  · unfold PyData.showable
    rw [decide_eq_true_eq]
    omega
theorem sm_str {z : Str} (g : Good z) (h : z.length ≤ 6) : Sm (.str z) 0 6 := by
  refine ⟨?_, Nat.le_refl 0, h, rfl, rfl⟩
  unfold PyData.canLay0
  unfold PyData.strOk
  rw [Array.all_eq_true_iff_forall_mem]
  intro c hc
  exact decide_eq_true (g c (Array.mem_toList_iff.mpr hc))
theorem sm_all {k m : Nat} : ∀ {ds : List PyData}, (∀ d ∈ ds, Sm d k m) → PyData.canLayAll0 ds = true ∧ PyData.depthAll ds ≤ k ∧ PyData.weightAll ds ≤ ds.length * (m + 1) ∧ PyData.intsShortAll 13 ds = true ∧ PyData.showableAll ds = true
  | [], _ => ⟨rfl, Nat.zero_le _, Nat.zero_le _, rfl, rfl⟩
  | d :: r, h => by
    obtain ⟨a1, a2, a3, a4, a5⟩ := sm_all (ds := r) fun x hx => h x (List.mem_cons_of_mem _ hx)
    have b := h d List.mem_cons_self
    refine ⟨?_, ?_, ?_, ?_, ?_⟩
    · unfold PyData.canLayAll0; rw [b.lay, a1]; rfl
    · unfold PyData.depthAll; exact Nat.max_le.mpr ⟨b.dep, a2⟩
    · unfold PyData.weightAll
      have := b.wt
      rw [List.length_cons, Nat.succ_mul]
      omega
    · unfold PyData.intsShortAll; rw [b.ish, a4]; rfl
    · unfold PyData.showableAll; rw [b.sh, a5]; rfl
theorem sm_list {k m : Nat} {ds : List PyData} (h : ∀ d ∈ ds, Sm d k m) : Sm (.list ds) (k + 1) (ds.length * (m + 1)) := by
  obtain ⟨a1, a2, a3, a4, a5⟩ := sm_all h
  exact ⟨by unfold PyData.canLay0; exact a1, by unfold PyData.depth; omega, by unfold PyData.weight; exact a3, by unfold PyData.intsShort; exact a4, by unfold PyData.showable; exact a5⟩
theorem sm_tuple {k m : Nat} {ds : List PyData} (h : ∀ d ∈ ds, Sm d k m) : Sm (.tuple ds) (k + 1) (ds.length * (m + 1)) := by
  obtain ⟨a1, a2, a3, a4, a5⟩ := sm_all h
  exact ⟨by unfold PyData.canLay0; exact a1, by unfold PyData.depth; omega, by unfold PyData.weight; exact a3, by unfold PyData.intsShort; exact a4, by unfold PyData.showable; exact a5⟩
theorem sm_dP {p : Str × Int} (g : Good p.1) (h : p.1.length ≤ 6) (hr : p.2.natAbs ≤ 1000) : Sm (dP p) 1 42 :=
  sm_tuple (k := 0) (m := 20) (ds := [.str p.1, .int p.2]) fun d hd => by
    simp only [List.mem_cons, List.not_mem_nil, or_false] at hd
    rcases hd with rfl | rfl
    · exact (sm_str g h).mono (Nat.le_refl 0) (by decide)
    · exact sm_int hr
theorem sm_names {a b : Str} (ha : NameOk a) (hb : NameOk b) : Sm (.tuple [.str a, .str b]) 1 14 :=
  sm_tuple (k := 0) (m := 6) (ds := [.str a, .str b]) fun d hd => by
    simp only [List.mem_cons, List.not_mem_nil, or_false] at hd
    rcases hd with rfl | rfl
    · exact sm_str ha.good ha.2.1
    · exact sm_str hb.good hb.2.1
end My

set_option maxRecDepth 100000
set_option maxHeartbeats 400000
/-! the numbers from a to b - 1, as values and as data -/
namespace My
open PySem PySem.Spec PyProof.Rows L2 GxR Gd TL
theorem rgV_snoc {f i : Int} (h : f ≤ i) : rgV f (i + 1) = rgV f i ++ [.int i] := by
  unfold rgV
  rw [show (i + 1 - f).toNat = (i - f).toNat + 1 by omega, List.range_succ, List.map_append]
  congr 1
  show [V.int (f + ((i - f).toNat : Nat))] = _
  rw [show f + ((i - f).toNat : Int) = i by omega]
theorem rgV_nil {f l : Int} (h : l ≤ f) : rgV f l = [] := by
  unfold rgV
  rw [show (l - f).toNat = 0 by omega]
  rfl
/-- how far a row has come that takes just the numbers from f to l - 1 -/
def upTo (f l : Int) (i : Nat) : Int := min l (max f (i : Int))
theorem upTo_in {f l : Int} {i : Nat} (h1 : f ≤ (i : Int)) (h2 : (i : Int) < l) : rgV f (upTo f l (i + 1)) = rgV f (upTo f l i) ++ [.int (i : Nat)] := by
  have e1 : upTo f l (i + 1) = (i : Int) + 1 := by unfold upTo; push_cast; omega
  have e2 : upTo f l i = (i : Int) := by unfold upTo; omega
  rw [e1, e2]
  exact rgV_snoc h1
theorem upTo_out {f l : Int} {i : Nat} (h : ¬ (f ≤ (i : Int) ∧ (i : Int) < l)) : upTo f l (i + 1) = upTo f l i := by
  unfold upTo
  push_cast
  omega
theorem upTo_all {f l : Int} {n : Nat} (h1 : f ≤ l) (h2 : l ≤ (n : Int)) : upTo f l n = l := by unfold upTo; omega
theorem upTo_0 {f l : Int} (h1 : 0 ≤ f) : rgV f (upTo f l 0) = [] := rgV_nil (by unfold upTo; omega)
def rgD (a b : Int) : List PyData := (List.range (b - a).toNat).map fun i => PyData.int (a + (i : Nat))
theorem rg_dp {K : PySem.W.Frag} {H : Hp} (a b : Int) : DpAll K H (rgV a b) (rgD a b) := by
  unfold rgV rgD
  generalize List.range (b - a).toNat = r
  induction r with
  | nil => exact .nil
  | cons i r ih => exact .cons (.int _) ih
theorem rg_sm {a b : Int} (h0 : 0 ≤ a) (h1 : b ≤ 1000) : Sm (.list (rgD a b)) 1 ((rgD a b).length * 21) := sm_list (k := 0) (m := 20) fun d hd => by
  unfold rgD at hd
  obtain ⟨i, hi, rfl⟩ := List.mem_map.mp hd
  have := List.mem_range.mp hi
  exact sm_int (by omega)
theorem rgD_len (a b : Int) : (rgD a b).length = (b - a).toNat := by unfold rgD; rw [List.length_map, List.length_range]
theorem rgV_len (a b : Int) : (rgV a b).length = (b - a).toNat := by unfold rgV; rw [List.length_map, List.length_range]
end My

set_option maxRecDepth 100000
set_option maxHeartbeats 400000
namespace F4
open PySem PySem.Spec PyProof.Rows L2 GxR Gd TL My
/-! ### several tables -/
def Tabs (T : List Addr) (H : Hp) : Prop := ∀ p ∈ T, TabG H p
/-- H' is H with more, but for the tables -/
structure KM (T : List Addr) (H H' : Hp) : Prop where
  keep : ∀ c o, c ∉ T → H c = some o → H' c = some o
  tab : Tabs T H'
theorem KM.refl {T : List Addr} {H : Hp} (t : Tabs T H) : KM T H H := ⟨fun _ _ _ h => h, t⟩
theorem KM.trans {T : List Addr} {H H1 H2 : Hp} (a : KM T H H1) (b : KM T H1 H2) : KM T H H2 := ⟨fun c o n h => b.keep c o n (a.keep c o n h), b.tab⟩
theorem tabs_same {T : List Addr} {H H' : Hp} (t : Tabs T H) (s : Same H H') : Tabs T H' := fun p hp => by
  obtain ⟨ps, e, q⟩ := t p hp
  exact ⟨ps, s _ _ e, q⟩
theorem KM.same {T : List Addr} {H H' : Hp} (t : Tabs T H) (s : Same H H') : KM T H H' := ⟨fun c o _ h => s c o h, tabs_same t s⟩
theorem KM.kt {T : List Addr} {p : Addr} {H H' : Hp} (t : Tabs T H) (hp : p ∈ T) (k : KT p H H') : KM T H H' := by
  refine ⟨fun c o n h => k.keep c o (fun e => n (e ▸ hp)) h, fun q hq => ?_⟩
  by_cases e : q = p
  · rw [e]; exact k.tab
  · obtain ⟨ps, e1, r⟩ := t q hq
    exact ⟨ps, k.keep _ _ e e1, r⟩
theorem KM.tabbed {T : List Addr} {p : Addr} {H H' : Hp} (t : Tabs T H) (hp : p ∈ T) (k : Tabbed p H H') : KM T H H' := KM.kt t hp (KT.of k)
theorem tabs_ne {T : List Addr} {H : Hp} {c : Addr} {o : HO} (t : Tabs T H) (h : H c = some o) (n : ∀ ps, o ≠ .tbl ps) : c ∉ T := fun hm => by
  obtain ⟨ps, e, _⟩ := t c hm
  rw [h] at e
  exact n ps (Option.some.inj e)
theorem KM.nt {T : List Addr} {H H' : Hp} (t : Tabs T H) (k : KM T H H') : Nt H H' := fun c o n h => k.keep c o (tabs_ne t h n) h
theorem KM.alloc {T : List Addr} {H : Hp} {a : Addr} {o : HO} (t : Tabs T H) (h : H a = none) : KM T H (upd H a o) := KM.same t (same_alloc h)
theorem KM.put {T : List Addr} {L : Addr} {H H' : Hp} {o : HO} (t : Tabs T H) (k : KM T H H') (n : H L = none) : KM T H (upd H' L o) := by
  have nL : L ∉ T := fun hm => by
    obtain ⟨ps, e, _⟩ := t L hm
    rw [n] at e; cases e
  refine ⟨fun c u q h => ?_, fun p hp => ?_⟩
  · rw [upd_ne (fun e => by rw [e, n] at h; cases h)]
    exact k.keep c u q h
  · obtain ⟨ps, e, r⟩ := k.tab p hp
    exact ⟨ps, by rw [upd_ne (fun z : p = L => nL (by rw [← z]; exact hp))]; exact e, r⟩
theorem KM.none {T : List Addr} {H H' : Hp} {c : Addr} (k : KM T H H') (hc : c ∉ T) (h : H' c = none) : H c = none := by
  cases e : H c with
  | none => rfl
  | some o => rw [k.keep c o hc e] at h; cases h
theorem KM.lst {T : List Addr} {H H' : Hp} {c : Addr} {xs : List V} (t : Tabs T H) (k : KM T H H') (h : H c = some (.lst xs)) : H' c = some (.lst xs) := KM.nt t k _ _ (by simp) h
/-! ### the parts of a deed -/
inductive Pa
  | s (z : Str) | n (i : Int)
def Pa.v : Pa → V
  | .s z => .str z
  | .n i => .int i
def Pa.t : Pa → Str
  | .s z => z
  | .n i => Str.ofString (toString i)
def Pa.d : Pa → PyData
  | .s z => .str z
  | .n i => .int i
def things : List Str := [Str.ofString "staff", Str.ofString "ticket", Str.ofString "pilot", Str.ofString "long"]
def kinds : List Str := [Str.ofString "through", Str.ofString "lock", Str.ofString "open"]
inductive So
  | name | number | thing | kind
def So.w : So → Str
  | .name => Str.ofString "NAME"
  | .number => Str.ofString "NUMBER"
  | .thing => Str.ofString "THING"
  | .kind => Str.ofString "KIND"
def So.ok : So → Pa → Prop
  | .name, .s z => NameOk z
  | .number, .n i => 0 ≤ i ∧ i ≤ 999999
  | .thing, .s z => z ∈ things
  | .kind, .s z => z ∈ kinds
  | _, _ => False
/-- a form: its words, literal or of a sort -/
inductive Fw
  | lit (z : Str) | so (x : So)
def Fw.w : Fw → Str
  | .lit z => z
  | .so x => x.w
inductive Fit : List Fw → List Pa → Prop
  | nil : Fit [] []
  | lit {z : Str} {f : List Fw} {ps : List Pa} : Fit f ps → Fit (.lit z :: f) ps
  | so {x : So} {f : List Fw} {p : Pa} {ps : List Pa} : x.ok p → Fit f ps → Fit (.so x :: f) (p :: ps)
/-- the words of a row -/
def row : List Fw → List Pa → List Str
  | [], _ => []
  | .lit z :: f, ps => z :: row f ps
  | .so _ :: f, p :: ps => p.t :: row f ps
  | .so _ :: _, [] => []
def sorts : List Fw → List So
  | [] => []
  | .lit _ :: f => sorts f
  | .so x :: f => x :: sorts f
theorem fit_len {f : List Fw} {ps : List Pa} (h : Fit f ps) : (sorts f).length = ps.length := by
  induction h with
  | nil => rfl
  | lit _ ih => exact ih
  | so _ _ ih => show (_ :: _).length = (_ :: _).length; rw [List.length_cons, List.length_cons, ih]
theorem fit_at {f : List Fw} {ps : List Pa} (h : Fit f ps) : ∀ {i : Nat} {x : So}, (sorts f)[i]? = some x → ∃ p, ps[i]? = some p ∧ x.ok p := by
  induction h with
  | nil => intro i x e; simp [sorts] at e
  | lit _ ih => intro i x e; exact ih e
  | @so x f p ps hx _ ih =>
    intro i y e
    cases i with
    | zero =>
      have e : x = y := by simpa [sorts] using e
      exact ⟨p, rfl, e ▸ hx⟩
    | succ i =>
      obtain ⟨q, h1, h2⟩ := ih (i := i) (x := y) (by simpa [sorts] using e)
      exact (⟨q, by simpa using h1, h2⟩)
theorem row_len {f : List Fw} {ps : List Pa} (h : Fit f ps) : (row f ps).length = f.length := by
  induction h with
  | nil => rfl
  | lit _ ih => show (_ :: _).length = _; rw [List.length_cons, ih]; rfl
  | so _ _ ih => show (_ :: _).length = _; rw [List.length_cons, ih]; rfl
/-- the forms -/
def L (z : String) : Fw := .lit (Str.ofString z)
def forms : List (String × String × List Fw) :=
  [("leave", "leave NAME to NAME by THING", [L "leave", .so .name, L "to", .so .name, L "by", .so .thing]), ("come", "come NAME", [L "come", .so .name]), ("lock", "lock NAME NUMBER for NAME", [L "lock", .so .name, .so .number, L "for", .so .name]),
   ("pilot", "pilot NAME NUMBER", [L "pilot", .so .name, .so .number]), ("unlock", "unlock NAME NUMBER", [L "unlock", .so .name, .so .number]), ("give", "give NAME NUMBER", [L "give", .so .name, .so .number]), ("take", "take NAME NUMBER", [L "take", .so .name, .so .number]),
   ("box", "box NAME NUMBER", [L "box", .so .name, .so .number]), ("walk", "walk NAME to NAME", [L "walk", .so .name, L "to", .so .name]), ("help", "help NAME NAME", [L "help", .so .name, .so .name]), ("bring", "bring NAME to NAME", [L "bring", .so .name, L "to", .so .name]),
   ("again", "again NAME KIND NUMBER", [L "again", .so .name, .so .kind, .so .number]), ("get", "get NUMBER", [L "get", .so .number]), ("lose", "lose NUMBER", [L "lose", .so .number])]
/-- the literal words of the forms -/
def lits : List Str := ["leave", "to", "by", "come", "lock", "for", "pilot", "unlock", "give", "take", "box", "walk", "help", "bring", "again", "get", "lose"].map Str.ofString
theorem form_split : ∀ f ∈ forms, PySem.Txt.split (Str.ofString f.2.1) (Str.ofString " ") = f.2.2.map Fw.w := by decide +kernel
/-! ### whether any things are parts -/
def So.okB : So → V → Bool
  | .name, v => nm v
  | .number, v => wh 0 999999 v
  | .thing, .str z => decide (z ∈ things)
  | .kind, .str z => decide (z ∈ kinds)
  | _, _ => false
theorem nm_name {z : Str} (h : nm (.str z) = true) : NameOk z := by
  unfold nm at h
  simp only [Bool.and_eq_true, decide_eq_true_eq] at h
  exact ⟨h.1.1, h.1.2, h.2⟩
theorem okB_pa {x : So} {p : Pa} : x.okB p.v = true ↔ x.ok p := by
  cases x <;> cases p
  · exact ⟨nm_name, NameOk.nm⟩
  · exact ⟨fun h => (by cases h), fun h => h.elim⟩
  · exact ⟨fun h => (by cases h), fun h => h.elim⟩
  · rename_i i
    show wh 0 999999 (.int i) = true ↔ (0 ≤ i ∧ i ≤ 999999)
    simp [wh]
  · rename_i z; show decide (z ∈ things) = true ↔ z ∈ things; exact decide_eq_true_iff
  · exact ⟨fun h => (by cases h), fun h => h.elim⟩
  · rename_i z; show decide (z ∈ kinds) = true ↔ z ∈ kinds; exact decide_eq_true_iff
  · exact ⟨fun h => (by cases h), fun h => h.elim⟩
theorem okB_ex {x : So} {v : V} (h : x.okB v = true) : ∃ p : Pa, v = p.v ∧ x.ok p := by
  cases v with
  | str z => exact ⟨.s z, rfl, okB_pa.mp h⟩
  | int i => exact ⟨.n i, rfl, okB_pa.mp h⟩
  | _ => cases x <;> cases h
def okFits (f : List Fw) (vs : List V) : Bool := decide ((sorts f).length = vs.length) && ((sorts f).zip vs).all fun q => q.1.okB q.2
theorem okFits_at {f : List Fw} {vs : List V} (h : (sorts f).length = vs.length) : okFits f vs = ((sorts f).zip vs).all fun q => q.1.okB q.2 := by
  unfold okFits
  rw [decide_eq_true h, Bool.true_and]
theorem okFits_no {f : List Fw} {vs : List V} (h : (sorts f).length ≠ vs.length) : okFits f vs = false := by
  unfold okFits
  rw [decide_eq_false h, Bool.false_and]
theorem okFits_so {x : So} {f : List Fw} {v : V} {vs : List V} : okFits (.so x :: f) (v :: vs) = (x.okB v && okFits f vs) := by
  unfold okFits
  show (decide ((sorts f).length + 1 = vs.length + 1) && (x.okB v && ((sorts f).zip vs).all fun q => q.1.okB q.2)) = _
  rw [show decide ((sorts f).length + 1 = vs.length + 1) = decide ((sorts f).length = vs.length) from decide_eq_decide.mpr (by omega)]
  cases decide ((sorts f).length = vs.length) <;> cases x.okB v <;> rfl
theorem okFits_ex : ∀ {f : List Fw} {vs : List V}, okFits f vs = true → ∃ ps : List Pa, vs = ps.map Pa.v ∧ Fit f ps
  | [], [], _ => ⟨[], rfl, .nil⟩
  | [], _ :: _, h => by unfold okFits at h; simp [sorts] at h
  | .lit z :: f, vs, h => by
    obtain ⟨ps, e, ft⟩ := okFits_ex (f := f) (vs := vs) h
    exact ⟨ps, e, .lit ft⟩
  | .so x :: f, [], h => by unfold okFits at h; simp [sorts] at h
  | .so x :: f, v :: vs, h => by
    rw [okFits_so, Bool.and_eq_true] at h
    obtain ⟨p, rfl, hp⟩ := okB_ex h.1
    obtain ⟨ps, rfl, ft⟩ := okFits_ex h.2
    exact ⟨p :: ps, rfl, .so hp ft⟩
theorem okFits_of {f : List Fw} {ps : List Pa} (h : Fit f ps) : okFits f (ps.map Pa.v) = true := by
  induction h with
  | nil => rfl
  | lit _ ih => exact ih
  | so hp _ ih =>
    rw [List.map_cons, okFits_so, okB_pa.mpr hp, ih]
    rfl
/-- a deed, as a tuple's things -/
def dv (fm : String × String × List Fw) (ps : List Pa) : List V := .str (Str.ofString fm.1) :: ps.map Pa.v
abbrev Fm := String × String × List Fw
/-- these things are no deed -/
def NotDeed (xs : List V) : Prop := ∀ (fm : Fm) (ps : List Pa), fm ∈ forms → Fit fm.2.2 ps → xs ≠ dv fm ps
end F4

set_option maxRecDepth 100000
set_option maxHeartbeats 400000
namespace F4
open PySem PySem.Spec PyProof.Rows L2 GxR Gd TL My
/-- a global tuple of texts -/
def Cst (K : PySem.W.Frag) (a : Addr) (zs : List Str) : Prop := (∀ H : Hp, SqT K H a (zs.map V.str)) ∧ ∃ o, K.lookup a = some o ∧ o.cls = .type "tuple" ∧ o.dict = none
/-- a call of a local name that holds one of several defs -/
def tCallJ {J : Type} (i : Nat) (f : J → Addr) (sp : J → Sp) (t : TA) : TE := fun σ H Q => ∃ j, σ[i]? = some (some (.ref (f j))) ∧ t σ H fun vs H1 => sp j vs H1 Q (fun _ _ _ => False)
theorem pe_callJ {J : Type} {X : Cx} {k i : Nat} {x : Str} {p pos : Pos} {e : Expr} {es : List Expr} {t : TA} {f : J → Addr} {sp : J → Sp} (A : ∀ j, Held X.prog X.w X.K X.mg X.base k (f j) (sp j)) (hr : Room k X.A) (hN : X.N[i]? = some x) (hv : Vis X.env.scope x) (ha : PA X (e :: es) t)
    (hdb : (x == ("__debug__" : Str)) = false := by decide) (hcd : (x == ("__classdict__" : Str)) = false := by decide)
    (he : starEach (e :: es) X.env = (false, eval e X.env) :: starEach es X.env := by rfl) (hpl : (backTo pos (starEach es X.env)).any (·.1) = false := by rfl) : PE X (.Call (.Name x p) (e :: es) [] pos) (tCallJ i f sp t) := by
  refine ⟨fun pins s σ H Q I h => ?_⟩
  obtain ⟨j, hs, ht⟩ := h
  refine (pe_callA (S := fun g => if g = f j then some (sp j) else none) (fun g sp' h => ?_) hr hN hv ha hdb hcd he hpl).run pins s σ H Q I ⟨f j, sp j, hs, if_pos rfl, ht⟩
  by_cases e : g = f j
  · subst e
    rw [if_pos rfl] at h
    obtain rfl := Option.some.inj h
    exact A j
  · rw [if_neg e] at h
    cases h
theorem th_nt {H H' : Hp} (e : Nt H H') {v : V} (th : Th H v) : Th H' v := by
  cases th with
  | non => exact .non
  | bl b => exact .bl b
  | int i => exact .int i
  | str z h g => exact .str z h g
  | lst a xs h => exact .lst a xs (e _ _ (by simp) h)
  | tup a xs h => exact .tup a xs (e _ _ (by simp) h)
  | dic a h => exact .dic a (e _ _ (by simp) h)
theorem pa_th {H : Hp} {x : So} {p : Pa} (h : x.ok p) : Th H p.v := by
  cases x <;> cases p <;> try exact False.elim h
  · rename_i z
    have h : NameOk z := h
    exact .str z (by have := h.2.1; omega) h.good
  · exact .int _
  · rename_i z
    have h : z ∈ things := h
    simp only [things, List.mem_cons, List.not_mem_nil, or_false] at h
    rcases h with rfl | rfl | rfl | rfl <;> exact .str _ (by decide) (good_of _)
  · rename_i z
    have h : z ∈ kinds := h
    simp only [kinds, List.mem_cons, List.not_mem_nil, or_false] at h
    rcases h with rfl | rfl | rfl <;> exact .str _ (by decide) (good_of _)
theorem fit_th {H : Hp} {f : List Fw} {ps : List Pa} (h : Fit f ps) : ∀ v ∈ ps.map Pa.v, Th H v := by
  induction h with
  | nil => intro v hv; cases hv
  | lit _ ih => exact ih
  | so hp _ ih =>
    intro v hv
    rcases List.mem_cons.mp hv with rfl | hv
    · exact pa_th hp
    · exact ih v hv
/-- any thing in a global tuple of texts: what the reading asks -/
theorem th_inT {K : PySem.W.Frag} {H : Hp} {v : V} {a : Addr} {zs : List Str} {Q : VK} (th : Th H v) (C : SqT K H a (zs.map V.str)) (k : Q (.bl (match v with | .str z => decide (z ∈ zs) | _ => false)) H) : rInTt K v (.ref a) H Q := by
  refine ⟨a, zs, rfl, C, ?_⟩
  have nt : ∀ u : V, (∀ z, u ≠ .str z) → flatV u = true → inV u (zs.map V.str) = false := fun u hu fu => by
    cases q : inV u (zs.map V.str) with
    | false => rfl
    | true =>
      unfold inV at q
      rw [List.any_eq_true] at q
      obtain ⟨y, hy, e⟩ := q
      obtain ⟨z, _, rfl⟩ := List.mem_map.mp hy
      cases u with
      | str z' => exact absurd rfl (hu z')
      | _ => cases e
  cases th with
  | non => exact .inl ⟨rfl, by rw [nt _ (fun z h => by cases h) rfl]; exact k⟩
  | bl b => exact .inl ⟨rfl, by rw [nt _ (fun z h => by cases h) rfl]; exact k⟩
  | int i => exact .inl ⟨rfl, by rw [nt _ (fun z h => by cases h) rfl]; exact k⟩
  | str z h g => exact .inl ⟨rfl, by rw [in_strs]; exact k⟩
  | lst c xs h => exact .inr ⟨⟨c, rfl, .inl ⟨xs, SqL.of h⟩⟩, k⟩
  | tup c xs h => exact .inr ⟨⟨c, rfl, .inr (.inl ⟨xs, SqT.of h⟩)⟩, k⟩
  | dic c h => exact .inr ⟨⟨c, rfl, .inr (.inr ⟨_, h⟩)⟩, k⟩
section
variable {P : Program} {w : World} {K : PySem.W.Frag} {mg : Str → Option Value} {base : Heap} {P1 P2 P3 aSORTS aTHINGS aKINDS aFORMS : Addr} {tM : Tok}
abbrev s_is_name : Stmt := top 12
theorem sc_is_name : FnScope ["thing"] ["thing"] (defScope s_is_name) := ⟨rfl, rfl, rfl, by decide +kernel, rfl, by decide +kernel, by decide +kernel⟩
abbrev s_is_number : Stmt := top 13
theorem sc_is_number : FnScope ["thing"] ["thing"] (defScope s_is_number) := ⟨rfl, rfl, rfl, by decide +kernel, rfl, by decide +kernel, by decide +kernel⟩
abbrev s_is_thing : Stmt := top 15
theorem sc_is_thing : FnScope ["thing"] ["thing"] (defScope s_is_thing) := ⟨rfl, rfl, rfl, by decide +kernel, rfl, by decide +kernel, by decide +kernel⟩
abbrev s_is_kind : Stmt := top 16
theorem sc_is_kind : FnScope ["thing"] ["thing"] (defScope s_is_kind) := ⟨rfl, rfl, rfl, by decide +kernel, rfl, by decide +kernel, by decide +kernel⟩
abbrev s_is_of : Stmt := top 19
theorem sc_is_of : FnScope ["sort", "part", "check"] ["sort", "part"] (defScope s_is_of) := ⟨rfl, rfl, rfl, by decide +kernel, rfl, by decide +kernel, by decide +kernel⟩
def spChk (T : List Addr) (x : So) : Sp := fun vs H Q _ => ∃ (v : V), vs = [v] ∧ Th H v ∧ Tabs T H ∧ ∀ H', KM T H H' → Q (.bl (x.okB v)) H'
theorem ok_chk_name {T : List Addr} {f f1 : Addr} {fd fd1 : FuncData} (hp : P1 ∈ T) (F : Fun K "_is_name" "_is_name" s_is_name f fd)
    (Nis_name : Fn K mg "is_name" sName ["thing"] f1 fd1) (Gis_name : FnOk P w K mg base CX0 2 f1 fd1 ["thing"] (spName P1)) : FnOk P w K mg base CX0 3 f fd ["thing"] (spChk T .name) := by
  refine F.ok sc_is_name (fun vs H Q E h => ?_) (fun cdv A outer s H vs Q E hr h => ?_)
  · obtain ⟨p, rfl, _⟩ := h
    rfl
  · obtain ⟨v, rfl, th, tb, k⟩ := h
    refine ⟨_, pss_one (ps_ret (pe_call Gis_name (hr.mono (by decide)) (by rfl) Nis_name.g Nis_name.kp Nis_name.b .nil pass0 (pa_cons (pv 0) pa_nil))), ?_⟩
    exact ⟨_, rfl, v, rfl, th, tb P1 hp, fun H' kt => k H' (KM.kt tb hp kt)⟩
theorem ok_chk_number {T : List Addr} {f f1 : Addr} {fd fd1 : FuncData} (F : Fun K "_is_number" "_is_number" s_is_number f fd) (gMOST : mg "MOST_NUMBER" = some (.int 999999 tM))
    (Nis_whole : Fn K mg "is_whole" sWhole ["thing", "low", "high"] f1 fd1) (Gis_whole : FnOk P w K mg base CX0 1 f1 fd1 ["thing", "low", "high"] spWhole) : FnOk P w K mg base CX0 3 f fd ["thing"] (spChk T .number) := by
  refine F.ok sc_is_number (fun vs H Q E h => ?_) (fun cdv A outer s H vs Q E hr h => ?_)
  · obtain ⟨p, rfl, _⟩ := h
    rfl
  · obtain ⟨v, rfl, th, tb, k⟩ := h
    refine ⟨_, pss_one (ps_ret (pe_call Gis_whole (hr.mono (by decide)) (by rfl) Nis_whole.g Nis_whole.kp Nis_whole.b .nil pass0 (pa_cons (pv 0) (pa_cons pe_int (pa_cons (pe_glob (v := .int 999999) (by rfl) gMOST ⟨_, rfl⟩) pa_nil))))), ?_⟩
    exact ⟨_, rfl, v, 0, 999999, rfl, th, k H (KM.refl tb)⟩
theorem ok_chk_thing {T : List Addr} {f : Addr} {fd : FuncData} (F : Fun K "_is_thing" "_is_thing" s_is_thing f fd) (gTHINGS : mg "THINGS" = some (.ref aTHINGS)) (cTHINGS : Cst K aTHINGS things) : FnOk P w K mg base CX0 3 f fd ["thing"] (spChk T .thing) := by
  refine F.ok sc_is_thing (fun vs H Q E h => ?_) (fun cdv A outer s H vs Q E hr h => ?_)
  · obtain ⟨p, rfl, _⟩ := h
    rfl
  · obtain ⟨v, rfl, th, tb, k⟩ := h
    have hu2 := Nat.lt_of_le_of_lt (Nat.add_le_add_left (by decide : 2 ≤ 64) _) hr.units
    refine ⟨_, pss_one (ps_ret (pe_cmpR (op_inTt hu2) (pv 0) (pe_glob (v := .ref aTHINGS) (by rfl) gTHINGS rfl) rfl)), ?_⟩
    refine ⟨_, rfl, th_inT th (cTHINGS.1 H) ?_⟩
    have q := k H (KM.refl tb)
    cases v <;> exact q
theorem ok_chk_kind {T : List Addr} {f : Addr} {fd : FuncData} (F : Fun K "_is_kind" "_is_kind" s_is_kind f fd) (gKINDS : mg "KINDS" = some (.ref aKINDS)) (cKINDS : Cst K aKINDS kinds) : FnOk P w K mg base CX0 3 f fd ["thing"] (spChk T .kind) := by
  refine F.ok sc_is_kind (fun vs H Q E h => ?_) (fun cdv A outer s H vs Q E hr h => ?_)
  · obtain ⟨p, rfl, _⟩ := h
    rfl
  · obtain ⟨v, rfl, th, tb, k⟩ := h
    have hu2 := Nat.lt_of_le_of_lt (Nat.add_le_add_left (by decide : 2 ≤ 64) _) hr.units
    refine ⟨_, pss_one (ps_ret (pe_cmpR (op_inTt hu2) (pv 0) (pe_glob (v := .ref aKINDS) (by rfl) gKINDS rfl) rfl)), ?_⟩
    refine ⟨_, rfl, th_inT th (cKINDS.1 H) ?_⟩
    have q := k H (KM.refl tb)
    cases v <;> exact q
/-- _is_of(sort, part) -/
def spOf (T : List Addr) : Sp := fun vs H Q _ => ∃ (x : So) (v : V), vs = [.str x.w, v] ∧ Th H v ∧ Tabs T H ∧ ∀ H', KM T H H' → Q (.bl (x.okB v)) H'
theorem ok_is_of {T : List Addr} {f : Addr} {fd : FuncData} {fs : So → Addr} (F : Fun K "_is_of" "_is_of" s_is_of f fd) (gSORTS : mg "SORTS" = some (.ref aSORTS)) (cSORTS : ∀ x : So, KDct K w aSORTS x.w (.ref (fs x)))
    (HA : ∀ x, Held P w K mg base 3 (fs x) (spChk T x)) : FnOk P w K mg base CX0 4 f fd ["sort", "part"] (spOf T) := by
  refine F.ok sc_is_of (fun vs H Q E h => ?_) (fun cdv A outer s H vs Q E hr h => ?_)
  · obtain ⟨x, p, rfl, _⟩ := h
    rfl
  · obtain ⟨x, v, rfl, th, tb, k⟩ := h
    refine ⟨_, pss_cons (ps_set (i := 2) sc_is_of.nd rfl (Or.inl rfl) (pe_ix ix_kdict (pe_glob (v := .ref aSORTS) (by rfl) gSORTS rfl) (pv 0) (fun _ _ => rfl)))
      (pss_one (ps_ret (pe_callJ HA (hr.mono (by decide)) (i := 2) rfl (.inl rfl) (pa_cons (pv 1) pa_nil)))), ?_⟩
    refine ⟨_, rfl, aSORTS, x.w, _, rfl, rfl, cSORTS x, ?_⟩
    exact ⟨x, rfl, _, rfl, v, rfl, th, tb, k⟩
end
end F4

set_option maxRecDepth 100000
set_option maxHeartbeats 400000
/-! GxW: all(..) over what is walked in a told number of turns. -/
namespace My
open PySem PySem.Spec PyProof.Rows L2
theorem gx_it {J : It} {n : Nat} {G : Hp → Prop} {Y : Nat → Hp → V → Hp → Prop} (w : Walk J n G Y) {g : TG} {te : TE} {vs : List Nat} {σ : L2.St} {QF : Bool → Hp → Prop} {H : Hp} (Pv : Nat → Hp → Prop) (h0 : Pv 0 H) (hG : ∀ i H, i ≤ n → Pv i H → G H)
    (hs : ∀ i x H H', i < n → Pv i H → Y i H x H' → g x σ H' fun σ2 H2 => wipe σ2 vs = σ ∧ te σ2 H2 fun y H3 => ∃ b : Bool, y = .bl b ∧ (b = true → Pv (i + 1) H3) ∧ (b = false → QF false H3)) (hd : ∀ H, Pv n H → QF true H) :
    ∃ W : Nat → Nat → Hp → Prop, (∃ m, W 0 m H) ∧ GxT J g te vs σ QF W := by
  refine (⟨fun i m H => m = n - i ∧ i ≤ n ∧ Pv i H, ⟨n, by simp, Nat.zero_le _, h0⟩, ?_⟩)
  rintro i m H ⟨rfl, hi, p⟩
  have q := hG i H hi p
  by_cases hlt : i < n
  · exact .inr ⟨w.goes i H hlt q, Pv (i + 1), fun H' p' => ⟨n - (i + 1), by omega, rfl, hlt, p'⟩, fun x H' y => hs i x H H' hlt p (w.yields i H x H' hlt q y)⟩
  · obtain rfl : i = n := by omega
    exact (.inl ⟨w.stops H q, hd H p⟩)
theorem walk_zipM {K : PySem.W.Frag} {a b : Addr} {xs ys : List V} (hn : xs.length = ys.length) : Walk (ItzM K a b) xs.length (fun H => SqL K H a xs ∧ SqT K H b ys) (YPair (fun i => xs[i]?) (fun i => ys[i]?)) := by
  refine ⟨fun i H hi q => ?_, fun H q => ⟨xs, ys, q.1, q.2, rfl, hn.symm⟩, fun i H v H' _ q y => ?_⟩
  · exact ⟨xs, ys, xs[i], ys[i]'(hn ▸ hi), q.1, q.2, by simp [hi], List.getElem?_eq_getElem _⟩
  · obtain ⟨T, x, z, h1, h2, h3, h4, h5⟩ := (y)
    exact (⟨T, x, z, h1, h2, h3, h4 xs q.1, h5 ys q.2⟩)
end My

set_option maxRecDepth 100000
set_option maxHeartbeats 800000
namespace F4
open PySem PySem.Spec PyProof.Rows L2 GxR Gd TL My
theorem ixL {X : Cx} {K : PySem.W.Frag} (h : X.K = K) : IxR X (rIxL K) := h ▸ ix_list
theorem inKD {X : Cx} {K : PySem.W.Frag} {w : World} {d : Addr} {es : Array DictEntry} {n : Nat} (hK : X.K = K) (hw : X.w = w) (D : KDict K w d es n) :
    OpR X (compareOp .In) (fun x y H Q => ∃ (z : Str) (r : Option Value), x = .str z ∧ y = .ref d ∧ PySem.W.nsIn K d z = some r ∧ Q (.bl r.isSome) H) := by
  subst hK hw
  exact op_in_kd D
theorem notInKD {X : Cx} {K : PySem.W.Frag} {w : World} {d : Addr} {es : Array DictEntry} {n : Nat} (hK : X.K = K) (hw : X.w = w) (D : KDict K w d es n) :
    OpR X (compareOp .NotIn) (fun x y H Q => ∃ (z : Str) (r : Option Value), x = .str z ∧ y = .ref d ∧ PySem.W.nsIn K d z = some r ∧ Q (.bl (!r.isSome)) H) := by
  subst hK hw
  exact op_notIn_kd D
/-- the sorts' dict -/
structure SoD (K : PySem.W.Frag) (w : World) (a : Addr) (fs : So → Addr) (es : Array DictEntry) (n : Nat) : Prop where
  d : KDict K w a es n
  no : ∀ z ∈ lits, PySem.W.nsIn K a z = some none
  yes : ∀ x : So, PySem.W.nsIn K a x.w = some (some (.ref (fs x)))
theorem SoD.item {K : PySem.W.Frag} {w : World} {a : Addr} {fs : So → Addr} {es : Array DictEntry} {n : Nat} (S : SoD K w a fs es n) (x : So) : KDct K w a x.w (.ref (fs x)) := ⟨es, n, _, S.d.at_, S.d.lit, S.yes x, rfl⟩
/-- a word of a form -/
def InF (f : Fw) : Prop := match f with
  | .lit z => z ∈ lits
  | .so _ => True
theorem forms_in : ∀ f ∈ forms, ∀ x ∈ f.2.2, InF x := by
  have key : ∀ f ∈ forms, ∀ x ∈ f.2.2, (match x with | Fw.lit z => decide (z ∈ lits) | .so _ => true) = true := by decide +kernel
  intro f hf x hx
  have := key f hf x hx
  cases x with
  | lit z =>
    show z ∈ lits
    exact of_decide_eq_true this
  | so y => trivial
/-- where a word of a form stands in the dict -/
theorem SoD.at {K : PySem.W.Frag} {w : World} {a : Addr} {fs : So → Addr} {es : Array DictEntry} {n : Nat} (S : SoD K w a fs es n) {x : Fw} (h : InF x) : ∃ r, PySem.W.nsIn K a x.w = some r ∧ r.isSome = (match x with | .so _ => true | .lit _ => false) := by
  cases x with
  | lit z => exact ⟨_, S.no z h, rfl⟩
  | so y => exact ⟨_, S.yes y, rfl⟩
theorem same_nt {H H' : Hp} (s : Same H H') : Nt H H' := fun c o _ h => s c o h
theorem sorts_snoc : ∀ (f : List Fw) (x : Fw), sorts (f ++ [x]) = sorts f ++ (match x with | .so y => [y] | .lit _ => [])
  | [], .lit _ => rfl
  | [], .so _ => rfl
  | .lit _ :: f, x => sorts_snoc f x
  | .so y :: f, x => by
    show y :: sorts (f ++ [x]) = y :: (sorts f ++ _)
    rw [sorts_snoc f x]
theorem sorts_le : ∀ f : List Fw, (sorts f).length ≤ f.length
  | [] => Nat.le_refl 0
  | .lit _ :: f => Nat.le_succ_of_le (sorts_le f)
  | .so _ :: f => Nat.succ_le_succ (sorts_le f)
theorem forms_len : ∀ f ∈ forms, f.2.2.length ≤ 6 := by decide +kernel
theorem forms_short : ∀ f ∈ forms, (Str.ofString f.2.1).length ≤ 40 := by decide +kernel
theorem all_step {α : Type} {f : α → Bool} {l : List α} {i : Nat} {x : α} (h : l[i]? = some x) : (l.take (i + 1)).all f = ((l.take i).all f && f x) := by
  rw [take_at h, List.all_append]
  simp
theorem all_no {α : Type} {f : α → Bool} {l : List α} {i : Nat} {x : α} (h : l[i]? = some x) (e : f x = false) : l.all f = false := by
  cases q : l.all f with
  | false => rfl
  | true =>
    rw [List.all_eq_true.mp q x (List.mem_of_getElem? h)] at e
    cases e
section
variable {P : Program} {w : World} {K : PySem.W.Frag} {mg : Str → Option Value} {base : Heap} {P1 P2 P3 aSORTS aFORMS : Addr} {fs : So → Addr} {es : Array DictEntry} {nS : Nat}
abbrev s_fits : Stmt := top 18
theorem sc_fits : FnScope ["form", "parts", "sorts", "word", "sort", "part"] ["form", "parts"] (defScope s_fits) := ⟨rfl, rfl, rfl, by decide +kernel, rfl, by decide +kernel, by decide +kernel⟩
def spFits (K : PySem.W.Frag) (T : List Addr) : Sp := fun vs H Q _ => ∃ (fm : Fm) (b : Addr) (xs : List V), vs = [.str (Str.ofString fm.2.1), .ref b] ∧ fm ∈ forms ∧ (∀ x ∈ xs, Th H x) ∧ (SqT K H b xs ∨ SqL K H b xs) ∧ Tabs T H ∧ ∀ H', KM T H H' → Q (.bl (okFits fm.2.2 xs)) H'
theorem ok_fits {T0 : List Addr} {f f1 c : Addr} {fd1 : FuncData} {oc kV doc pm ct : Value} {od an : Option Addr} {osl : Array (Option Value)} (hp : P3 ∈ T0)
    (lk : K.lookup f = some ⟨oc, od, .func (PySem.W.fnOf "fits" "fits" (defArgs s_fits) (defBody s_fits) (defScope s_fits) .none kV doc pm an (.ref c) ct), osl⟩) (hcd : PySem.W.codeIn K (.ref c) "fits" = true)
    (T : Txt mg) (TB : TabB base mg c P3) (gSORTS : mg "SORTS" = some (.ref aSORTS)) (SD : SoD K w aSORTS fs es nS)
    (Nis_of : Fn K mg "_is_of" s_is_of ["sort", "part"] f1 fd1) (Gis_of : FnOk P w K mg base CX0 4 f1 fd1 ["sort", "part"] (spOf T0)) :
    FnOk P w K mg base CX0 6 f (PySem.W.fnOf "fits" "fits" (defArgs s_fits) (defBody s_fits) (defScope s_fits) .none kV doc pm an (.ref c) ct) ["form", "parts"] (spFits K T0) := by
  refine fn_of lk hcd sc_fits (fun vs H Q E h => ?_) (fun A outer s H vs Q E hr h => ?_)
  · obtain ⟨fm, b, xs, rfl, _⟩ := h
    rfl
  · obtain ⟨fm, b, xs, rfl, hfm, hth, hb, tb, k⟩ := h
    refine ⟨_, pss_cons (ps_setLc (i := 2) (own := [("word", 3)]) (g := gName 3) rfl sc_fits.nd rfl rfl (sw_true rfl rfl rfl (by decide +kernel)) (pi_list (pe_split (pv 0) pe_str)) (blkOk_by (own := [("word", 3)]) (N := ["form", "parts", "sorts", "word", "sort", "part"]) (sc := defScope s_fits) (by decide +kernel)) (fun _ _ _ _ _ => (pg_name (i := 3) sc_fits.nd rfl (Or.inl rfl))) (fun _ _ _ _ _ => pts_one (pt_cmpR (inKD rfl rfl SD.d) (pv 3) (pe_glob (v := .ref aSORTS) (by rfl) gSORTS rfl) rfl)) (fun _ _ _ _ _ => (pv 3)))
      (pss_one (ps_ret (pe_and (pe_cmpR op_eq (pe_callB call_len_seq (by rfl) T.len_ PySem.boot_len (pa_cons (pv 2) pa_nil)) (pe_callB call_len_seq (by rfl) T.len_ PySem.boot_len (pa_cons (pv 1) pa_nil)) (nomark _)) (pe_one (pe_allX (k := 4) (g := gTup K 2 (gCons (gName 4) (gCons (gName 5) gNil))) hr rfl sc_fits.nd (by rfl) T.all_ (by decide +kernel) TB rfl ⟨rfl, by decide +kernel, by decide +kernel⟩ (blkOk_by (own := [("sort", 4), ("part", 5)]) (N := ["form", "parts", "sorts", "word", "sort", "part"]) (sc := defScope s_fits) (by decide +kernel)) (pi_zipM (by rfl) T.zip_ (pa_cons (pv 2) (pa_cons (pv 1) pa_nil))) (fun _ _ _ _ _ _ _ _ => (pg_tup (by rfl) (pgs_cons (pg_name (i := 4) sc_fits.nd rfl (Or.inl rfl)) (pgs_cons (pg_name (i := 5) sc_fits.nd rfl (Or.inl rfl)) pgs_nil)))) (fun _ _ _ _ _ _ _ hB => (pe_call Gis_of hB (by rfl) Nis_of.g Nis_of.kp Nis_of.b .nil pass0 (pa_cons (pv 4) (pa_cons (pv 5) pa_nil)))) (fun _ => rfl)))))), ?_⟩
    have l6 := forms_len fm hfm
    refine ⟨_, rfl, ⟨_, rfl⟩, _, _, rfl, rfl, rfl, Nat.le_trans (Nat.add_le_add_right (forms_short fm hfm) 2) (by decide), fun p hp0 => ?_⟩
    rw [form_split fm hfm]
    have tb1 : Tabs T0 (upd H p (.lst ((fm.2.2.map Fw.w).map V.str))) := tabs_same tb (same_alloc hp0)
    have hb1 : SqT K (upd H p (.lst ((fm.2.2.map Fw.w).map V.str))) b xs ∨ SqL K (upd H p (.lst ((fm.2.2.map Fw.w).map V.str))) b xs := hb.imp (KM.nt tb (KM.alloc tb hp0)).seqT (KM.nt tb (KM.alloc tb hp0)).seq
    have hth1 : ∀ x ∈ xs, Th (upd H p (.lst ((fm.2.2.map Fw.w).map V.str))) x := fun x hx => th_nt (KM.nt tb (KM.alloc tb hp0)) (hth x hx)
    have k1 : ∀ H', KM T0 (upd H p (.lst ((fm.2.2.map Fw.w).map V.str))) H' → Q (.bl (okFits fm.2.2 xs)) H' := fun H' km => k H' ((KM.alloc tb hp0).trans km)
    have hl : SqL K (upd H p (.lst ((fm.2.2.map Fw.w).map V.str))) p ((fm.2.2.map Fw.w).map V.str) := SqL.of upd_same
    generalize upd H p (.lst ((fm.2.2.map Fw.w).map V.str)) = H1 at tb1 hb1 hth1 k1 hl ⊢
    refine ⟨p, rfl, ⟨_, hl⟩, fun D hD => lc_it (walk_list (K := K) (xs := (fm.2.2.map Fw.w).map V.str)) (fun i H' => KB D H1 H' ∧ H' D = some (.lst ((sorts (fm.2.2.take i)).map fun x => V.str x.w))) ⟨KB.alloc hD, upd_same⟩ (fun i H' _ h => (same_nt (KB.same hD h.1)).seq hl) ?_ ?_⟩
    · rintro i v H' H'' hi ⟨kb, e⟩ ⟨rfl, hv⟩
      obtain ⟨x, hx⟩ : ∃ x, fm.2.2[i]? = some x := ⟨_, List.getElem?_eq_getElem (by simpa using hi)⟩
      have ev : v = .str x.w := by
        rw [List.getElem?_map, List.getElem?_map, hx] at hv
        exact (Option.some.inj hv).symm
      subst ev
      obtain ⟨r, er, hr2⟩ := SD.at (forms_in fm hfm x (List.mem_of_getElem? hx))
      have es := sorts_snoc (fm.2.2.take i) x
      rw [← take_at hx] at es
      refine ⟨rfl, _, rfl, _, r, rfl, rfl, er, _, rfl, ?_⟩
      cases x with
      | lit z =>
        rw [hr2]
        refine ⟨kb, ?_⟩
        rw [es, List.append_nil]
        exact e
      | so y =>
        rw [hr2]
        refine ⟨_, rfl, _, e, ?_, fun c o n h => by rw [upd_ne n]; exact kb c o n h, ?_⟩
        · rw [List.length_map]
          exact Nat.lt_of_le_of_lt (Nat.le_trans (sorts_le _) (Nat.le_trans (by rw [List.length_take]; omega) l6)) (by decide)
        · rw [upd_same, es, List.map_append]
          rfl
    · rintro H' ⟨kb, e⟩
      rw [List.length_map, List.length_map, List.take_of_length_le (Nat.le_refl _)] at e
      have sm := KB.same hD kb
      have tb2 := tabs_same tb1 sm
      have k2 : ∀ H2, KM T0 H' H2 → Q (.bl (okFits fm.2.2 xs)) H2 := fun H2 km => k1 H2 ((KM.same tb1 sm).trans km)
      have hb2 : SqT K H' b xs ∨ SqL K H' b xs := hb1.imp (same_nt sm).seqT (same_nt sm).seq
      have hth2 : ∀ x ∈ xs, Th H' x := fun x hx => th_nt (same_nt sm) (hth1 x hx)
      clear hb1 k1 kb tb1 sm hl hth1
      refine ⟨_, rfl, D, _, rfl, .inl (SqL.of e), _, rfl, b, _, rfl, hb2.symm, ?_⟩
      refine ⟨rfl, _, rfl, ?_⟩
      have lS : ((sorts fm.2.2).map fun x => V.str x.w).length = (sorts fm.2.2).length := List.length_map _
      by_cases nl : (sorts fm.2.2).length = xs.length
      · have ln : ((sorts fm.2.2).map fun x => V.str x.w).length = xs.length := by rw [lS, nl]
        rw [decide_eq_true (show V.int ↑((sorts fm.2.2).map fun x => V.str x.w).length = V.int ↑xs.length by rw [ln]), if_pos rfl]
        have zl : ((sorts fm.2.2).zip xs).take ((sorts fm.2.2).map fun x => V.str x.w).length = (sorts fm.2.2).zip xs := List.take_of_length_le (by rw [List.length_zip, lS]; exact Nat.min_le_left ..)
        have get : ∀ {i : Nat} {u v : V}, ((sorts fm.2.2).map fun x => V.str x.w)[i]? = some u → xs[i]? = some v → ∃ y, u = .str y.w ∧ ((sorts fm.2.2).zip xs)[i]? = some (y, v) := by
          intro i u v h1 h2
          rw [List.getElem?_map] at h1
          cases e9 : (sorts fm.2.2)[i]? with
          | none => rw [e9] at h1; cases h1
          | some y =>
            rw [e9] at h1
            refine ⟨y, (Option.some.inj h1).symm, ?_⟩
            rw [List.getElem?_zip_eq_some]
            exact ⟨e9, h2⟩
        have key : ∀ {i : Nat} {H3 : Hp} {t : Addr} {u v : V}, KM T0 H' H3 → ((sorts fm.2.2).zip xs |>.take i).all (fun q => q.1.okB q.2) = true → H3 t = none → ((sorts fm.2.2).map fun x => V.str x.w)[i]? = some u → xs[i]? = some v → spOf T0 [u, v] (upd H3 t (.tup [u, v])) (fun y H4 => ∃ b : Bool, y = .bl b ∧ (b = true → KM T0 H' H4 ∧ ((sorts fm.2.2).zip xs |>.take (i + 1)).all (fun q => q.1.okB q.2) = true) ∧ (b = false → Q (.bl false) H4)) (fun _ _ _ => False) := by
          intro i H3 t u v km al ht h1 h2
          obtain ⟨y, rfl, hz⟩ := get h1 h2
          have tb4 : Tabs T0 (upd H3 t (.tup [.str y.w, v])) := tabs_same km.tab (same_alloc ht)
          have km4 : KM T0 H' (upd H3 t (.tup [.str y.w, v])) := km.trans (KM.alloc km.tab ht)
          refine ⟨y, v, rfl, th_nt (KM.nt tb2 km4) (hth2 v (List.mem_of_getElem? h2)), tb4, fun H5 km5 => ⟨y.okB v, rfl, fun ye => ⟨km4.trans km5, by rw [all_step hz, al]; exact ye⟩, fun no => ?_⟩⟩
          have r := k2 H5 (km4.trans km5)
          rw [okFits_at nl, all_no hz no] at r
          exact r
        refine ⟨_, rfl, _, rfl, D, b, _, xs, rfl, SqL.of e, ?_⟩
        rcases hb2 with hq | hq
        · refine .inl ⟨hq, tb2 P3 hp, fun H2 ht => gx_it (walk_zipM (K := K) ln) (fun i H3 => KM T0 H' H3 ∧ ((sorts fm.2.2).zip xs |>.take i).all (fun q => q.1.okB q.2) = true) ⟨KM.tabbed tb2 hp ht, rfl⟩ (fun i H3 _ km => ⟨(KM.nt tb2 km.1).seq (SqL.of e), (KM.nt tb2 km.1).seqT hq⟩) ?_ (fun H3 km => ?_)⟩
          · rintro i x H3 H4 hi ⟨km, al⟩ ⟨t, u, v, rfl, ht, rfl, h1, h2⟩
            refine ⟨t, [u, v], rfl, SqT.of upd_same, rfl, ?_⟩
            exact ⟨_, _, rfl, _, _, rfl, rfl, rfl, _, rfl, _, rfl, key km al ht h1 h2⟩
          · have r := k2 H3 km.1
            have q := km.2
            rw [zl] at q
            rw [okFits_at nl, q] at r
            exact r
        · refine .inr ⟨hq, tb2 P3 hp, fun H2 ht => gx_it (walk_zip (K := K) (n := ((sorts fm.2.2).map fun x => V.str x.w).length) (by rw [ln, Nat.min_self])) (fun i H3 => KM T0 H' H3 ∧ ((sorts fm.2.2).zip xs |>.take i).all (fun q => q.1.okB q.2) = true) ⟨KM.tabbed tb2 hp ht, rfl⟩ (fun i H3 _ km => ⟨(KM.nt tb2 km.1).seq (SqL.of e), (KM.nt tb2 km.1).seq hq⟩) ?_ (fun H3 km => ?_)⟩
          · rintro i x H3 H4 hi ⟨km, al⟩ ⟨t, u, v, rfl, ht, rfl, h1, h2⟩
            refine ⟨t, [u, v], rfl, SqT.of upd_same, rfl, ?_⟩
            exact ⟨_, _, rfl, _, _, rfl, rfl, rfl, _, rfl, _, rfl, key km al ht h1 h2⟩
          · have r := k2 H3 km.1
            have q := km.2
            rw [zl] at q
            rw [okFits_at nl, q] at r
            exact r
      · rw [decide_eq_false (fun h : V.int ↑((sorts fm.2.2).map fun x => V.str x.w).length = V.int ↑xs.length => nl (by have := V.int.inj h; rw [lS] at this; exact Int.ofNat.inj this)), if_neg Bool.false_ne_true]
        have r := k2 H' (KM.refl tb2)
        rw [okFits_no nl] at r
        exact r
end
end F4

set_option maxRecDepth 100000
set_option maxHeartbeats 800000
namespace F4
open PySem PySem.Spec PyProof.Rows L2 GxR Gd TL My
/-! ### the words of a row -/
def Wok (z : Str) : Prop := 1 ≤ z.length ∧ z.length ≤ 7 ∧ (32 : Nat) ∉ tl z
theorem lits_wok : ∀ z ∈ lits, Wok z := by
  have key : ∀ z ∈ lits, (decide (1 ≤ z.length) && decide (z.length ≤ 7) && !(tl z).contains 32) = true := by decide +kernel
  intro z hz
  have k := key z hz
  simp only [Bool.and_eq_true, decide_eq_true_eq, Bool.not_eq_true', List.contains_eq_mem, decide_eq_false_iff_not] at k
  exact ⟨k.1.1, k.1.2, k.2⟩
theorem things_wok : ∀ z ∈ things, Wok z := by
  have key : ∀ z ∈ things, (decide (1 ≤ z.length) && decide (z.length ≤ 7) && !(tl z).contains 32) = true := by decide +kernel
  intro z hz
  have k := key z hz
  simp only [Bool.and_eq_true, decide_eq_true_eq, Bool.not_eq_true', List.contains_eq_mem, decide_eq_false_iff_not] at k
  exact ⟨k.1.1, k.1.2, k.2⟩
theorem kinds_wok : ∀ z ∈ kinds, Wok z := by
  have key : ∀ z ∈ kinds, (decide (1 ≤ z.length) && decide (z.length ≤ 7) && !(tl z).contains 32) = true := by decide +kernel
  intro z hz
  have k := key z hz
  simp only [Bool.and_eq_true, decide_eq_true_eq, Bool.not_eq_true', List.contains_eq_mem, decide_eq_false_iff_not] at k
  exact ⟨k.1.1, k.1.2, k.2⟩
theorem name_wok {z : Str} (h : NameOk z) : Wok z := ⟨h.1, by have := h.2.1; omega, fun hm => by
  have := List.all_eq_true.mp h.2.2 32 hm
  exact absurd this (by decide)⟩
theorem num_wok {i : Int} (h0 : 0 ≤ i) (h1 : i ≤ 999999) : Wok (Str.ofString (toString i)) ∧ (Str.ofString (toString i)).length ≤ 6 := by
  obtain ⟨n, rfl⟩ := Int.eq_ofNat_of_zero_le h0
  have l6 := numL_len (n := n) (k := 6) (by decide) (by omega)
  have e : (Str.ofString (toString ((n : Nat) : Int))).length = (numL n).length := by rw [len_tl, tl_num]
  refine ⟨⟨?_, by omega, by rw [tl_num]; exact numL_free (.inl (by decide))⟩, by omega⟩
  rw [e]
  exact List.length_pos_iff.mpr (numL_ne n)
theorem pa_wok {x : So} {p : Pa} (h : x.ok p) : Wok p.t := by
  cases x <;> cases p <;> try exact False.elim h
  · exact name_wok h
  · exact (num_wok h.1 h.2).1
  · exact things_wok _ h
  · exact kinds_wok _ h
theorem pa_log {x : So} {p : Pa} (h : x.ok p) : ∀ i, p = .n i → i.natAbs.log2 < 1920 := by
  rintro i rfl
  cases x <;> try exact False.elim h
  have h : 0 ≤ i ∧ i ≤ 999999 := h
  have : i.natAbs < 2 ^ 20 := by omega
  by_cases e : i.natAbs = 0
  · rw [e]; decide
  · have := (Nat.log2_lt e).mpr this
    omega
theorem row_wok {f : List Fw} {ps : List Pa} (h : Fit f ps) (hl : ∀ x ∈ f, InF x) : ∀ z ∈ row f ps, Wok z := by
  induction h with
  | nil => intro z hz; cases hz
  | @lit z f ps _ ih =>
    intro y hy
    rcases List.mem_cons.mp hy with rfl | hy
    · exact lits_wok _ (hl _ (List.mem_cons_self ..))
    · exact ih (fun x hx => hl x (List.mem_cons_of_mem _ hx)) y hy
  | so hx _ ih =>
    intro y hy
    rcases List.mem_cons.mp hy with rfl | hy
    · exact pa_wok hx
    · exact ih (fun x hx => hl x (List.mem_cons_of_mem _ hx)) y hy
theorem sum_wok : ∀ {l : List Str}, (∀ z ∈ l, Wok z) → (l.map (·.length)).sum ≤ 7 * l.length
  | [], _ => Nat.le_refl _
  | z :: l, h => by
    have a := (h z (List.mem_cons_self ..)).2.1
    have b := sum_wok (l := l) fun y hy => h y (List.mem_cons_of_mem _ hy)
    show z.length + (l.map (·.length)).sum ≤ 7 * (l.length + 1)
    omega
theorem row_split {l : List Str} (hn : l ≠ []) (h : ∀ z ∈ l, Wok z) : Txt.split (Txt.join (Str.ofString " ") l) (Str.ofString " ") = l :=
  split_join (s := 32) (S := []) (by decide +kernel) (by decide +kernel) hn fun p hp => (h p hp).2.2
section
variable {P : Program} {w : World} {K : PySem.W.Frag} {mg : Str → Option Value} {base : Heap} {P1 P2 P3 aSORTS aFORMS : Addr} {fs : So → Addr} {es : Array DictEntry} {nS : Nat} {tM : Tok}
theorem call_str_is {X : Cx} : CallR X (.type "str") (fun xs H Q => ∃ p : Pa, xs = [p.v] ∧ (∀ i, p = .n i → i.natAbs.log2 < 1920) ∧ Q (.str p.t) H) := by
  intro pins s σ H xs us Q I rs h
  obtain ⟨p, rfl, hi, h⟩ := h
  cases p with
  | s z => exact SkE.call_str_str pins s σ H _ us Q I rs ⟨z, rfl, h⟩
  | n i => exact call_str_int pins s σ H _ us Q I rs ⟨i, rfl, hi i rfl, h⟩
abbrev s_write_row : Stmt := top 20
theorem sc_write_row : FnScope ["form", "parts", "left", "words", "word"] ["form", "parts"] (defScope s_write_row) := ⟨rfl, rfl, rfl, by decide +kernel, rfl, by decide +kernel, by decide +kernel⟩
def spWrite (K : PySem.W.Frag) : Sp := fun vs H Q _ => ∃ (fm : String × String × List Fw) (b : Addr) (ps : List Pa), vs = [.str (Str.ofString fm.2.1), .ref b] ∧ fm ∈ forms ∧ Fit fm.2.2 ps ∧ SqT K H b (ps.map Pa.v) ∧ ∀ H', Same H H' → Q (.str (PySem.Txt.join (Str.ofString " ") (row fm.2.2 ps))) H'
theorem ok_write_row {f : Addr} {fd : FuncData} (F : Fun K "write_row" "write_row" s_write_row f fd) (T : Txt mg) (gSORTS : mg "SORTS" = some (.ref aSORTS)) (SD : SoD K w aSORTS fs es nS) : FnOk P w K mg base CX0 1 f fd ["form", "parts"] (spWrite K) := by
  refine F.ok sc_write_row (fun vs H Q E h => ?_) (fun cdv A outer s H vs Q E hr h => ?_)
  · obtain ⟨fm, b, ps, rfl, _⟩ := h
    rfl
  · obtain ⟨fm, b, ps, rfl, hfm, fit, hb, k⟩ := h
    refine ⟨_, pss_cons (ps_set (i := 2) sc_write_row.nd rfl (Or.inl rfl) (pe_callTy call_list_of (by rfl) T.list_ (by decide +kernel) (pa_cons (pv 1) pa_nil)))
      (pss_cons (ps_set (i := 3) sc_write_row.nd rfl (Or.inl rfl) (pe_lst pa_nil))
      (pss_cons (ps_for PassesOwn.never rfl (pi_list (pe_split (pv 0) pe_str)) (pg_name (i := 4) sc_write_row.nd rfl (Or.inl rfl)) (pss_one (ps_expr (pe_bm PySem.F.plainAttrs_list PySem.F.slot_list_append PySem.F.type_list_append mt_append (pv 3) (pa_cons (pe_ifExp (pt_cmpR (inKD rfl rfl SD.d) (pv 4) (pe_glob (v := .ref aSORTS) (by rfl) gSORTS rfl) rfl) (pe_callTy call_str_is (by rfl) T.str_ (by decide +kernel) (pa_cons (pe_bm PySem.F.plainAttrs_list PySem.F.slot_list_pop PySem.F.type_list_pop mt_popAt (pv 2) (pa_cons pe_int pa_nil)) pa_nil)) (pv 4)) pa_nil)))))
      (pss_one (ps_ret (pe_join pe_str (pv 3)))))), ?_⟩
    have l6 := forms_len fm hfm
    refine ⟨_, rfl, b, _, rfl, .inr hb, fun l hl => ?_⟩
    refine ⟨Nat.zero_le _, fun m hm => ?_⟩
    have nml : m ≠ l := fun z => by rw [z, upd_same] at hm; cases hm
    have hmH : H m = none := by rw [upd_ne nml] at hm; exact hm
    refine ⟨_, rfl, ⟨_, rfl⟩, _, _, rfl, rfl, rfl, Nat.le_trans (Nat.add_le_add_right (forms_short fm hfm) 2) (by decide), fun p hp0 => ?_⟩
    rw [form_split fm hfm]
    have npm : p ≠ m := fun z => by rw [z, upd_same] at hp0; cases hp0
    have npl : p ≠ l := fun z => by rw [z, upd_ne nml.symm, upd_same] at hp0; cases hp0
    have hw : upd (upd (upd H l (.lst (ps.map Pa.v))) m (.lst [])) p (.lst ((fm.2.2.map Fw.w).map V.str)) p = some (.lst ((fm.2.2.map Fw.w).map V.str)) := upd_same
    have el : upd (upd (upd H l (.lst (ps.map Pa.v))) m (.lst [])) p (.lst ((fm.2.2.map Fw.w).map V.str)) l = some (.lst (ps.map Pa.v)) := by rw [upd_ne npl.symm, upd_ne nml.symm, upd_same]
    have em : upd (upd (upd H l (.lst (ps.map Pa.v))) m (.lst [])) p (.lst ((fm.2.2.map Fw.w).map V.str)) m = some (.lst []) := by rw [upd_ne npm.symm, upd_same]
    have kH : Same H (upd (upd (upd H l (.lst (ps.map Pa.v))) m (.lst [])) p (.lst ((fm.2.2.map Fw.w).map V.str))) := fun c o h => by
      rw [same_alloc hp0 c o (same_alloc hm c o (same_alloc hl c o h))]
    have hpH : H p = none := by rw [upd_ne npm, upd_ne npl] at hp0; exact hp0
    generalize upd (upd (upd H l (.lst (ps.map Pa.v))) m (.lst [])) p (.lst ((fm.2.2.map Fw.w).map V.str)) = H1 at hw el em kH ⊢
    refine ⟨p, rfl, ⟨_, SqL.of hw⟩, for_it (D := ⟨_, _, fun _ _ => False, fun _ _ => False⟩) (walk_list (K := K) (xs := (fm.2.2.map Fw.w).map V.str))
      (fun i σ H' => ∃ (x : Option V) (rest : List Pa) (done : List Str), σ = [some (.str (Str.ofString fm.2.1)), some (.ref b), some (.ref l), some (.ref m), x] ∧ H' l = some (.lst (rest.map Pa.v)) ∧ H' m = some (.lst (done.map V.str)) ∧ H' p = some (.lst ((fm.2.2.map Fw.w).map V.str)) ∧ Fit (fm.2.2.drop i) rest ∧ done ++ row (fm.2.2.drop i) rest = row fm.2.2 ps ∧ done.length = i ∧ Same H H')
      ⟨_, ps, [], rfl, el, em, hw, fit, rfl, rfl, kH⟩ (fun i σ H' _ h => by obtain ⟨_, _, _, _, _, _, h, _⟩ := h; exact SqL.of h) ?_ ?_⟩
    · rintro i v σ H' H'' hi ⟨x, rest, done, rfl, h1, h2, h3, h4, h5, h6, h7⟩ ⟨rfl, hv⟩
      obtain ⟨fw, hx⟩ : ∃ fw, fm.2.2[i]? = some fw := ⟨_, List.getElem?_eq_getElem (by simpa using hi)⟩
      have ev : v = .str fw.w := by
        rw [List.getElem?_map, List.getElem?_map, hx] at hv
        exact (Option.some.inj hv).symm
      subst ev
      have i6 : i < 6 := by
        have : i < fm.2.2.length := by simpa using hi
        omega
      obtain ⟨r, er, hr2⟩ := SD.at (forms_in fm hfm fw (List.mem_of_getElem? hx))
      have ed := drop_atG hx
      rw [ed] at h4 h5
      refine ⟨_, rfl, .inl ⟨rfl, _, SqL.of h2⟩, _, rfl, _, r, rfl, rfl, er, _, rfl, ?_⟩
      rw [hr2]

      have put : ∀ (H2 : Hp) (z : Str) (rest' : List Pa), Same H H2 → H2 l = some (.lst (rest'.map Pa.v)) → H2 m = some (.lst (done.map V.str)) → H2 p = some (.lst ((fm.2.2.map Fw.w).map V.str)) → Fit (fm.2.2.drop (i + 1)) rest' → done ++ z :: row (fm.2.2.drop (i + 1)) rest' = row fm.2.2 ps →
          rAppend (.ref m) [.str z] H2 fun _ H' => ∃ (x : Option V) (rest : List Pa) (done : List Str), [some (V.str (Str.ofString fm.2.1)), some (.ref b), some (.ref l), some (.ref m), some (.str fw.w)] = [some (.str (Str.ofString fm.2.1)), some (.ref b), some (.ref l), some (.ref m), x] ∧ H' l = some (.lst (rest.map Pa.v)) ∧ H' m = some (.lst (done.map V.str)) ∧ H' p = some (.lst ((fm.2.2.map Fw.w).map V.str)) ∧ Fit (fm.2.2.drop (i + 1)) rest ∧ done ++ row (fm.2.2.drop (i + 1)) rest = row fm.2.2 ps ∧ done.length = i + 1 ∧ Same H H' := by
        intro H2 z rest' s2 a1 a2 a3 a4 a5
        refine ⟨m, _, _, rfl, rfl, a2, ?_, _, rest', done ++ [z], rfl, by rw [upd_ne nml.symm]; exact a1, ?_, by rw [upd_ne npm]; exact a3, a4, ?_, ?_, fun c o h => by rw [upd_ne (ne_of_none h hmH)]; exact s2 c o h⟩
        · rw [List.length_map, h6]; exact Nat.lt_trans i6 (by decide)
        · rw [upd_same, List.map_append]; rfl
        · rw [List.append_assoc]; exact a5
        · rw [List.length_append, h6]; rfl
      cases fw with
      | lit z =>
        cases h4 with
        | lit h4 => exact ⟨_, rfl, put _ z rest h7 h1 h2 h3 h4 h5⟩
      | so y =>
        cases h4 with
        | @so _ _ q rest' ok4 h4 =>
          refine ⟨_, rfl, .inl ⟨rfl, _, SqL.of h1⟩, l, _, 0, 0, q.v, rfl, rfl, h1, by decide, by decide, by simp [seqIndex?], rfl, q, rfl, pa_log ok4, ?_⟩
          refine put _ q.t rest' (fun c o h => by rw [upd_ne (ne_of_none h hl)]; exact h7 c o h) ?_ (by rw [upd_ne nml]; exact h2) (by rw [upd_ne npl]; exact h3) h4 h5
          rw [upd_same]
          rfl
    · rintro σ H' ⟨x, rest, done, rfl, h1, h2, h3, h4, h5, h6, h7⟩
      rw [List.length_map, List.length_map] at h5 h4 h6
      have e0 : fm.2.2.drop fm.2.2.length = [] := List.drop_length
      rw [e0] at h5
      have e1 : row [] rest = [] := by cases rest <;> rfl
      rw [e1, List.append_nil] at h5
      subst h5
      have wk := row_wok fit (forms_in fm hfm)
      have s7 := sum_wok wk
      have rl := row_len fit
      refine ⟨⟨_, rfl⟩, _, rfl, _, m, _, rfl, rfl, .inl (SqL.of h2), ?_, k _ h7⟩
      rw [show (Str.ofString " ").length = 1 by decide +kernel, rl] at *
      omega
end
end F4

set_option maxRecDepth 100000
set_option maxHeartbeats 800000
namespace F4
open PySem PySem.Spec PyProof.Rows L2 GxR Gd TL My
def dg (c : Nat) : Bool := decide (48 ≤ c) && decide (c ≤ 57)
theorem dg_eq (c : Nat) : (!decide ([c] < [48]) && !decide ([57] < [c])) = dg c := by
  unfold dg
  rw [Bool.eq_iff_iff]
  simp only [Bool.and_eq_true, Bool.not_eq_true', decide_eq_false_iff_not, decide_eq_true_eq, one_lt]
  omega
theorem dg_fun : (fun c : Nat => !decide ([c] < (Str.ofString "0").cps.toList) && !decide ((Str.ofString "9").cps.toList < [c])) = dg := by
  funext c
  rw [show (Str.ofString "0").cps.toList = [48] by decide +kernel, show (Str.ofString "9").cps.toList = [57] by decide +kernel]
  exact dg_eq c
theorem text_no {x : So} {z : Str} (h : x.ok (.s z)) : z.cps.toList.all dg = false := by
  cases x with
  | name =>
    obtain ⟨h1, h2, h3⟩ := h
    cases e : z.cps.toList with
    | nil =>
      rw [len_tl] at h1
      have : tl z = [] := e
      rw [this] at h1
      exact absurd h1 (by decide)
    | cons c r =>
      rw [e] at h3
      have h3 := (Bool.and_eq_true_iff.mp h3).1
      unfold lc at h3
      simp at h3
      rw [List.all_cons]
      have : dg c = false := by
        unfold dg
        simp
        omega
      rw [this]
      rfl
  | number => exact False.elim h
  | thing =>
    have key : ∀ z ∈ things, z.cps.toList.all dg = false := by decide +kernel
    exact key z h
  | kind =>
    have key : ∀ z ∈ kinds, z.cps.toList.all dg = false := by decide +kernel
    exact key z h
theorem num_yes (n : Nat) : (Str.ofString (toString ((n : Nat) : Int))).cps.toList.all dg = true := by
  rw [show (Str.ofString (toString ((n : Nat) : Int))).cps.toList = numL n from tl_num n]
  refine List.all_eq_true.mpr fun c hc => ?_
  have := numL_digits n c hc
  unfold dg
  simp
  omega
def WOk (z : Str) : Prop := z.length ≤ 200000 ∧ Good z
theorem WOk.th {H : Hp} {z : Str} (h : WOk z) : Th H (.str z) := .str z (by have := h.1; omega) h.2
theorem WOk.line {z : Str} (h : WOk z) : z.length ≤ sizeLine := small_line (by have := h.1; omega)
theorem fold_lt : ∀ (l : List Nat) (a : Nat), NumText.AllDigits l → l.foldl (fun acc c => acc * 10 + (c - 48)) a < (a + 1) * 10 ^ l.length
  | [], a, _ => by simp
  | c :: r, a, h => by
    have hc := h c (List.mem_cons_self ..)
    have ih := fold_lt r (a * 10 + (c - 48)) fun x hx => h x (List.mem_cons_of_mem _ hx)
    rw [List.foldl_cons, List.length_cons, Nat.pow_succ, Nat.mul_comm (10 ^ r.length) 10, ← Nat.mul_assoc]
    exact Nat.lt_of_lt_of_le ih (Nat.mul_le_mul_right _ (by omega))
theorem vals_lt {l : List Nat} (h : NumText.AllDigits l) : NumText.digitsVal l < 10 ^ l.length := by
  have := fold_lt l 0 h
  rw [Nat.zero_add, Nat.one_mul] at this
  exact this
theorem all_dg {l : List Nat} : l.all dg = true ↔ NumText.AllDigits l := by
  refine ⟨fun h c hc => ?_, fun h => List.all_eq_true.mpr fun c hc => ?_⟩
  · have := List.all_eq_true.mp h c hc
    unfold dg at this
    simp at this
    omega
  · have := h c hc
    unfold dg
    simp
    omega
/-- the number that a word's figures come to -/
def valOf (z : Str) : Nat := NumText.digitsVal (tl z)
def digs (z : Str) : Bool := decide (1 ≤ z.length) && decide (z.length ≤ 6) && (tl z).all dg
def partOf (z : Str) : Pa := if digs z = true then (if Str.ofString (toString ((valOf z : Nat) : Int)) = z then .n ((valOf z : Nat) : Int) else .s z) else .s z
theorem int_read {z : Str} (h : digs z = true) : intText? z = some ((valOf z : Nat) : Int) := by
  unfold digs at h
  simp only [Bool.and_eq_true, decide_eq_true_eq] at h
  refine intText_digits (all_dg.mp h.2) (fun e => ?_) (by omega)
  have e : tl z = [] := e
  have := h.1.1
  rw [len_tl, e] at this
  exact absurd this (by decide)
theorem valOf_lt {z : Str} (h : digs z = true) : valOf z < 10 ^ 6 := by
  unfold digs at h
  simp only [Bool.and_eq_true, decide_eq_true_eq] at h
  have l := h.1.2
  rw [len_tl] at l
  have := vals_lt (all_dg.mp h.2)
  exact Nat.lt_of_lt_of_le this (Nat.pow_le_pow_right (by decide) l)
section
variable {P : Program} {w : World} {K : PySem.W.Frag} {mg : Str → Option Value} {base : Heap} {P1 P2 P3 aSORTS aFORMS : Addr} {fs : So → Addr} {es : Array DictEntry} {nS : Nat} {tM : Tok}
abbrev s_part_of : Stmt := top 22
theorem sc_part_of : FnScope ["word", "number", "sign"] ["word"] (defScope s_part_of) := ⟨rfl, rfl, rfl, by decide +kernel, rfl, by decide +kernel, by decide +kernel⟩
def spPart (T : List Addr) : Sp := fun vs H Q _ => ∃ (z : Str), vs = [.str z] ∧ WOk z ∧ Tabs T H ∧ ∀ H', KM T H H' → Q (partOf z).v H'
theorem ok_part_of {T0 : List Addr} {f c : Addr} {oc kV doc pm ct : Value} {od an : Option Addr} {osl : Array (Option Value)}
    (lk : K.lookup f = some ⟨oc, od, .func (PySem.W.fnOf "_part_of" "_part_of" (defArgs s_part_of) (defBody s_part_of) (defScope s_part_of) .none kV doc pm an (.ref c) ct), osl⟩) (hcd : PySem.W.codeIn K (.ref c) "_part_of" = true)
    (hp : P2 ∈ T0) (T : Txt mg) (TB : TabB base mg c P2) (gMOST : mg "MOST_NUMBER" = some (.int 999999 tM)) : FnOk P w K mg base CX0 1 f (PySem.W.fnOf "_part_of" "_part_of" (defArgs s_part_of) (defBody s_part_of) (defScope s_part_of) .none kV doc pm an (.ref c) ct) ["word"] (spPart T0) := by
  refine fn_of lk hcd sc_part_of (fun vs H Q E h => ?_) (fun A outer s H vs Q E hr h => ?_)
  · obtain ⟨z, rfl, _⟩ := h
    rfl
  · obtain ⟨z, rfl, wz, tb, k⟩ := h
    refine ⟨_, pss_cons (ps_if (PW.pt (pw_or (pt_not (pt_chain op_le op_le pe_int (pe_callB call_len_str (by rfl) T.len_ PySem.boot_len (pa_cons (pv 0) pa_nil)) (pe_callB call_len_str (by rfl) T.len_ PySem.boot_len (pa_cons (pe_callTy call_str_int (by rfl) T.str_ (by decide +kernel) (pa_cons (pe_glob (v := .int 999999) (by rfl) gMOST ⟨_, rfl⟩) pa_nil)) pa_nil)))) (pw_or1 (pt_not (pt_val (pe_allS hr (by rfl) T.all_ (by decide +kernel) TB rfl ⟨rfl, rfl, by decide +kernel, by decide +kernel, by decide +kernel, fun y hy e => absurd e (no_free y hy)⟩ (pv 0) (elt_between (by rfl) (by decide +kernel)) (fun _ => rfl))))))) (pss_one (ps_ret (pv 0))) pss_nil)
      (pss_cons (ps_set (i := 1) sc_part_of.nd rfl (Or.inl rfl) (pe_callTy call_int_str (by rfl) T.int_ (by decide +kernel) (pa_cons (pv 0) pa_nil)))
      (pss_one (ps_ret (pe_ifExp (pt_cmpR op_eq (pe_callTy call_str_int (by rfl) T.str_ (by decide +kernel) (pa_cons (pv 1) pa_nil)) (pv 0) (nomark _)) (pv 1) (pv 0))))), ?_⟩
    have L6 : (Str.ofString (toString (999999 : Int))).length = 6 := by decide +kernel
    have no : digs z = false → ∀ H', KM T0 H H' → Q (.str z) H' := fun h H' km => by
      have q := k H' km
      unfold partOf at q
      rw [h, if_neg Bool.false_ne_true] at q
      exact q
    rw [dg_fun]
    refine ⟨_, rfl, z, rfl, wz.line, _, _, rfl, rfl, _, rfl, ite2 (fun c0 => ?_) (fun c0 => ?_)⟩
    · have c0' : (1 : Int) ≤ (z.length : Int) := of_decide_eq_true c0
      refine ⟨_, rfl, by decide +kernel, _, rfl, by rw [L6]; decide, ?_⟩
      rw [L6]
      refine ⟨_, _, rfl, rfl, _, rfl, ite2 (fun c1 => ?_) (fun c1 => ?_)⟩
      · have c1' : ¬ (z.length : Int) ≤ 6 := by simpa using c1
        refine iteT ⟨_, rfl, no ?_ H (KM.refl tb)⟩
        unfold digs
        rw [decide_eq_false (by omega : ¬ z.length ≤ 6)]
        simp
      · have c1' : (z.length : Int) ≤ 6 := by simpa using c1
        refine ⟨_, rfl, z, rfl, tb P2 hp, fun H2 ht => ⟨_, rfl, ?_⟩⟩
        have km := KM.tabbed tb hp ht
        by_cases hd : z.cps.toList.all dg = true
        · rw [hd]
          have hg : digs z = true := by
            unfold digs
            rw [decide_eq_true (by omega : 1 ≤ z.length), decide_eq_true (by omega : z.length ≤ 6)]
            exact hd
          have vl := valOf_lt hg
          have lg : ((valOf z : Nat) : Int).natAbs.log2 < 1920 := by
            rw [Int.natAbs_natCast]
            by_cases e : valOf z = 0
            · rw [e]; decide
            · have := (Nat.log2_lt e).mpr (show valOf z < 2 ^ 20 by omega)
              omega
          refine iteF ⟨_, rfl, _, _, rfl, int_read hg, by omega, ?_⟩
          refine ⟨_, rfl, _, rfl, lg, _, rfl, rfl, _, rfl, ?_⟩
          have q := k H2 km
          unfold partOf at q
          rw [hg, if_pos rfl] at q
          by_cases e : Str.ofString (toString ((valOf z : Nat) : Int)) = z
          · rw [if_pos e] at q
            rw [decide_eq_true (by rw [e])]
            exact ⟨_, rfl, q⟩
          · rw [if_neg e] at q
            rw [decide_eq_false (fun h => e (V.str.inj h))]
            exact ⟨_, rfl, q⟩
        · have hd : z.cps.toList.all dg = false := by simpa using hd
          rw [hd]
          refine iteT ⟨_, rfl, no ?_ H2 km⟩
          unfold digs
          rw [show (tl z).all dg = false from hd]
          simp
    · have c0' : ¬ (1 : Int) ≤ (z.length : Int) := by simpa using c0
      refine ⟨_, rfl, iteT ⟨_, rfl, no ?_ H (KM.refl tb)⟩⟩
      unfold digs
      rw [decide_eq_false (by omega : ¬ 1 ≤ z.length)]
      simp
end
end F4

set_option maxRecDepth 100000
set_option maxHeartbeats 800000
namespace F4
open PySem PySem.Spec PyProof.Rows L2 GxR Gd TL My
theorem joinL_of {S : List Nat} {c : Nat} : ∀ {ps : List (List Nat)} {p : List Nat}, p ∈ ps → c ∈ p → c ∈ joinL S ps
  | [], _, h, _ => by cases h
  | [q], p, h, hc => by
    obtain rfl := List.mem_singleton.mp h
    exact hc
  | q :: q2 :: r, p, h, hc => by
    show c ∈ q ++ (S ++ joinL S (q2 :: r))
    rcases List.mem_cons.mp h with rfl | h
    · exact List.mem_append.mpr (.inl hc)
    · exact List.mem_append.mpr (.inr (List.mem_append.mpr (.inr (joinL_of h hc))))
theorem split_mem {x y p : Str} (h : p ∈ PySem.Txt.split x y) {c : Nat} (hc : c ∈ tl p) : c ∈ tl x := by
  have e : tl (Str.join y (PySem.Txt.split x y)) = tl x := by rw [StrLaws.join_split]
  rw [← e, tl_join]
  exact joinL_of (List.mem_map.mpr ⟨p, h, rfl⟩) hc
theorem split_wok {x y : Str} (w : WOk x) {p : Str} (h : p ∈ PySem.Txt.split x y) : WOk p :=
  ⟨Nat.le_trans (PyProof.Rows.part_short h) w.1, fun c hc => w.2 c (split_mem h hc)⟩
theorem split_ne (x y : Str) : ∃ k r, PySem.Txt.split x y = k :: r := by
  have := PyProof.Rows.split_pos x y
  match e : PySem.Txt.split x y with
  | [] => rw [e] at this; simp at this
  | k :: r => exact ⟨k, r, rfl⟩
def wordsOf (z : Str) : List Str := PySem.Txt.split z (Str.ofString " ")

theorem tl_inj1 {a b : Str} (h : tl a = tl b) : a = b := by
  rw [← mk_tl a, h, mk_tl]
theorem len_ne {z : Str} (h : z ≠ Str.empty) : z.length ≠ 0 := fun e => h (tl_inj1 (by
  have : (tl z).length = 0 := by rw [tl_len]; exact e
  rw [List.length_eq_zero_iff.mp this]
  rfl))

theorem drop_cons {α : Type} {l r : List α} {i : Nat} {y : α} (h : l.drop i = y :: r) : l[i]? = some y ∧ l.drop (i + 1) = r := by
  refine ⟨?_, ?_⟩
  · have := congrArg (fun z => z[0]?) h
    simpa [List.getElem?_drop] using this
  · have := congrArg (fun z => z.drop 1) h
    simpa [List.drop_drop] using this
theorem forms_pos : ∀ f ∈ forms, 0 < f.2.2.length := by decide +kernel
theorem row_ne {fm : String × String × List Fw} {ps : List Pa} (hfm : fm ∈ forms) (fit : Fit fm.2.2 ps) : row fm.2.2 ps ≠ [] := fun z => by
  have h := forms_pos fm hfm
  have l := row_len fit
  rw [z] at l
  have l : 0 = fm.2.2.length := l
  omega
def rowT (fm : String × String × List Fw) (ps : List Pa) : Str := Txt.join (Str.ofString " ") (row fm.2.2 ps)
theorem rowT_len {fm : String × String × List Fw} {ps : List Pa} (hfm : fm ∈ forms) (fit : Fit fm.2.2 ps) : (rowT fm ps).length ≤ 48 := by
  have h := forms_len fm hfm
  have s7 := sum_wok (row_wok fit (forms_in fm hfm))
  have l := row_len fit
  have j := My.join_len (Str.ofString " ") (row fm.2.2 ps)
  rw [show (Str.ofString " ").length = 1 by decide +kernel] at j
  unfold rowT
  omega
theorem rowT_split {fm : String × String × List Fw} {ps : List Pa} (hfm : fm ∈ forms) (fit : Fit fm.2.2 ps) : Txt.split (rowT fm ps) (Str.ofString " ") = row fm.2.2 ps := row_split (row_ne hfm fit) (row_wok fit (forms_in fm hfm))
/-- the words as the program reads them: literals held, parts as they come -/
def readGo : List Fw → List Str → Option (List Pa)
  | [], [] => some []
  | .lit z :: f, w :: ws => if z = w then readGo f ws else none
  | .so _ :: f, w :: ws => (readGo f ws).map (partOf w :: ·)
  | _, _ => none
/-- the parts that the words write -/
def rdGo : List Fw → List Str → Option (List Pa)
  | [], [] => some []
  | .lit z :: f, w :: ws => if z = w then rdGo f ws else none
  | .so x :: f, w :: ws => if x.okB (partOf w).v = true then (rdGo f ws).map (partOf w :: ·) else none
  | _, _ => none
def rowOf (f : List Fw) (z : Str) : Option (List Pa) := rdGo f (wordsOf z)
theorem readGo_len : ∀ {f : List Fw} {ws : List Str} {ps : List Pa}, readGo f ws = some ps → (sorts f).length = ps.length ∧ f.length = ws.length
  | [], [], ps, h => by
    obtain rfl := Option.some.inj h
    exact ⟨rfl, rfl⟩
  | [], _ :: _, _, h => by cases h
  | .lit z :: f, [], _, h => by cases h
  | .so x :: f, [], _, h => by cases h
  | .lit z :: f, w :: ws, ps, h => by
    unfold readGo at h
    split at h
    · obtain ⟨a, b⟩ := readGo_len h
      exact ⟨a, by rw [List.length_cons, List.length_cons, b]⟩
    · cases h
  | .so x :: f, w :: ws, ps, h => by
    unfold readGo at h
    cases e : readGo f ws with
    | none => rw [e] at h; cases h
    | some qs =>
      rw [e] at h
      obtain rfl := Option.some.inj h
      obtain ⟨a, b⟩ := readGo_len e
      exact ⟨by show (sorts f).length + 1 = qs.length + 1; rw [a], by rw [List.length_cons, List.length_cons, b]⟩
theorem rdGo_eq : ∀ (f : List Fw) (ws : List Str), rdGo f ws = (readGo f ws).bind fun ps => if okFits f (ps.map Pa.v) = true then some ps else none
  | [], [] => rfl
  | [], _ :: _ => rfl
  | .lit z :: f, [] => rfl
  | .so x :: f, [] => rfl
  | .lit z :: f, w :: ws => by
    unfold rdGo readGo
    split
    · exact rdGo_eq f ws
    · rfl
  | .so x :: f, w :: ws => by
    unfold rdGo readGo
    rw [rdGo_eq f ws]
    cases e : readGo f ws with
    | none => split <;> rfl
    | some ps =>
      show (if x.okB (partOf w).v = true then ((if okFits f (ps.map Pa.v) = true then some ps else none) : Option (List Pa)).map (partOf w :: ·) else none) = (if okFits (.so x :: f) ((partOf w).v :: ps.map Pa.v) = true then some (partOf w :: ps) else none)
      rw [okFits_so]
      cases x.okB (partOf w).v <;> cases okFits f (ps.map Pa.v) <;> rfl
theorem readGo_lens {f : List Fw} {ws : List Str} (h : f.length ≠ ws.length) : readGo f ws = none := by
  cases e : readGo f ws with
  | none => rfl
  | some ps => exact absurd (readGo_len e).2 h
theorem partOf_th {H : Hp} {z : Str} (h : WOk z) : Th H (partOf z).v := by
  unfold partOf
  split
  · split
    · exact .int _
    · exact h.th
  · exact h.th
theorem rdGo_fit : ∀ {f : List Fw} {ws : List Str} {ps : List Pa}, rdGo f ws = some ps → Fit f ps
  | [], [], ps, h => by
    obtain rfl := Option.some.inj h
    exact .nil
  | [], _ :: _, _, h => by cases h
  | .lit z :: f, [], _, h => by cases h
  | .so x :: f, [], _, h => by cases h
  | .lit z :: f, w :: ws, ps, h => by
    unfold rdGo at h
    split at h
    · exact .lit (rdGo_fit h)
    · cases h
  | .so x :: f, w :: ws, ps, h => by
    unfold rdGo at h
    split at h
    · rename_i o
      cases e : rdGo f ws with
      | none => rw [e] at h; cases h
      | some qs =>
        rw [e] at h
        obtain rfl := Option.some.inj h
        exact .so (okB_pa.mp o) (rdGo_fit e)
    · cases h
theorem readGo_lit {f : List Fw} {ws : List Str} {i : Nat} {z w : Str} (hf : f[i]? = some (.lit z)) (hw : ws[i]? = some w) : readGo (f.drop i) (ws.drop i) = if z = w then readGo (f.drop (i + 1)) (ws.drop (i + 1)) else none := by
  rw [drop_atG hf, drop_atG hw]
  rfl
theorem readGo_so {f : List Fw} {ws : List Str} {i : Nat} {x : So} {w : Str} (hf : f[i]? = some (.so x)) (hw : ws[i]? = some w) : readGo (f.drop i) (ws.drop i) = (readGo (f.drop (i + 1)) (ws.drop (i + 1))).map (partOf w :: ·) := by
  rw [drop_atG hf, drop_atG hw]
  rfl
section
variable {P : Program} {w : World} {K : PySem.W.Frag} {mg : Str → Option Value} {base : Heap} {aSORTS : Addr} {fs : So → Addr} {es : Array DictEntry} {nS : Nat}
abbrev s_read_row : Stmt := top 21
theorem sc_read_row : FnScope ["form", "row", "asked", "words", "parts", "sort", "word"] ["form", "row"] (defScope s_read_row) := ⟨rfl, rfl, rfl, by decide +kernel, rfl, by decide +kernel, by decide +kernel⟩
def spRead (T : List Addr) : Sp := fun vs H Q _ => ∃ (fm : Fm) (z : Str), vs = [.str (Str.ofString fm.2.1), .str z] ∧ fm ∈ forms ∧ WOk z ∧ Tabs T H ∧ (rowOf fm.2.2 z = none → ∀ H', KM T H H' → Q .non H') ∧ ∀ ps, rowOf fm.2.2 z = some ps → ∀ t H', H t = none → KM T H H' → H' t = some (.tup (ps.map Pa.v)) → Q (.ref t) H'
theorem ok_read_row {T0 : List Addr} {f f1 f2 : Addr} {fd fd1 fd2 : FuncData} (F : Fun K "read_row" "read_row" s_read_row f fd) (T : Txt mg) (gSORTS : mg "SORTS" = some (.ref aSORTS)) (SD : SoD K w aSORTS fs es nS)
    (Nfits : Fn K mg "fits" s_fits ["form", "parts"] f1 fd1) (Gfits : FnOk P w K mg base CX0 6 f1 fd1 ["form", "parts"] (spFits K T0))
    (Npart_of : Fn K mg "_part_of" s_part_of ["word"] f2 fd2) (Gpart_of : FnOk P w K mg base CX0 1 f2 fd2 ["word"] (spPart T0)) : FnOk P w K mg base CX0 7 f fd ["form", "row"] (spRead T0) := by
  refine F.ok sc_read_row (fun vs H Q E h => ?_) (fun cdv A outer s H vs Q E hr h => ?_)
  · obtain ⟨fm, z, rfl, _⟩ := h
    rfl
  · obtain ⟨fm, z, rfl, hfm, wz, tb, kn, k⟩ := h
    refine ⟨_, pss_cons (ps_par (i := 2) (j := 3) rfl sc_read_row.nd rfl rfl (by decide) rfl rfl (pa_cons (pe_split (pv 0) pe_str) (pa_cons (pe_split (pv 1) pe_str) pa_nil)) (by rfl))
      (pss_cons (ps_if (pt_cmpR op_ne (pe_callB call_len_seq (by rfl) T.len_ PySem.boot_len (pa_cons (pv 2) pa_nil)) (pe_callB call_len_seq (by rfl) T.len_ PySem.boot_len (pa_cons (pv 3) pa_nil)) (nomark _)) (pss_one (ps_ret pe_non)) pss_nil)
      (pss_cons (ps_set (i := 4) sc_read_row.nd rfl (Or.inl rfl) (pe_lst pa_nil))
      (pss_cons (ps_for PassesOwn.never rfl (pi_zip (by rfl) T.zip_ (pa_cons (pv 2) (pa_cons (pv 3) pa_nil))) (pg_tup (by rfl) (pgs_cons (pg_name (i := 5) sc_read_row.nd rfl (Or.inl rfl)) (pgs_cons (pg_name (i := 6) sc_read_row.nd rfl (Or.inl rfl)) pgs_nil))) (pss_one (ps_if (pt_cmpR (inKD rfl rfl SD.d) (pv 5) (pe_glob (v := .ref aSORTS) (by rfl) gSORTS rfl) rfl) (pss_one (ps_expr (pe_bm PySem.F.plainAttrs_list PySem.F.slot_list_append PySem.F.type_list_append mt_append (pv 4) (pa_cons (pe_call Gpart_of (hr.mono (by decide)) (by rfl) Npart_of.g Npart_of.kp Npart_of.b .nil pass0 (pa_cons (pv 6) pa_nil)) pa_nil)))) (pss_one (ps_if (pt_cmpR op_ne (pv 5) (pv 6) (nomark _)) (pss_one (ps_ret pe_non)) pss_nil)))))
      (pss_one (ps_ret (pe_ifExp (pt_val (pe_call Gfits (hr.mono (by decide)) (by rfl) Nfits.g Nfits.kp Nfits.b .nil pass0 (pa_cons (pv 0) (pa_cons (pv 4) pa_nil)))) (pe_callTy call_tuple_of (by rfl) T.tuple_ (by decide +kernel) (pa_cons (pv 4) pa_nil)) pe_non)))))), ?_⟩
    have l6 := forms_len fm hfm
    have wr : ∀ p ∈ wordsOf z, WOk p := fun p hp => split_wok wz hp
    have rq : rowOf fm.2.2 z = _ := rdGo_eq fm.2.2 (wordsOf z)
    refine ⟨_, rfl, ⟨_, rfl⟩, _, _, rfl, rfl, rfl, Nat.le_trans (Nat.add_le_add_right (forms_short fm hfm) 2) (by decide), fun a ha => ?_⟩
    rw [form_split fm hfm]
    refine ⟨_, rfl, ⟨_, rfl⟩, _, _, rfl, rfl, rfl, small_line (by have := wz.1; omega), fun b hb => ?_⟩
    rw [show Txt.split z (Str.ofString " ") = wordsOf z from rfl]
    have km0 : KM T0 H (upd (upd H a (.lst ((fm.2.2.map Fw.w).map V.str))) b (.lst ((wordsOf z).map V.str))) := (KM.alloc tb ha).trans (KM.alloc (KM.alloc tb ha).tab hb)
    have nba : b ≠ a := fun z => by rw [z, upd_same] at hb; cases hb
    have ea : upd (upd H a (.lst ((fm.2.2.map Fw.w).map V.str))) b (.lst ((wordsOf z).map V.str)) a = some (.lst ((fm.2.2.map Fw.w).map V.str)) := by rw [upd_ne nba.symm, upd_same]
    have eb : upd (upd H a (.lst ((fm.2.2.map Fw.w).map V.str))) b (.lst ((wordsOf z).map V.str)) b = some (.lst ((wordsOf z).map V.str)) := upd_same
    generalize upd (upd H a (.lst ((fm.2.2.map Fw.w).map V.str))) b (.lst ((wordsOf z).map V.str)) = H0 at km0 ea eb ⊢
    refine ⟨_, _, rfl, _, rfl, a, _, rfl, .inl (SqL.of ea), _, rfl, b, _, rfl, .inl (SqL.of eb), rfl, _, rfl, ?_⟩
    have lF : ((fm.2.2.map Fw.w).map V.str).length = fm.2.2.length := by rw [List.length_map, List.length_map]
    have lW : ((wordsOf z).map V.str).length = (wordsOf z).length := List.length_map _
    by_cases l5 : fm.2.2.length = (wordsOf z).length
    · have ln : ((fm.2.2.map Fw.w).map V.str).length = ((wordsOf z).map V.str).length := by rw [lF, lW, l5]
      rw [decide_eq_true (show V.int ↑((fm.2.2.map Fw.w).map V.str).length = V.int ↑((wordsOf z).map V.str).length by rw [ln])]
      refine iteF ⟨Nat.zero_le _, fun D hD => ?_⟩
      have nDa : D ≠ a := fun z => by rw [z, ea] at hD; cases hD
      have nDb : D ≠ b := fun z => by rw [z, eb] at hD; cases hD
      have nt0 : ∀ {H1 : Hp} {c : Addr} {xs : List V}, KM T0 H0 H1 → H0 c = some (.lst xs) → H1 c = some (.lst xs) := fun km e => KM.lst km0.tab km e
      refine ⟨_, rfl, _, rfl, a, b, _, _, rfl, SqL.of (by rw [upd_ne nDa.symm]; exact ea), SqL.of (by rw [upd_ne nDb.symm]; exact eb), for_it (D := ⟨_, _, fun _ _ => False, fun _ _ => False⟩) (walk_zip (K := K) (xs := (fm.2.2.map Fw.w).map V.str) (ys := (wordsOf z).map V.str) (n := ((fm.2.2.map Fw.w).map V.str).length) (by rw [← ln, Nat.min_self]))
        (fun i σ H' => ∃ (u5 u6 : Option V) (done : List Pa), σ = [some (.str (Str.ofString fm.2.1)), some (.str z), some (.ref a), some (.ref b), some (.ref D), u5, u6] ∧ KM T0 H0 H' ∧ H' D = some (.lst (done.map Pa.v)) ∧ done.length ≤ i ∧ (∀ p ∈ done, ∃ y, WOk y ∧ p = partOf y) ∧ readGo fm.2.2 (wordsOf z) = (readGo (fm.2.2.drop i) ((wordsOf z).drop i)).map (done ++ ·))
        ⟨_, _, [], rfl, KM.put km0.tab (KM.refl km0.tab) hD, upd_same, Nat.le_refl _, fun p hp => (by cases hp), by rw [List.drop_zero, List.drop_zero]; cases readGo fm.2.2 (wordsOf z) <;> rfl⟩ (fun i σ H' _ h => by obtain ⟨_, _, _, _, km, _⟩ := h; exact ⟨SqL.of (nt0 km ea), SqL.of (nt0 km eb)⟩) ?_ ?_⟩
      · rintro i v σ H' H'' hi ⟨u5, u6, done, rfl, km, eD, hl, hdn, hrd⟩ ⟨t, u, v, rfl, ht, rfl, h5, h6⟩
        have i5 : i < fm.2.2.length := by rw [← lF]; exact hi
        obtain ⟨x, hx⟩ : ∃ x, fm.2.2[i]? = some x := ⟨_, List.getElem?_eq_getElem i5⟩
        obtain ⟨y, hy⟩ : ∃ y, (wordsOf z)[i]? = some y := ⟨_, List.getElem?_eq_getElem (by omega)⟩
        have h5 : ((fm.2.2.map Fw.w).map V.str)[i]? = some u := h5
        have h6 : ((wordsOf z).map V.str)[i]? = some v := h6
        rw [List.getElem?_map, List.getElem?_map, hx] at h5
        rw [List.getElem?_map, hy] at h6
        obtain rfl := Option.some.inj h5
        obtain rfl := Option.some.inj h6
        obtain ⟨r, er, hr2⟩ := SD.at (forms_in fm hfm x (List.mem_of_getElem? hx))
        have kmt : KM T0 H0 (upd H' t (.tup [.str x.w, .str y])) := km.trans (KM.alloc km.tab ht)
        have eDt : upd H' t (.tup [.str x.w, .str y]) D = some (.lst (done.map Pa.v)) := by rw [upd_ne (fun z => by rw [← z, eD] at ht; cases ht)]; exact eD
        have te : SqT K (upd H' t (.tup [.str x.w, .str y])) t [.str x.w, .str y] := SqT.of upd_same
        generalize upd H' t (.tup [.str x.w, .str y]) = H3 at kmt eDt te ⊢
        refine ⟨t, _, rfl, te, rfl, _, _, rfl, _, _, rfl, rfl, _, rfl, _, r, rfl, rfl, er, _, rfl, ?_⟩
        rw [hr2]
        cases x with
        | lit z0 =>
          rw [readGo_lit hx hy] at hrd
          refine ⟨_, rfl, _, rfl, rfl, _, rfl, ?_⟩
          by_cases e : z0 = y
          · rw [if_pos e] at hrd
            rw [show (Fw.lit z0).w = z0 from rfl, decide_eq_true (by rw [e])]
            exact ⟨_, _, done, rfl, kmt, eDt, by omega, hdn, hrd⟩
          · rw [if_neg e] at hrd
            rw [show (Fw.lit z0).w = z0 from rfl, decide_eq_false (fun h => e (V.str.inj h))]
            rw [hrd] at rq
            exact kn rq _ (km0.trans kmt)
        | so x0 =>
          rw [readGo_so hx hy] at hrd
          have wy := wr y (List.mem_of_getElem? hy)
          refine ⟨_, rfl, .inl ⟨rfl, _, SqL.of eDt⟩, _, rfl, y, rfl, wy, kmt.tab, fun H4 km4 => ?_⟩
          refine ⟨D, _, _, rfl, rfl, KM.lst kmt.tab km4 eDt, ?_, _, _, done ++ [partOf y], rfl, KM.put km0.tab (kmt.trans km4) hD, ?_, ?_, ?_, ?_⟩
          · rw [List.length_map]
            exact lt_line _ (by omega)
          · rw [upd_same, List.map_append]; rfl
          · rw [List.length_append]; exact Nat.succ_le_succ hl
          · intro p hp
            rcases List.mem_append.mp hp with hp | hp
            · exact hdn p hp
            · exact ⟨y, wy, List.mem_singleton.mp hp⟩
          · rw [hrd]
            cases readGo (fm.2.2.drop (i + 1)) ((wordsOf z).drop (i + 1)) with
            | none => rfl
            | some l =>
              show some (done ++ (partOf y :: l)) = some (done ++ [partOf y] ++ l)
              rw [List.append_assoc]; rfl
      · rintro σ H' ⟨u5, u6, done, rfl, km, eD, hl, hdn, hrd⟩
        rw [lF, List.drop_length, l5, List.drop_length] at hrd
        have hrd : readGo fm.2.2 (wordsOf z) = some done := by rw [hrd]; show some (done ++ []) = _; rw [List.append_nil]
        rw [hrd] at rq
        have rq : rowOf fm.2.2 z = if okFits fm.2.2 (done.map Pa.v) = true then some done else none := rq
        refine ⟨_, rfl, _, rfl, fm, D, done.map Pa.v, rfl, hfm, fun v hv => ?_, .inr (SqL.of eD), km.tab, fun H4 km4 => ⟨_, rfl, ?_⟩⟩
        · obtain ⟨p, hp, rfl⟩ := List.mem_map.mp hv
          obtain ⟨y, wy, rfl⟩ := hdn p hp
          exact partOf_th wy
        · have kk := km0.trans (km.trans km4)
          cases er : okFits fm.2.2 (done.map Pa.v) with
          | true =>
            rw [er, if_pos rfl] at rq
            refine iteT ⟨_, rfl, D, _, rfl, .inl ⟨SqL.of (KM.lst km.tab km4 eD), fun l hl => ?_⟩⟩
            exact k _ rq l _ (kk.none (fun hm => by obtain ⟨ps', e, _⟩ := kk.tab l hm; rw [hl] at e; cases e) hl) (kk.trans (KM.alloc kk.tab hl)) upd_same
          | false =>
            rw [er, if_neg Bool.false_ne_true] at rq
            exact iteF (kn rq _ kk)
    · rw [decide_eq_false (fun h : V.int ↑((fm.2.2.map Fw.w).map V.str).length = V.int ↑((wordsOf z).map V.str).length => l5 (by have := V.int.inj h; rw [lF, lW] at this; exact Int.ofNat.inj this))]
      rw [readGo_lens l5] at rq
      exact iteT (kn rq _ km0)
end
end F4

set_option maxRecDepth 100000
set_option maxHeartbeats 1000000
/-! Refusals: a try with clauses, named or not, in any order; a class's def called by the class; isinstance of what was caught. -/
namespace My
open PySem PySem.Spec PyProof.Rows L2 GxR
/-! ### a try with clauses, named or not -/
abbrev Cl := Value × Option Nat × (Addr → Value → Option Addr → TS)
/-- what follows is the same by two ways: I holds there -/
theorem cutR {A : Prop} {G : Hp → Prop} (I : Hp → Prop) (main : (∀ H, I H → G H) → A) (last : ∀ H, I H → G H) : A := main last
def endsOff (i : Nat) (D : Ends) : Ends :=
  { nx := fun τ G => D.nx (τ.set i none) G, rt := D.rt, bk := fun τ G => D.bk (τ.set i none) G, ct := fun τ G => D.ct (τ.set i none) G }
def suiteOf (i : Option Nat) (t : TS) (a : Addr) (D : Ends) (σ : L2.St) (H : Hp) : Prop :=
  match i with
  | none => t D σ H
  | some i => t (endsOff i D) (σ.set i (some (.ref a))) H
/-- what the clauses wish, one behind the other -/
def wCl (K : PySem.W.Frag) (Wout : WX) (D : Ends) : List Cl → WX
  | [] => Wout
  | p :: l => fun cls d σ H => ∃ b, PySem.W.exmOne K cls p.1 = some b ∧
      (b = true → ∀ a, H a = none → suiteOf p.2.1 (p.2.2 a cls d) a D σ H) ∧ (b = false → wCl K Wout D l cls d σ H)
def SuiteOk (X : Cx) (ss : List Stmt) (ts : Addr → Value → Option Addr → TS) : Prop :=
  ∀ (a : Addr) (oe : Obj) (cls : Value) (d : Option Addr) (pn : List (Addr × Obj)), Zc cls d oe → (∃ fv, oe.data = .fields fv) → PSs (X.suite a ((a, oe) :: pn)) ss (ts a cls d)
inductive Clauses (X : Cx) : List ExceptHandler → List Cl → Prop
  | nil : Clauses X [] []
  | plain {x : Str} {c : Value} {ts : Addr → Value → Option Addr → TS} {st : Stmt} {ss : List Stmt} {p q : Pos} {hds : List ExceptHandler} {l : List Cl}
      (hc : Names X x c) (hsu : SuiteOk X (st :: ss) ts) (r : Clauses X hds l) : Clauses X (.ExceptHandler (some (.Name x p)) none (st :: ss) q :: hds) ((c, none, ts) :: l)
  | named {x n : Str} {i : Nat} {c : Value} {ts : Addr → Value → Option Addr → TS} {st : Stmt} {ss : List Stmt} {p q : Pos} {hds : List ExceptHandler} {l : List Cl}
      (hc : Names X x c) (hi : X.N[i]? = some n) (hn : X.env.kindOf n = some .local) (hsu : SuiteOk X (st :: ss) ts) (r : Clauses X hds l) :
      Clauses X (.ExceptHandler (some (.Name x p)) (some n) (st :: ss) q :: hds) ((c, some i, ts) :: l)
/-- an exception in hand -/
structure InHand (X : Cx) (pins : List (Addr × Obj)) (σ : L2.St) (H : Hp) (cls : Value) (d : Option Addr) (a : Addr) (B : Heap) (sI s : Shared) : Prop where
  inv : Inv X pins σ H sI
  grd : ∀ b o, sI.heap.get? b = some o → b ∉ frs X.stack → B.get? b = some o
  up : sI.heap.UpToSlots s.heap
  fly : HandSPX.FlyingZ B (X.env :: X.outer) a (Zc cls d) s.heap
  new : H a = none
  os : s.os = sI.os
  ag : AllBare s.gens
section
variable {X : Cx} {pins : List (Addr × Obj)} {σ : L2.St} {H : Hp} {cls : Value} {d : Option Addr} {a : Addr} {B : Heap} {sI s : Shared}
theorem InHand.now (h : InHand X pins σ H cls d a B sI s) : Inv X pins σ H s := h.inv.landed h.grd h.fly.1 h.up h.os h.ag
theorem InHand.move (h : InHand X pins σ H cls d a B sI s) {g : Heap} (f : HandSPX.FlyingZ B (X.env :: X.outer) a (Zc cls d) g) (u : s.heap.UpToSlots g) :
    InHand X pins σ H cls d a B sI { s with heap := g } := ⟨h.inv, h.grd, h.up.trans u, f, h.new, h.os, h.ag⟩
theorem InHand.seen (h : InHand X pins σ H cls d a B sI s) (hf : X.env.frame = some X.env.locals) :
    ∃ oe fv, s.heap.get? a = some oe ∧ Zc cls d oe ∧ oe.data = .fields fv ∧ a ≠ X.env.locals ∧ a ∉ X.fs := by
  obtain ⟨oe, fv, e1, e2, e3⟩ := h.fly.there
  have off : a ∉ frs (X.env :: X.outer) := by
    intro m
    obtain ⟨_, o2, e4, no⟩ := h.fly.2.2.1.mem m
    rw [e1] at e4
    obtain rfl := Option.some.inj e4
    exact no _ e3
  refine ⟨oe, fv, e1, e2, e3, fun z => off ?_, fun z => off ?_⟩
  · rw [z]
    exact List.mem_filterMap.mpr ⟨X.env, by simp, hf⟩
  · obtain ⟨v, hv, q⟩ := List.mem_filterMap.mp z
    exact List.mem_filterMap.mpr ⟨v, by simp [hv], q⟩
/-- the suite of a clause behind the try's own end -/
theorem InHand.leave (ok : X.Ok) {oe : Obj} {D : Ends} {f : Flow} {s2 : Shared} (h : SP (X.suite a ((a, oe) :: (X.pn ++ pins))) [] D f s2) : SP X pins D f s2 := by
  cases f with
  | ret u => obtain ⟨v, τ, G, J, r, q⟩ := h; exact ⟨v, τ, G, J.unsuite ok, r, q⟩
  | next => obtain ⟨τ, G, J, q⟩ := h; exact ⟨τ, G, J.unsuite ok, q⟩
  | brk => obtain ⟨τ, G, J, q⟩ := h; exact ⟨τ, G, J.unsuite ok, q⟩
  | cont => obtain ⟨τ, G, J, q⟩ := h; exact ⟨τ, G, J.unsuite ok, q⟩
/-- no clause took it -/
theorem InHand.out (hs : X.stack = X.env :: X.outer) (hf : X.env.frame = some X.env.locals) {Wout : WX} (tk : Takes X Wout) (h : InHand X pins σ H cls d a B sI s) (w : Wout cls d σ H) {Q : Flow → Shared → Prop} :
    wpAny (model X.prog X.w) X.A (handleBy (.ref a) X.env []) Q X.xe s := by
  have fly := h.fly
  refine wpAny_handleBy_nil ?_
  obtain ⟨_, _, _, oe, fv, T, _, _, e1, _, e2, e3, _⟩ := id h.fly
  unfold PySem.passOn
  refine wpAny_bind (wpAny_field e1 e2 e3 ?_)
  rw [if_neg (by simp)]
  have last : wpAny (model X.prog X.w) X.A (setFlight (.ref a) X.env.frame) (fun _ z => wpAny (model X.prog X.w) X.A (throw (.ref a) : Sem Flow) Q X.xe z) X.xe s := by
    rw [hf]
    refine HandSPX.setFlight_upZ fly fun g held up => wpAny_throw (tk _ _ ⟨a, B, sI, pins, σ, H, cls, d, rfl, h.inv, h.grd, h.up.trans up, .inr (.inr ?_), h.new, h.os, h.ag, w⟩)
    rw [hs]
    exact held
  first
    | exact wpAny_bind last
    | exact wpAny_bind (wpAny_pure (wpAny_bind last))
/-- the class that a clause names, told -/
theorem InHand.named (h : InHand X pins σ H cls d a B sI s) (hf : X.env.frame = some X.env.locals) {x : Str} {c : Value} {p : Pos} (hc : Names X x c) {Q : Value → Shared → Prop} {E : Value → Shared → Prop} (q : Q c s) :
    wpAny (model X.prog X.w) (X.A.mark (some (.ref a))) (eval (.Name x p) X.env) Q E s := by
  obtain ⟨oe, fv, e1, _, e3, n1, n2⟩ := h.seen hf
  have S := h.now.suite e1 e3 h.new n1 n2
  obtain ⟨hg, hd, hm | ⟨hm, hv, hn⟩⟩ := hc
  · exact ld_glob (X := X.suite a ((a, oe) :: (X.pn ++ pins))) S hg hm q hd
  · exact ld_blt (X := X.suite a ((a, oe) :: (X.pn ++ pins))) S hg hm hv q hn hd
theorem InHand.through (hs : X.stack = X.env :: X.outer) (hf : X.env.frame = some X.env.locals) (hN : X.N.Nodup) {Wout : WX} (tk : Takes X Wout) {D : Ends} {hds : List ExceptHandler} {l : List Cl}
    (ck : Clauses X hds l) : ∀ {s : Shared}, InHand X pins σ H cls d a B sI s → wCl X.K Wout D l cls d σ H → wpAny (model X.prog X.w) X.A (handleBy (.ref a) X.env hds) (SP X pins D) X.xe s := by
  induction ck with
  | nil => exact fun h w => h.out hs hf tk w
  | @plain x c ts st ss p q hds l hc hsu r ih =>
    rintro s h ⟨b, hb, yes, no⟩
    have fly := h.fly
    obtain ⟨oe, fv, e1, e2, _⟩ := h.seen hf
    have own : PySem.W.Looks (model X.prog X.w) s.heap (typeOf (.ref a)) cls := fun _ _ _ z k q => wpAny_typeOf_ref (k _ _ e1) (by rw [e2.1]; exact q)
    refine wpAny_handleBy_cons (codeAny_handlers_test (h.named hf hc ((PySem.W.exm_one h.now.kIn own hb).here ?_))) (fun z => by cases z)
    cases b with
    | false => exact ih h (no rfl)
    | true =>
      refine codeAny_handlers_suite (HandSPX.lands_againZ fly fun g f2 u2 => ?_)
      have h2 := h.move f2 u2
      obtain ⟨oe2, fv2, i1, i2, i3, i4, i5⟩ := h2.seen hf
      exact wpAny_mono ((hsu a oe2 cls d (X.pn ++ pins) i2 ⟨_, i3⟩).run [] _ _ _ _ (h2.now.suite i1 i3 h.new i4 i5) (yes rfl a h.new)) (fun f z y => InHand.leave h.inv.ok y) fun _ _ z => z.elim
  | @named x n i c ts st ss p q hds l hc hi hn hsu r ih =>
    rintro s h ⟨b, hb, yes, no⟩
    have fly := h.fly
    obtain ⟨oe, fv, e1, e2, _⟩ := h.seen hf
    have own : PySem.W.Looks (model X.prog X.w) s.heap (typeOf (.ref a)) cls := fun _ _ _ z k q => wpAny_typeOf_ref (k _ _ e1) (by rw [e2.1]; exact q)
    refine wpAny_handleBy_cons (codeAny_handlers_test (h.named hf hc ((PySem.W.exm_one h.now.kIn own hb).here ?_))) (fun z => by cases z)
    cases b with
    | false => exact ih h (no rfl)
    | true =>
      refine codeAny_handlers_suite_as (HandSPX.lands_againZ fly fun g f2 u2 => ?_)
      have h2 := h.move f2 u2
      obtain ⟨oe2, fv2, i1, i2, i3, i4, i5⟩ := h2.seen hf
      refine store_ok (X := X.suite a ((a, oe2) :: (X.pn ++ pins))) (v := .ref a) (h2.now.suite i1 i3 h.new i4 i5) hN hi (.inl hn) rfl (fun z J => ?_) (.inr hn)
      refine wpAny_mono ((hsu a oe2 cls d (X.pn ++ pins) i2 ⟨_, i3⟩).run [] z _ _ _ J (yes rfl a h.new)) (fun f y k => ?_) fun _ _ z => z.elim
      have k' := InHand.leave h.inv.ok k
      cases f with
      | next => obtain ⟨τ, G, J2, q2⟩ := k'; exact gone_ok J2 hN hi hn fun _ J3 => ⟨_, _, J3, q2⟩
      | brk => obtain ⟨τ, G, J2, q2⟩ := k'; exact gone_ok J2 hN hi hn fun _ J3 => ⟨_, _, J3, q2⟩
      | cont => obtain ⟨τ, G, J2, q2⟩ := k'; exact gone_ok J2 hN hi hn fun _ J3 => ⟨_, _, J3, q2⟩
      | ret u => obtain ⟨v, τ, G, J2, r2, q2⟩ := k'; exact gone_ok J2 hN hi hn fun _ J3 => ⟨_, _, _, J3, r2, q2⟩
end
/-- try: body, any clauses -/
theorem ps_try_cl {X : Cx} {body : List Stmt} {hd : ExceptHandler} {hds : List ExceptHandler} {l : List Cl} {pos : Pos} {tb : WX → TS} {Wout : WX} (hs : X.stack = X.env :: X.outer) (hf : X.env.frame = some X.env.locals) (hN : X.N.Nodup)
    (tk : Takes X Wout) (ck : Clauses X (hd :: hds) l)
    (hb : ∀ (W : WX) (pn : List (Addr × Obj)) (xe : Value → Shared → Prop), Takes (X.tr pn xe) W → PassesOwn (model X.prog X.w) X.A X.env xe → PSs (X.tr pn xe) body (tb W)) :
    PS X (.Try body (hd :: hds) [] [] pos) (fun D σ H => tb (wCl X.K Wout D l) D σ H) := by
  refine ⟨fun pins s σ H D I h => wpAny_Try_except ?_⟩
  have ok := I.ok
  have fr : X.A.frames = some (X.env :: X.outer) := by rw [ok.frames, hs]
  let xe : Value → Shared → Prop := fun e z => wpAny (model X.prog X.w) X.A (noteFrame e X.env) (fun _ z2 => wpAny (model X.prog X.w) X.A (setFlight e none)
    (fun _ z3 => wpAny (model X.prog X.w) X.A (handleBy e X.env (hd :: hds)) (SP X pins D) X.xe z3) X.xe z2) X.xe z
  have take : Takes (X.tr (X.pn ++ pins) xe) (wCl X.K Wout D l) := by
    rintro _ z ⟨a, B, sI, pn, τ, G, cls, d, rfl, J, grd, up, sky, new, os, ag, w⟩
    rw [show (X.tr (X.pn ++ pins) xe).stack = X.env :: X.outer from hs] at sky
    refine Sky.land Zc.steady fr hf sky fun g fly u => ?_
    exact InHand.through hs hf hN tk ck (s := { z with heap := g }) ⟨J.ofTry ok, grd, up.trans u, fly, new, os, ag⟩ w
  refine wpAny_mono ((hb _ _ xe take PassesOwn.looking).run [] s σ H D (I.toTry _) h) (fun f z k => ?_) fun _ _ z => z
  cases f with
  | next => obtain ⟨τ, G, J, q⟩ := k; exact wpAny_execs_nil ⟨τ, G, J.ofTry ok, q⟩
  | brk => obtain ⟨τ, G, J, q⟩ := k; exact ⟨τ, G, J.ofTry ok, q⟩
  | cont => obtain ⟨τ, G, J, q⟩ := k; exact ⟨τ, G, J.ofTry ok, q⟩
  | ret u => obtain ⟨v, τ, G, J, r, q⟩ := k; exact ⟨v, τ, G, J.ofTry ok, r, q⟩
/-! ### C.m(e, ..), C a class of the program -/
/-- what the written part says of a def f that a class at C tells by its name -/
structure ClsDef (K : PySem.W.Frag) (C f : Addr) (n : Str) : Prop where
  ga : PySem.W.specialIn K (.ref C) "__getattribute__" = some (some (.builtin "type.__getattribute__"))
  rd : PySem.W.readsIn K C (.type "type") = true
  at_ : PySem.W.findCls K (.ref C) (.type "type") n = some (.val (.ref f))
section
variable {X : Cx} {CX : CXT} {k : Nat} {C f : Addr} {fd : FuncData} {ps : List Str} {sp : Sp} {dvs : List V} {ds : List Value} {E : XK} {x n : Str} {p1 p2 pos : Pos} {e : Expr} {es : List Expr} {t : TA}
theorem pe_ccall {pl : Sem Bool} (T : ClsDef X.K C f n) (F : FnOk X.prog X.w X.K X.mg X.base CX k f fd ps sp) (hr : Room k X.A) (hg : Gl X x) (hm : X.mg x = some (.ref C)) (hk : PySem.W.keepIn X.K (.ref f) = true)
    (hb : Binds X.K fd ps ds) (hd : Vals dvs ds) (hx : Passes CX X E) (ha : PA X (e :: es) t) (hdb : (x == ("__debug__" : Str)) = false := by decide)
    (hc : eval (.Call (.Attribute (.Name x p1) n p2) (e :: es) [] pos) X.env = (do
      let ov ← eval (.Name x p1) X.env
      standAt p2.atName
      let (f, first) ← holding [ov] (getMethod ov n pl)
      callWith pos f first (backTo pos (starEach (e :: es) X.env)) (backToKw pos (keywordEach [] X.env))) := by rfl)
    (he : starEach (e :: es) X.env = (false, eval e X.env) :: starEach es X.env := by rfl) (hpl : (backTo pos (starEach es X.env)).any (·.1) = false := by rfl) :
    PE X (.Call (.Attribute (.Name x p1) n p2) (e :: es) [] pos) (tCall sp dvs E t) := by
  refine ⟨fun pins s σ H Q I h => PySem.W.methodCall_KW (ld_glob I hg hm ?_ hdb) hc⟩
  refine PySem.W.method_cls I.kIn T.ga (PySem.W.cls_value I.kIn T.rd T.at_ rfl ?_)
  refine PySem.W.callWith_K (h₀ := X.base) I.ok.mod.kin hk (thn (ha.run pos pins _ σ H _ (I.tok _) h) ?_) he hpl
  rintro us s1 ⟨vs, H1, I1, r, q⟩
  refine ⟨I1.kIn, ?_⟩
  have both := r.append hd
  have len : (us ++ ds).length = ps.length := (both.length).symm.trans (F.len _ _ _ _ q)
  refine wpAny_call (codeAny_mono (F.run X.A X.stack s1 H1 ⟨us, []⟩ (us ++ ds) (vs ++ dvs) Q E hr I1.env0 (hb s1 us I1.kIn len) both q) ?_)
  intro res z hz
  match res, hz with
  | .ok (.ret u), hz => exact I1.after hz
  | .error e, hz => exact hx pins σ H1 s1 e z I1 hz
  | .ok .next, hz => exact hz.elim
  | .ok .brk, hz => exact hz.elim
  | .ok .cont, hz => exact hz.elim
end
/-! ### o.m(e, ..) in a try's body -/
section
variable {X : Cx} {CX : CXT} {k : Nat} {C f : Addr} {fd : FuncData} {ps : List Str} {sp : Sp} {E : L2.St → XK} {m : Str} {pos apos : Pos} {e o : Expr} {es : List Expr} {ta : TE} {t : TA}
def tMethX (C : Addr) (m : Str) (sp : Sp) (E : L2.St → XK) (ta : TE) (t : TA) : TE := fun σ H Q => ta σ H fun x G => ∃ a dx fs, x = .ref a ∧ G a = some (.ins C dx fs) ∧ fs.lookup m = none ∧
  t σ G fun vs G2 => sp (x :: vs) G2 Q (E σ)
theorem pe_methX {pl : Sem Bool} (he : PE X o ta) (c : Cls X.K C) (hm : Meth X.K C m f) (F : FnOk X.prog X.w X.K X.mg X.base CX k f fd ps sp) (hr : Room k X.A) (hb : Binds X.K fd ps []) (hx : ∀ σ, PassesAt CX X σ (E σ)) (ha : PA X (e :: es) t)
    (hst : starEach (e :: es) X.env = (false, eval e X.env) :: starEach es X.env := by rfl) (hpl : (backTo pos (starEach es X.env)).any (·.1) = false := by rfl)
    (ht : eval (.Call (.Attribute o m apos) (e :: es) [] pos) X.env = (do
      let ov ← eval o X.env
      standAt apos.atName
      let (f, first) ← holding [ov] (getMethod ov m pl)
      callWith pos f first (backTo pos (starEach (e :: es) X.env)) (backToKw pos (keywordEach [] X.env))) := by rfl) :
    PE X (.Call (.Attribute o m apos) (e :: es) [] pos) (tMethX C m sp E ta t) := by
  refine ⟨fun pins s σ H Q I h => PySem.W.methodCall_KW (pl := pl) (thn (he.run pins s σ H _ I h) ?_) ht⟩
  rintro u z ⟨x, G, J, rx, a, dx, fs, rfl, ea, l, q⟩
  obtain rfl : u = Value.ref a := rx
  refine getmeth_ok J ea c hm l (PySem.W.callWith_K (first := [.ref a]) (h₀ := X.base) I.ok.mod.kin hm.kp (thn (ha.run pos pins z σ G _ J q) ?_) hst hpl)
  rintro us y ⟨vs, G2, J2, r, q2⟩
  exact ⟨J2.kIn, run_fnS (us := .ref a :: us) (vs := .ref a :: vs) F hr hb (hx σ) J2 (.cons rfl r) q2⟩
end
/-! ### the family: an __init__ over another class's, one field -/
/-- StaffError.__init__(self, text) and the like -/
def spUp (K : PySem.W.Frag) : Sp := fun vs H Q _ => ∃ (a C : Addr) (z : Str), vs = [.ref a, .str z] ∧ OexC K C ∧ H a = some (exo a C none) ∧ Q .non H
/-- C.__init__(self, x), its one field f -/
def spOne (K : PySem.W.Frag) (C : Addr) (f : Str) : Sp := fun vs H Q _ => ∃ (a : Addr) (v : V), vs = [.ref a, v] ∧ H a = some (exo a C none) ∧
  ∀ dx, H dx = none → dx ≠ a → Q .non (upd (upd H dx (exd dx [(f, v)])) a (exo a C (some dx)))
/-- what is left of a made exception: its dict alone -/
theorem made_eq {H : Hp} {a d C : Addr} {fs : List (Str × V)} (n : H a = none) (ne : d ≠ a) :
    upd (del (upd (upd (upd H a (exo a C none)) d (exd d fs)) a (exo a C (some d))) a) d (.xd fs) = upd H d (.xd fs) := by
  funext b
  by_cases hd : b = d
  · rw [hd, upd_same, upd_same]
  · rw [upd_ne hd, upd_ne hd]
    by_cases ha : b = a
    · rw [ha, del_same, n]
    · rw [del_ne ha, upd_ne ha, upd_ne hd, upd_ne ha]
/-- raise C(x): what is to be shown -/
theorem made_one {K : PySem.W.Frag} {C : Addr} {f : Str} {v : V} {H : Hp} {W : Value → Option Addr → Hp → Prop} (k : ∀ d, H d = none → W (.ref C) (some d) (upd H d (.xd [(f, v)]))) :
    ([v] : List V).length ≤ 1000 ∧ ∀ a, H a = none → spOne K C f (.ref a :: ([v] ++ [])) (upd H a (exo a C none))
      (fun u H2 => u = .non ∧ ∃ (d : Addr) (fs : List (Str × V)), H2 a = some (exo a C (some d)) ∧ H2 d = some (exd d fs) ∧ H d = none ∧ W (.ref C) (some d) (upd (del H2 a) d (.xd fs))) (fun _ _ _ => False) := by
  refine ⟨by simp, fun a n => ⟨a, v, rfl, upd_same, fun dx hdx ne => ⟨rfl, dx, [(f, v)], upd_same, ?_, ?_, ?_⟩⟩⟩
  · rw [upd_ne ne, upd_same]
  · rw [upd_ne ne] at hdx
    exact hdx
  · rw [made_eq n ne]
    rw [upd_ne ne] at hdx
    exact k dx hdx
/-- a class is its own -/
theorem sub_self {K : PySem.W.Frag} {C : Addr} {cd : ClassData} {r : List Value} (h : PySem.W.clsIn K C = some cd) (e : cd.mro = .ref C :: r) : PySem.W.subIn K (.ref C) (.ref C) = some true := by
  show PySem.W.mroIn K C (.ref C) = some true
  unfold PySem.W.mroIn
  rw [h]
  simp [e]
/-! ### isinstance of what was caught -/
structure CauC (K : PySem.W.Frag) (D : Addr) : Prop where
  cl : (PySem.W.clsIn K D).isSome = true
  ga : PySem.W.findIn K (.ref D) "__getattribute__" = some (some (.builtin "BaseException.__getattribute__"))
  gg : PySem.W.findIn K (.ref D) "__getattr__" = some none
  sub : PySem.W.subIn K (.ref D) (.type "BaseException") = some true
  co : PySem.W.findIn K (.ref D) "__class__" = some (some (.builtin "object.__class__"))
  cg : PySem.W.specialIn K (.builtin "object.__class__") "__get__" = some (some (.builtin "getset_descriptor.__get__"))
  ct : PySem.W.takesIn K (.builtin "object.__class__") = some true
  mo : PySem.W.mroIn K D (.type "object") = some true
/-- isinstance(e, c), e what the suite holds (cls its class, d its dict) -/
def rIsD (K : PySem.W.Frag) (D a : Addr) (cls : Value) (d : Option Addr) : List V → Hp → VK → Prop := fun xs H Q => ∃ (c : V) (cv : Value) (b : Bool) (dd : Addr) (fs : List (Str × V)),
  xs = [.ref a, c] ∧ (∀ u, RelV c u → u = cv) ∧ PySem.W.kitOne K (.ref D) cv = some b ∧ cls = .ref D ∧ d = some dd ∧ H dd = some (.xd fs) ∧ Q (.bl b) H
theorem call_isD {X : Cx} {a D : Addr} {cls : Value} {d : Option Addr} {oe : Obj} {pn : List (Addr × Obj)} (T : CauC X.K D) (hz : Zc cls d oe) (hf : ∃ fv, oe.data = .fields fv) :
    CallR (X.suite a ((a, oe) :: pn)) (.builtin "isinstance") (rIsD X.K D a cls d) := by
  rintro pins s σ H xs us Q I r ⟨c, cv, b, dd, fs, rfl, hcv, e, rfl, rfl, ed, q⟩
  cases r with
  | cons rx rr =>
    cases rr with
    | cons rt rr =>
      cases rr
      cases rx
      obtain rfl := hcv _ rt
      obtain ⟨hget, _⟩ := I.pin (a, oe) (by simp)
      obtain ⟨fv, hv⟩ := hf
      have hx : ObjOk X.prog X.w H s.heap dd (.xd fs) := I.hok dd _ ed
      obtain ⟨mA, hns, _⟩ := hx
      obtain ⟨od, ho, _⟩ := lookIn_ns hns
      have J : PySem.W.InstAt s.heap a oe D (some od) := ⟨hget, hz.1, by unfold PySem.W.notCls; rw [hv] <;> rfl, by rw [hz.2]; exact ho⟩
      exact PySem.W.kia_one (PySem.W.kitx_exc T.cl T.ga T.gg T.sub T.co T.cg T.ct T.mo) I.kIn J e (fun z => nomatch z) fun tk => ⟨.bl b, H, I.tok _, rfl, q⟩
/-- a call of a def that may raise, where it does not -/
theorem pass_no {X : Cx} : Passes (L2.CX X.prog X.w) X E0 := fun _ _ _ _ _ _ _ ⟨_, _, _, _, _, _, _, _, _, _, _, _, z⟩ => z.elim
theorem takes_never {X : Cx} : Takes X (fun _ _ _ _ => False) := fun _ _ ⟨_, _, _, _, _, _, _, _, _, _, _, _, _, _, _, _, z⟩ => z.elim
end My

set_option maxRecDepth 100000
set_option maxHeartbeats 400000
/-! Several refusals of one family: what the written part says of each. -/
namespace My
open PySem PySem.Spec PyProof.Rows L2 GxR Gd TL
/-- the class above them -/
structure SeT (K : PySem.W.Frag) (mg : Str → Option Value) (CS fS : Addr) (fdS : FuncData) (st : Stmt) : Prop where
  ve : mg "ValueError" = none
  vi : PySem.W.findCls K (.type "ValueError") (.type "type") "__init__" = some (.val (.builtin "ValueError.__init__"))
  g : mg "StaffError" = some (.ref CS)
  c : ClsDef K CS fS "__init__"
  k : PySem.W.keepIn K (.ref fS) = true
  F : Fun K "__init__" "StaffError.__init__" st fS fdS
  b : Binds K fdS ["self", "text"] []
/-- one of them -/
structure ExC (K : PySem.W.Frag) (mg : Str → Option Value) (x q : Str) (st : Stmt) (C f : Addr) (fd : FuncData) : Prop where
  g : mg x = some (.ref C)
  F : Fun K "__init__" q st f fd
  b : Binds K fd ["self", "found"] []
  o : OexC K C
  i : PySem.W.findIn K (.ref C) "__init__" = some (some (.ref f))
  t : PySem.W.typeIn K (.ref f) = some (.type "function")
  n : PySem.W.findIn K (.ref C) "found" = some none
  e : PySem.W.exmOne K (.ref C) (.ref C) = some true
  x : XfC K C
  u : CauC K C
section
variable {X : Cx} {CX : CXT} {k : Nat} {C f : Addr} {fd : FuncData} {ps : List Str} {sp : Sp} {E : L2.St → XK} {m : Str} {pos apos : Pos} {o : Expr} {ta : TE}
def tMethX0 (C : Addr) (m : Str) (sp : Sp) (E : L2.St → XK) (ta : TE) : TE := fun σ H Q => ta σ H fun x G => ∃ a dx fs, x = .ref a ∧ G a = some (.ins C dx fs) ∧ fs.lookup m = none ∧ sp [x] G Q (E σ)
/-- o.m() in a try's body -/
theorem pe_methX0 {pl : Sem Bool} (he : PE X o ta) (c : Cls X.K C) (hm : Meth X.K C m f) (F : FnOk X.prog X.w X.K X.mg X.base CX k f fd ps sp) (hr : Room k X.A) (hb : Binds X.K fd ps []) (hx : ∀ σ, PassesAt CX X σ (E σ))
    (ht : eval (.Call (.Attribute o m apos) [] [] pos) X.env = (do
      let who ← eval o X.env
      standAt apos.atName
      let (g, ahead) ← holding [who] (getMethod who m pl)
      callWith pos g ahead (backTo pos (starEach [] X.env)) (backToKw pos (keywordEach [] X.env))) := by rfl) :
    PE X (.Call (.Attribute o m apos) [] [] pos) (tMethX0 C m sp E ta) := by
  refine ⟨fun pins s σ H Q I h => PySem.W.methodCall_KW (pl := pl) (thn (he.run pins s σ H _ I h) ?_) ht⟩
  rintro u z ⟨x, G, J, rx, a, dx, fs, rfl, ea, l, q⟩
  obtain rfl := show u = Value.ref a from rx
  refine getmeth_ok J ea c hm l ?_
  exact PySem.W.callWith_K0 (first := [.ref a]) J.kIn hm.kp (run_fnS (us := [.ref a]) (vs := [.ref a]) F hr hb (hx σ) J (.cons rfl .nil) q)
end
end My

set_option maxRecDepth 100000
set_option maxHeartbeats 1000000
/-! An object made in a try's body, by an __init__ that may raise. -/
namespace My
open PySem PySem.Spec PyProof.Rows L2 GxR Gd TL
section
variable {X : Cx} {CX : CXT} {k : Nat} {f C : Addr} {fd : FuncData} {ps : List Str} {sp : Sp} {E : L2.St → XK} {x : Str} {p pos : Pos} {e : Expr} {es : List Expr} {t : TA} {dvs : List V} {ds : List Value}
def tMakeS (C : Addr) (sp : Sp) (dvs : List V) (E : L2.St → XK) (t : TA) : TE := fun σ H Q => t σ H fun vs G => ∀ a b, G a = none → G b = none → b ≠ a →
  sp (.ref a :: (vs ++ dvs)) (upd (upd G b (.own a)) a (.ins C b [])) (fun v G' => v = .non ∧ Q (.ref a) G') (E σ)
theorem run_makeS {pins : List (Addr × Obj)} {σ : L2.St} {H : Hp} {s : Shared} {Q : VK} {us : List Value} {vs : List V} (M : Mk X.K C f) (F : FnOk X.prog X.w X.K X.mg X.base CX k f fd ps sp) (hr : Room (k + 1) X.A) (hb : Binds X.K fd ps ds) (hd : Vals dvs ds)
    (hx : PassesAt CX X σ (E σ)) (I : L2.Inv X pins σ H s) (r : Vals vs us)
    (h : ∀ a b, H a = none → H b = none → b ≠ a → sp (.ref a :: (vs ++ dvs)) (upd (upd H b (.own a)) a (.ins C b [])) (fun v G => v = .non ∧ Q (.ref a) G) (E σ)) : wpAny (model X.prog X.w) X.A (call (.ref C) us) (EP X pins σ Q) X.xe s := by
  have n0 := I.hok.fresh (Nat.le_refl s.heap.objs.size)
  have n1 := I.hok.fresh (Nat.le_succ s.heap.objs.size)
  have q := h _ _ n1 n0 (Nat.ne_of_lt (Nat.lt_succ_self _))
  have J := Inv.made (C := C) I
  have rs : Vals (V.ref (s.heap.objs.size + 1) :: (vs ++ dvs)) (Value.ref (s.heap.objs.size + 1) :: (us ++ ds)) := .cons rfl (r.append hd)
  have len : (Value.ref (s.heap.objs.size + 1) :: us ++ ds).length = ps.length := by
    have := F.len _ _ _ _ q
    rw [← this]
    exact rs.length.symm
  apply wpAny_call
  apply make_map (f := f) I.kIn M.makes M.init (beq_iff_eq.mp M.fn)
  have run := F.run _ X.stack _ _ ⟨Value.ref (s.heap.objs.size + 1) :: us, []⟩ (Value.ref (s.heap.objs.size + 1) :: (us ++ ds)) _ _ (E σ) (hr.make C us []) (J.env0.make C us []) (hb _ (Value.ref (s.heap.objs.size + 1) :: us) J.kIn len) rs q
  apply codeAny_mono run
  intro r' s' hq
  match r', hq with
  | .error z, hq => exact hx pins _ _ z s' J hq
  | .ok (.ret u), hq =>
    obtain ⟨v, G, J', rv, ⟨ev, q'⟩⟩ := J.after hq
    subst ev
    exact ⟨rv, V.ref (s.heap.objs.size + 1), G, J', rfl, q'⟩
  | .ok .next, hq => exact hq.elim
  | .ok .brk, hq => exact hq.elim
  | .ok .cont, hq => exact hq.elim
theorem pe_makeS (M : Mk X.K C f) (F : FnOk X.prog X.w X.K X.mg X.base CX k f fd ps sp) (hr : Room (k + 1) X.A) (hg : Gl X x) (hm : X.mg x = some (.ref C)) (hb : Binds X.K fd ps ds) (hd : Vals dvs ds) (hx : ∀ σ, PassesAt CX X σ (E σ))
    (ha : PA X (e :: es) t) (hdb : (x == ("__debug__" : Str)) = false := by decide) (he : starEach (e :: es) X.env = (false, eval e X.env) :: starEach es X.env := by rfl) (hpl : (backTo pos (starEach es X.env)).any (·.1) = false := by rfl) :
    PE X (.Call (.Name x p) (e :: es) [] pos) (tMakeS C sp dvs E t) := by
  constructor
  intro pins s σ H Q I h
  apply wpAny_Call_Name_kw (ld_glob I hg hm ?_ hdb)
  apply PySem.W.callWith_K (h₀ := X.base) I.ok.mod.kin M.kp ?_ he hpl
  exact thn (ha.run pos pins s σ H _ I h) fun us s1 ⟨vs, G, J, r, q⟩ => ⟨J.kIn, run_makeS M F hr hb hd (hx σ) J r q⟩
end
end My

set_option maxRecDepth 100000
set_option maxHeartbeats 800000
namespace F4
open PySem PySem.Spec PyProof.Rows L2 GxR Gd TL My
/-! ### the refusals -/
abbrev sSE : Stmt := inClass (top 1) 0
theorem scSE : FnScope ["self", "text"] ["self", "text"] (defScope sSE) := ⟨rfl, rfl, rfl, by decide +kernel, rfl, by decide +kernel, by decide +kernel⟩
abbrev sNoDeed : Stmt := inClass (top 2) 0
theorem scNoDeed : FnScope ["self", "found"] ["self", "found"] (defScope sNoDeed) := ⟨rfl, rfl, rfl, by decide +kernel, rfl, by decide +kernel, by decide +kernel⟩
section
variable {P : Program} {w : World} {K : PySem.W.Frag} {mg : Str → Option Value} {base : Heap} {CS fS C fN : Addr} {fdS fdN : FuncData}
theorem ok_SE (T : SeT K mg CS fS fdS sSE) {CX : CXT} : FnOk P w K mg base CX0 1 fS fdS ["self", "text"] (spUp K) := by
  refine T.F.ok scSE (fun vs H Q E h => ?_) (fun cdv A outer s H vs Q E hr h => ?_)
  · obtain ⟨a, C, z, rfl, _⟩ := h
    rfl
  · obtain ⟨a, C, z, rfl, o, e, k⟩ := h
    refine ⟨_, pss_one (ps_expr (pe_veinit (by rfl) T.ve T.vi (pa_cons (pv 0) (pa_cons (pv 1) pa_nil)))), ?_⟩
    exact ⟨_, rfl, _, rfl, a, C, _, rfl, by simp, o, e, k⟩
theorem ok_NoDeed (S : SeT K mg CS fS fdS sSE) (T : ExC K mg "NoDeed" "NoDeed.__init__" sNoDeed C fN fdN) : FnOk P w K mg base CX0 2 fN fdN ["self", "found"] (spOne K C "found") := by
  refine T.F.ok scNoDeed (fun vs H Q E h => ?_) (fun cdv A outer s H vs Q E hr h => ?_)
  · obtain ⟨a, v, rfl, _⟩ := h
    rfl
  · obtain ⟨a, v, rfl, e, k⟩ := h
    refine ⟨_, pss_cons (ps_expr (pe_ccall S.c (ok_SE (CX := CX0) S) hr (by rfl) S.g S.k S.b .nil pass0 (pa_cons (pv 0) (pa_cons pe_str pa_nil))))
      (pss_one (ps_ost (pv 0) (pv 1))), ?_⟩
    refine ⟨_, rfl, a, C, _, rfl, T.o, e, ?_⟩
    exact ⟨_, rfl, _, rfl, a, C, rfl, T.o, T.n, .inl ⟨e, fun dx h1 h2 => k dx h1 h2⟩⟩
end
/-- an own exception that keeps a row -/
structure ExR (K : PySem.W.Frag) (mg : Str → Option Value) (x q : Str) (st : Stmt) (C f : Addr) (fd : FuncData) : Prop where
  g : mg x = some (.ref C)
  F : Fun K "__init__" q st f fd
  b : Binds K fd ["self", "row"] []
  o : OexC K C
  i : PySem.W.findIn K (.ref C) "__init__" = some (some (.ref f))
  t : PySem.W.typeIn K (.ref f) = some (.type "function")
  n : PySem.W.findIn K (.ref C) "row" = some none
  e : PySem.W.exmOne K (.ref C) (.ref C) = some true
  x : XfC K C
  u : CauC K C
abbrev sNoText : Stmt := inClass (top 3) 0
theorem scNoText : FnScope ["self", "row"] ["self", "row"] (defScope sNoText) := ⟨rfl, rfl, rfl, by decide +kernel, rfl, by decide +kernel, by decide +kernel⟩
def rowsIn (z : Str) : List Str := if z = Str.empty then [] else PySem.Txt.split z (Str.ofString "\n")
theorem rowsIn_wok {z : Str} (h : WOk z) : ∀ p ∈ rowsIn z, WOk p := by
  intro p hp
  unfold rowsIn at hp
  split at hp
  · cases hp
  · exact split_wok h hp
theorem rowsIn_len {z : Str} (h : WOk z) : (rowsIn z).length ≤ 200002 := by
  unfold rowsIn
  split
  · exact Nat.zero_le _
  · have := PyProof.Rows.split_le z (Str.ofString "\n")
    have := h.1
    omega
section
variable {P : Program} {w : World} {K : PySem.W.Frag} {mg : Str → Option Value} {base : Heap} {CS CT fS fT : Addr} {fdS fdT : FuncData} {aSORTS aRUN : Addr}
theorem ok_NoText (S : SeT K mg CS fS fdS sSE) (T : ExR K mg "NoText" "NoText.__init__" sNoText CT fT fdT) : FnOk P w K mg base CX0 2 fT fdT ["self", "row"] (spOne K CT "row") := by
  refine T.F.ok scNoText (fun vs H Q E h => ?_) (fun cdv A outer s H vs Q E hr h => ?_)
  · obtain ⟨a, v, rfl, _⟩ := h
    rfl
  · obtain ⟨a, v, rfl, e, k⟩ := h
    refine ⟨_, pss_cons (ps_expr (pe_ccall S.c (ok_SE (CX := CX0) S) hr (by rfl) S.g S.k S.b .nil pass0 (pa_cons (pv 0) (pa_cons pe_str pa_nil))))
      (pss_one (ps_ost (pv 0) (pv 1))), ?_⟩
    refine ⟨_, rfl, a, CT, _, rfl, T.o, e, ?_⟩
    exact ⟨_, rfl, _, rfl, a, CT, rfl, T.o, T.n, .inl ⟨e, fun dx h1 h2 => k dx h1 h2⟩⟩
end
end F4

set_option maxRecDepth 100000
set_option maxHeartbeats 800000
namespace F4
open PySem PySem.Spec PyProof.Rows L2 GxR Gd TL My
/-- the names of the forms -/
def formNames : List Str := forms.map fun f => Str.ofString f.1
def keyN (e : DictEntry) : Str := match e.key with
  | .str x _ => x
  | _ => Str.empty
theorem ns_no {K : PySem.W.Frag} {w : World} {a : Addr} {es : Array DictEntry} {n : Nat} (D : KDict K w a es n) {z : Str} (h : z ∉ es.toList.map keyN) : PySem.W.nsIn K a z = some none := by
  unfold PySem.W.nsIn
  rw [D.at_]
  dsimp only
  have lit := D.lit
  have fn : es.toList.find? (·.key.isStr z) = none := by
    rw [List.find?_eq_none]
    intro e he
    obtain ⟨x, t, e1, _⟩ := lit.all e he
    rw [e1, PySem.W.isStr_of]
    intro q
    refine h (List.mem_map.mpr ⟨e, he, ?_⟩)
    unfold keyN
    rw [e1]
    have q : (x == z) = true := q
    exact eq_of_beq q
  rw [fn]
  dsimp only
  rw [if_neg]
  rw [List.any_eq_true]
  rintro ⟨e, he, q⟩
  obtain ⟨x, t, e1, _⟩ := lit.all e he
  unfold DictEntry.refKey at q
  rw [e1] at q
  cases q
/-- the forms' dict -/
structure FoD (K : PySem.W.Frag) (w : World) (a : Addr) (es : Array DictEntry) (n : Nat) : Prop where
  d : KDict K w a es n
  yes : ∀ f ∈ forms, ∃ t, PySem.W.nsIn K a (Str.ofString f.1) = some (some (.str (Str.ofString f.2.1) t))
  no : ∀ z, z ∉ formNames → PySem.W.nsIn K a z = some none
theorem FoD.item {K : PySem.W.Frag} {w : World} {a : Addr} {es : Array DictEntry} {n : Nat} (S : FoD K w a es n) {f : Fm} (h : f ∈ forms) : KDct K w a (Str.ofString f.1) (.str (Str.ofString f.2.1)) := by
  obtain ⟨t, e⟩ := S.yes f h
  exact ⟨es, n, _, S.d.at_, S.d.lit, e, t, rfl⟩
theorem FoD.at {K : PySem.W.Frag} {w : World} {a : Addr} {es : Array DictEntry} {n : Nat} (S : FoD K w a es n) (z : Str) : (∃ f, f ∈ forms ∧ z = Str.ofString f.1 ∧ ∃ r, PySem.W.nsIn K a z = some (some r)) ∨ (z ∉ formNames ∧ PySem.W.nsIn K a z = some none) := by
  by_cases h : z ∈ formNames
  · obtain ⟨f, hf, rfl⟩ := List.mem_map.mp h
    obtain ⟨t, e⟩ := S.yes f hf
    exact .inl ⟨f, hf, rfl, _, e⟩
  · exact .inr ⟨h, S.no z h⟩
theorem cut1 (x : V) (xs : List V) : cutV (x :: xs) (some 1) none = xs := by
  unfold cutV
  rw [HT.sIx_none, show (1 : Int) = ((1 : Nat) : Int) from rfl, HT.sIx_nat]
  simp
theorem cut1_ok (x : V) (xs : List V) : ¬ (HT.sIx (x :: xs).length 0 (some 1) = 0 ∧ HT.sIx (x :: xs).length (x :: xs).length none = (x :: xs).length) := by
  rintro ⟨h, _⟩
  rw [show (1 : Int) = ((1 : Nat) : Int) from rfl, HT.sIx_nat, List.length_cons] at h
  omega
theorem dv0 (fm : Fm) (ps : List Pa) : atI (dv fm ps) 0 = some (.str (Str.ofString fm.1)) := atI_nat (j := 0) rfl
theorem forms_inj : ∀ f ∈ forms, ∀ g ∈ forms, Str.ofString f.1 = Str.ofString g.1 → f.1 = g.1 := by decide +kernel
theorem forms_eq : ∀ {f g : Fm}, f ∈ forms → g ∈ forms → Str.ofString f.1 = Str.ofString g.1 → f = g := by
  intro f g hf hg h
  have h := forms_inj f hf g hg h
  simp only [forms, List.mem_cons, List.not_mem_nil, or_false] at hf hg
  rcases hf with rfl | rfl | rfl | rfl | rfl | rfl | rfl | rfl | rfl | rfl | rfl | rfl | rfl | rfl <;> rcases hg with rfl | rfl | rfl | rfl | rfl | rfl | rfl | rfl | rfl | rfl | rfl | rfl | rfl | rfl <;> first | rfl | (exact absurd h (by decide))
/-- a deed, or anything that is none -/
def Deed (H : Hp) (v : V) (fm : Fm) (ps : List Pa) : Prop := fm ∈ forms ∧ Fit fm.2.2 ps ∧ ∃ d, v = .ref d ∧ H d = some (.tup (dv fm ps))
structure None_ (H : Hp) (v : V) : Prop where
  th : Th H v
  kids : ∀ d xs, v = .ref d → H d = some (.tup xs) → (∀ x ∈ xs, Th H x) ∧ NotDeed xs
theorem None_.nt {H H' : Hp} (e : Nt H H') {v : V} (h : None_ H v) : None_ H' v := by
  refine ⟨th_nt e h.th, fun d xs hv hd => ?_⟩
  subst hv
  cases h.th with
  | lst a ys hy => rw [e _ _ (by simp) hy] at hd; cases hd
  | dic a hy => rw [e _ _ (by simp) hy] at hd; cases hd
  | tup a ys hy =>
    rw [e _ _ (by simp) hy] at hd
    obtain rfl := HO.tup.inj (Option.some.inj hd)
    obtain ⟨a1, a2⟩ := h.kids d ys rfl hy
    exact ⟨fun x hx => th_nt e (a1 x hx), a2⟩
theorem Deed.nt {H H' : Hp} (e : Nt H H') {v : V} {fm : Fm} {ps : List Pa} (h : Deed H v fm ps) : Deed H' v fm ps := by
  obtain ⟨a, b, d, rfl, hd⟩ := h
  exact ⟨a, b, d, rfl, e _ _ (by simp) hd⟩
section
variable {P : Program} {w : World} {K : PySem.W.Frag} {mg : Str → Option Value} {base : Heap} {P1 P2 P3 aSORTS aFORMS CS CN fS fN : Addr} {fs : So → Addr} {es ef : Array DictEntry} {nS nF : Nat} {tM : Tok} {fdS fdN : FuncData}
abbrev s_is_deed : Stmt := top 26
theorem sc_is_deed : FnScope ["thing"] ["thing"] (defScope s_is_deed) := ⟨rfl, rfl, rfl, by decide +kernel, rfl, by decide +kernel, by decide +kernel⟩
abbrev s_deed_text : Stmt := top 25
theorem sc_deed_text : FnScope ["deed"] ["deed"] (defScope s_deed_text) := ⟨rfl, rfl, rfl, by decide +kernel, rfl, by decide +kernel, by decide +kernel⟩
def spIsDeed (T : List Addr) : Sp := fun vs H Q _ => ∃ (v : V), vs = [v] ∧ Tabs T H ∧ ((∃ fm ps, Deed H v fm ps ∧ ∀ H', KM T H H' → Q (.bl true) H') ∨ (None_ H v ∧ ∀ H', KM T H H' → Q (.bl false) H'))
theorem ok_is_deed {T0 : List Addr} {f f1 : Addr} {fd fd1 : FuncData} (F : Fun K "_is_deed" "_is_deed" s_is_deed f fd) (T : Txt mg) (gFORMS : mg "FORMS" = some (.ref aFORMS)) (FD : FoD K w aFORMS ef nF)
    (Nfits : Fn K mg "fits" s_fits ["form", "parts"] f1 fd1) (Gfits : FnOk P w K mg base CX0 6 f1 fd1 ["form", "parts"] (spFits K T0)) : FnOk P w K mg base CX0 7 f fd ["thing"] (spIsDeed T0) := by
  refine F.ok sc_is_deed (fun vs H Q E h => ?_) (fun cdv A outer s H vs Q E hr h => ?_)
  · obtain ⟨v, rfl, _⟩ := h
    rfl
  · obtain ⟨v, rfl, tb, h⟩ := h
    refine ⟨_, pss_cons (ps_if (PW.pt (pw_or (pt_not (pt_val (pe_callB call_isi (by rfl) T.isinstance_ (by decide +kernel) (pa_cons (pv 0) (pa_cons (pe_bltn (v := .ty "tuple") (by rfl) T.tuple_ (by decide +kernel) rfl) pa_nil))))) (pw_or (pt_not (pt_truth (pv 0) (fun _ => rfl))) (pw_or1 (pt_not (pt_val (pe_callB call_isi (by rfl) T.isinstance_ (by decide +kernel) (pa_cons (pe_ix ix_tup (pv 0) pe_int (fun _ _ => rfl)) (pa_cons (pe_bltn (v := .ty "str") (by rfl) T.str_ (by decide +kernel) rfl) pa_nil))))))))) (pss_one (ps_ret pe_bl)) pss_nil)
      (pss_one (ps_ret (pe_and (pe_cmpR (inKD rfl rfl FD.d) (pe_ix ix_tup (pv 0) pe_int (fun _ _ => rfl)) (pe_glob (v := .ref aFORMS) (by rfl) gFORMS rfl) rfl) (pe_one (pe_call Gfits (hr.mono (by decide)) (by rfl) Nfits.g Nfits.kp Nfits.b .nil pass0 (pa_cons (pe_ix ix_kdict (pe_glob (v := .ref aFORMS) (by rfl) gFORMS rfl) (pe_ix ix_tup (pv 0) pe_int (fun _ _ => rfl)) (fun _ _ => rfl)) (pa_cons (pe_slice sl_tup (pv 0) (po_some pe_int) po_none) pa_nil))))))), ?_⟩
    rcases h with ⟨fm, ps, ⟨hfm, fit, d, rfl, hd⟩, k⟩ | ⟨nd, k⟩
    · refine ⟨_, rfl, _, _, _, _, true, rfl, .ty "tuple", .base (.tup hd), (by rfl), _, rfl, iteF ?_⟩
      refine ⟨_, rfl, _, .inr (.inl ⟨_, SqT.of hd, rfl⟩), iteF ?_⟩
      refine ⟨_, rfl, d, _, 0, _, rfl, rfl, SqT.of hd, dv0 fm ps, _, _, _, _, true, rfl, .ty "str", .base (.str _), (by rfl), _, rfl, iteF ?_⟩
      obtain ⟨t0, e0⟩ := FD.yes fm hfm
      refine ⟨_, rfl, d, _, 0, _, rfl, rfl, SqT.of hd, dv0 fm ps, _, _, rfl, rfl, e0, _, rfl, iteT ?_⟩
      refine ⟨_, rfl, d, _, 0, _, rfl, rfl, SqT.of hd, dv0 fm ps, aFORMS, _, _, rfl, rfl, FD.item hfm, ?_⟩
      refine ⟨_, rfl, _, rfl, d, _, rfl, SqT.of hd, cut1_ok _ _, fun b hb => ?_⟩
      rw [show cutV (dv fm ps) (some 1) none = ps.map Pa.v from cut1 _ _]
      have tb2 : Tabs T0 (upd H b (.tup (ps.map Pa.v))) := tabs_same tb (same_alloc hb)
      refine ⟨fm, b, _, rfl, hfm, fun x hx => ?_, .inl (SqT.of upd_same), tb2, fun H' km => ?_⟩
      · have fh := fit_th (H := upd H b (.tup (ps.map Pa.v))) fit
        exact fh x hx
      · rw [okFits_of fit]
        exact k H' ((KM.alloc tb hb).trans km)
    · have kk := k H (KM.refl tb)
      have nothing : ∀ t, TyX K H v (.type t) → (t = "tuple" → False) → True := fun _ _ _ => trivial
      cases nd.th with
      | non => exact ⟨_, rfl, _, _, _, _, false, rfl, .ty "tuple", .base .non, (by rfl), _, rfl, iteT (iteT kk)⟩
      | bl b => exact ⟨_, rfl, _, _, _, _, false, rfl, .ty "tuple", .base (.bl b), (by rfl), _, rfl, iteT (iteT kk)⟩
      | int i => exact ⟨_, rfl, _, _, _, _, false, rfl, .ty "tuple", .base (.int i), (by rfl), _, rfl, iteT (iteT kk)⟩
      | str z h g => exact ⟨_, rfl, _, _, _, _, false, rfl, .ty "tuple", .base (.str z), (by rfl), _, rfl, iteT (iteT kk)⟩
      | lst a xs h => exact ⟨_, rfl, _, _, _, _, false, rfl, .ty "tuple", .base (.lst h), (by rfl), _, rfl, iteT (iteT kk)⟩
      | dic a h => exact ⟨_, rfl, _, _, _, _, false, rfl, .ty "tuple", .base (.dK h), (by rfl), _, rfl, iteT (iteT kk)⟩
      | tup d xs hd =>
        obtain ⟨kids, no⟩ := nd.kids d xs rfl hd
        clear nothing
        refine ⟨_, rfl, _, _, _, _, true, rfl, .ty "tuple", .base (.tup hd), (by rfl), _, rfl, iteF ?_⟩
        cases xs with
        | nil => exact ⟨_, rfl, _, .inr (.inl ⟨_, SqT.of hd, rfl⟩), iteT (iteT kk)⟩
        | cons x r =>
          have a0 : atI (x :: r) 0 = some x := atI_nat (j := 0) rfl
          refine ⟨_, rfl, _, .inr (.inl ⟨_, SqT.of hd, rfl⟩), iteF ?_⟩
          obtain ⟨t, ty, cs⟩ := (kids x (List.mem_cons_self ..)).ty (K := K)
          rcases cs with ⟨i, rfl, rfl⟩ | ⟨b, rfl, rfl⟩ | ⟨z, rfl, _, rfl⟩ | ⟨n1, n2, n3, ht⟩
          · exact ⟨_, rfl, d, _, 0, _, rfl, rfl, SqT.of hd, a0, _, _, _, _, false, rfl, .ty "str", ty, (by rfl), _, rfl, iteT kk⟩
          · exact ⟨_, rfl, d, _, 0, _, rfl, rfl, SqT.of hd, a0, _, _, _, _, false, rfl, .ty "str", ty, (by rfl), _, rfl, iteT kk⟩
          · refine ⟨_, rfl, d, _, 0, _, rfl, rfl, SqT.of hd, a0, _, _, _, _, true, rfl, .ty "str", ty, (by rfl), _, rfl, iteF ?_⟩
            rcases FD.at z with ⟨fm, hfm, rfl, u, e0⟩ | ⟨nh, e0⟩
            · refine ⟨_, rfl, d, _, 0, _, rfl, rfl, SqT.of hd, a0, _, _, rfl, rfl, e0, _, rfl, iteT ?_⟩
              refine ⟨_, rfl, d, _, 0, _, rfl, rfl, SqT.of hd, a0, aFORMS, _, _, rfl, rfl, FD.item hfm, ?_⟩
              refine ⟨_, rfl, _, rfl, d, _, rfl, SqT.of hd, cut1_ok _ _, fun b hb => ?_⟩
              rw [cut1]
              have tb2 : Tabs T0 (upd H b (.tup r)) := tabs_same tb (same_alloc hb)
              refine ⟨fm, b, _, rfl, hfm, fun x hx => th_nt (Nt.alloc hb) (kids x (List.mem_cons_of_mem _ hx)), .inl (SqT.of upd_same), tb2, fun H' km => ?_⟩
              cases er : okFits fm.2.2 r with
              | false => exact k H' ((KM.alloc tb hb).trans km)
              | true =>
                obtain ⟨ps, rfl, ft⟩ := okFits_ex er
                exact absurd rfl (no fm ps hfm ft)
            · exact ⟨_, rfl, d, _, 0, _, rfl, rfl, SqT.of hd, a0, _, _, rfl, rfl, e0, _, rfl, iteF kk⟩
          · rcases ht with rfl | rfl | rfl | rfl
            · exact ⟨_, rfl, d, _, 0, _, rfl, rfl, SqT.of hd, a0, _, _, _, _, false, rfl, .ty "str", ty, (by rfl), _, rfl, iteT kk⟩
            · exact ⟨_, rfl, d, _, 0, _, rfl, rfl, SqT.of hd, a0, _, _, _, _, false, rfl, .ty "str", ty, (by rfl), _, rfl, iteT kk⟩
            · exact ⟨_, rfl, d, _, 0, _, rfl, rfl, SqT.of hd, a0, _, _, _, _, false, rfl, .ty "str", ty, (by rfl), _, rfl, iteT kk⟩
            · exact ⟨_, rfl, d, _, 0, _, rfl, rfl, SqT.of hd, a0, _, _, _, _, false, rfl, .ty "str", ty, (by rfl), _, rfl, iteT kk⟩
/-- deed_text: the row of a deed; NoDeed of the very thing that is none -/
def spDeedText (T : List Addr) (CN : Addr) : Sp := fun vs H Q E => ∃ (v : V), vs = [v] ∧ Tabs T H ∧ ((∃ fm ps, Deed H v fm ps ∧ ∀ H', KM T H H' → Q (.str (rowT fm ps)) H') ∨
  (None_ H v ∧ ∀ H' e, KM T H H' → H' e = none → E (.ref CN) (some e) (upd H' e (.xd [("found", v)]))))
theorem ok_deed_text {T0 : List Addr} {f f1 f2 : Addr} {fd fd1 fd2 : FuncData} (F : Fun K "deed_text" "deed_text" s_deed_text f fd) (T : Txt mg) (gFORMS : mg "FORMS" = some (.ref aFORMS)) (FD : FoD K w aFORMS ef nF)
    (ES : SeT K mg CS fS fdS sSE) (ENoDeed : ExC K mg "NoDeed" "NoDeed.__init__" sNoDeed CN fN fdN)
    (Nis_deed : Fn K mg "_is_deed" s_is_deed ["thing"] f1 fd1) (Gis_deed : FnOk P w K mg base CX0 7 f1 fd1 ["thing"] (spIsDeed T0))
    (Nwrite_row : Fn K mg "write_row" s_write_row ["form", "parts"] f2 fd2) (Gwrite_row : FnOk P w K mg base CX0 1 f2 fd2 ["form", "parts"] (spWrite K)) : FnOk P w K mg base (CX P w) 8 f fd ["deed"] (spDeedText T0 CN) := by
  refine F.okX sc_deed_text (fun vs H Q E h => ?_) (fun cdv A outer s H vs Q E hr h => ?_)
  · obtain ⟨v, rfl, _⟩ := h
    rfl
  · obtain ⟨v, rfl, tb, h⟩ := h
    refine ⟨_, pss_cons (ps_if (pt_not (pt_val (pe_call Gis_deed (hr.mono (by decide)) (by rfl) Nis_deed.g Nis_deed.kp Nis_deed.b .nil pass0 (pa_cons (pv 0) pa_nil)))) (pss_one (ps_raise rfl (takes_of rfl rfl rfl rfl) (pmk_oex ENoDeed.o ENoDeed.i ENoDeed.t (ok_NoDeed ES ENoDeed) (hr.mono (by decide)) ENoDeed.b .nil pass0 (by rfl) ENoDeed.g (pa_cons (pv 0) pa_nil)))) pss_nil)
      (pss_one (ps_ret (pe_call Gwrite_row (hr.mono (by decide)) (by rfl) Nwrite_row.g Nwrite_row.kp Nwrite_row.b .nil pass0 (pa_cons (pe_ix ix_kdict (pe_glob (v := .ref aFORMS) (by rfl) gFORMS rfl) (pe_ix ix_tup (pv 0) pe_int (fun _ _ => rfl)) (fun _ _ => rfl)) (pa_cons (pe_slice sl_tup (pv 0) (po_some pe_int) po_none) pa_nil))))), ?_⟩
    refine ⟨_, rfl, v, rfl, tb, ?_⟩
    rcases h with ⟨fm, ps, dd, k⟩ | ⟨nd, k⟩
    · refine .inl ⟨fm, ps, dd, fun H1 km => ⟨_, rfl, iteF ?_⟩⟩
      obtain ⟨hfm, fit, d, rfl, hd1⟩ := dd.nt (KM.nt tb km)
      refine ⟨_, rfl, d, _, 0, _, rfl, rfl, SqT.of hd1, dv0 fm ps, aFORMS, _, _, rfl, rfl, FD.item hfm, ?_⟩
      refine ⟨_, rfl, _, rfl, d, _, rfl, SqT.of hd1, cut1_ok _ _, fun b hb => ?_⟩
      rw [show cutV (dv fm ps) (some 1) none = ps.map Pa.v from cut1 _ _]
      exact ⟨fm, b, ps, rfl, hfm, fit, SqT.of upd_same, fun H' sm => k H' ((km.trans (KM.alloc km.tab hb)).trans (KM.same (KM.alloc km.tab hb).tab sm))⟩
    · refine .inr ⟨nd, fun H1 km => ⟨_, rfl, iteT ⟨_, rfl, made_one fun e he => ?_⟩⟩⟩
      exact k H1 e km he
end
end F4

set_option maxRecDepth 100000
set_option maxHeartbeats 800000
namespace F4
open PySem PySem.Spec PyProof.Rows L2 GxR Gd TL My
/-! ### the deed that a row writes -/
abbrev Dd := Fm × List Pa
def hd1 (z : Str) : Str := (wordsOf z).headD Str.empty
theorem words_hd (z : Str) : ∃ r, wordsOf z = hd1 z :: r := by
  obtain ⟨k, r, e⟩ := split_ne z (Str.ofString " ")
  refine ⟨r, ?_⟩
  unfold hd1
  rw [show wordsOf z = k :: r from e]
  rfl
def deedOf (z : Str) : Option Dd := match forms.find? (fun f => Str.ofString f.1 == hd1 z) with
  | none => none
  | some fm => (rowOf fm.2.2 z).map fun ps => (fm, ps)
theorem deedOf_in {z : Str} {fm : Fm} (h : fm ∈ forms) (e : hd1 z = Str.ofString fm.1) : deedOf z = (rowOf fm.2.2 z).map fun ps => (fm, ps) := by
  unfold deedOf
  cases q : forms.find? (fun f => Str.ofString f.1 == hd1 z) with
  | none =>
    have := List.find?_eq_none.mp q fm h
    rw [e] at this
    exact absurd (beq_self_eq_true _) this
  | some g =>
    have g1 := List.mem_of_find?_eq_some q
    have g2 := List.find?_some q
    have g2 : Str.ofString g.1 = hd1 z := eq_of_beq g2
    rw [forms_eq g1 h (g2.trans e)]
theorem deedOf_no {z : Str} (h : hd1 z ∉ formNames) : deedOf z = none := by
  unfold deedOf
  cases q : forms.find? (fun f => Str.ofString f.1 == hd1 z) with
  | none => rfl
  | some g =>
    have g1 := List.mem_of_find?_eq_some q
    have g2 := List.find?_some q
    have g2 : Str.ofString g.1 = hd1 z := eq_of_beq g2
    exact absurd (List.mem_map.mpr ⟨g, g1, g2⟩) h
theorem deedOf_fit {z : Str} {d : Dd} (h : deedOf z = some d) : d.1 ∈ forms ∧ Fit d.1.2.2 d.2 := by
  unfold deedOf at h
  cases q : forms.find? (fun f => Str.ofString f.1 == hd1 z) with
  | none => rw [q] at h; cases h
  | some g =>
    rw [q] at h
    have h : (rowOf g.2.2 z).map (fun ps => (g, ps)) = some d := h
    cases e : rowOf g.2.2 z with
    | none => rw [e] at h; cases h
    | some ps =>
      rw [e] at h
      obtain rfl := Option.some.inj h
      exact ⟨List.mem_of_find?_eq_some q, rdGo_fit e⟩
theorem partOf_t {x : So} {p : Pa} (h : x.ok p) : partOf p.t = p := by
  have wk := pa_wok h
  cases p with
  | s z =>
    have no := text_no h
    unfold partOf
    rw [if_neg]
    · rfl
    · intro q
      unfold digs at q
      rw [show (tl (Pa.s z).t).all dg = z.cps.toList.all dg from rfl, no] at q
      simp at q
  | n i =>
    have hi : 0 ≤ i ∧ i ≤ 999999 := by cases x <;> first | exact False.elim h | exact h
    obtain ⟨n, rfl⟩ := Int.eq_ofNat_of_zero_le hi.1
    have l6 : (Str.ofString (toString ((n : Nat) : Int))).length ≤ 6 := (num_wok hi.1 hi.2).2
    have l1 : 1 ≤ (Str.ofString (toString ((n : Nat) : Int))).length := wk.1
    have v : valOf (Str.ofString (toString ((n : Nat) : Int))) = n := by
      unfold valOf
      rw [tl_num, numL_val]
    have dgs : digs (Str.ofString (toString ((n : Nat) : Int))) = true := by
      unfold digs
      rw [decide_eq_true l1, decide_eq_true l6]
      exact num_yes n
    show partOf (Str.ofString (toString ((n : Nat) : Int))) = _
    unfold partOf
    rw [if_pos dgs, v, if_pos rfl]
theorem rdGo_row {f : List Fw} {ps : List Pa} (h : Fit f ps) : rdGo f (row f ps) = some ps := by
  induction h with
  | nil => rfl
  | @lit z f ps _ ih =>
    show (if z = z then rdGo f (row f ps) else none) = _
    rw [if_pos rfl, ih]
  | @so x f p ps hp _ ih =>
    show (if x.okB (partOf p.t).v = true then (rdGo f (row f ps)).map (partOf p.t :: ·) else none) = _
    rw [partOf_t hp, if_pos (okB_pa.mpr hp), ih]
    rfl
theorem forms_head : ∀ f ∈ forms, ∃ r, f.2.2 = .lit (Str.ofString f.1) :: r := by
  have key : ∀ f ∈ forms, (match f.2.2 with | Fw.lit z :: _ => z == Str.ofString f.1 | _ => false) = true := by decide +kernel
  intro f hf
  have h := key f hf
  cases e : f.2.2 with
  | nil => rw [e] at h; cases h
  | cons x r =>
    rw [e] at h
    cases x with
    | so y => cases h
    | lit z =>
      have h : (z == Str.ofString f.1) = true := h
      rw [eq_of_beq h]
      exact ⟨r, rfl⟩
theorem row_head {f : Fm} (hf : f ∈ forms) (ps : List Pa) : ∃ r, row f.2.2 ps = Str.ofString f.1 :: r := by
  obtain ⟨r, e⟩ := forms_head f hf
  rw [e]
  exact ⟨_, rfl⟩
theorem deedOf_row {fm : Fm} {ps : List Pa} (hf : fm ∈ forms) (h : Fit fm.2.2 ps) : deedOf (rowT fm ps) = some (fm, ps) := by
  have e : wordsOf (rowT fm ps) = row fm.2.2 ps := rowT_split hf h
  obtain ⟨r, er⟩ := row_head hf ps
  rw [deedOf_in hf (by unfold hd1; rw [e, er]; rfl)]
  unfold rowOf
  rw [e, rdGo_row h]
  rfl
section
variable {P : Program} {w : World} {K : PySem.W.Frag} {mg : Str → Option Value} {base : Heap} {P1 P2 P3 aSORTS aFORMS CS CN fS fN : Addr} {fs : So → Addr} {es ef : Array DictEntry} {nS nF : Nat} {tM : Tok} {fdS fdN : FuncData}
abbrev s_deed_of_row : Stmt := top 28
theorem sc_deed_of_row : FnScope ["row", "word", "parts"] ["row"] (defScope s_deed_of_row) := ⟨rfl, rfl, rfl, by decide +kernel, rfl, by decide +kernel, by decide +kernel⟩
def spDeedRow (T : List Addr) : Sp := fun vs H Q _ => ∃ (z : Str), vs = [.str z] ∧ WOk z ∧ Tabs T H ∧ (deedOf z = none → ∀ H', KM T H H' → Q .non H') ∧ ∀ d, deedOf z = some d → ∀ t H', H t = none → KM T H H' → H' t = some (.tup (dv d.1 d.2)) → Q (.ref t) H'
theorem ok_deed_of_row {T0 : List Addr} {f f1 : Addr} {fd fd1 : FuncData} (F : Fun K "deed_of_row" "deed_of_row" s_deed_of_row f fd) (T : Txt mg) (gFORMS : mg "FORMS" = some (.ref aFORMS)) (FD : FoD K w aFORMS ef nF)
    (Nread_row : Fn K mg "read_row" s_read_row ["form", "row"] f1 fd1) (Gread_row : FnOk P w K mg base CX0 7 f1 fd1 ["form", "row"] (spRead T0)) : FnOk P w K mg base CX0 8 f fd ["row"] (spDeedRow T0) := by
  refine F.ok sc_deed_of_row (fun vs H Q E h => ?_) (fun cdv A outer s H vs Q E hr h => ?_)
  · obtain ⟨z, rfl, _⟩ := h
    rfl
  · obtain ⟨z, rfl, wz, tb, kn, k⟩ := h
    refine ⟨_, pss_cons (ps_set (i := 1) sc_deed_of_row.nd rfl (Or.inl rfl) (pe_ix ix_list (pe_split (pv 0) pe_str) pe_int (fun _ _ => rfl)))
      (pss_cons (ps_if (pt_cmpR (notInKD rfl rfl FD.d) (pv 1) (pe_glob (v := .ref aFORMS) (by rfl) gFORMS rfl) rfl) (pss_one (ps_ret pe_non)) pss_nil)
      (pss_cons (ps_set (i := 2) sc_deed_of_row.nd rfl (Or.inl rfl) (pe_call Gread_row (hr.mono (by decide)) (by rfl) Nread_row.g Nread_row.kp Nread_row.b .nil pass0 (pa_cons (pe_ix ix_kdict (pe_glob (v := .ref aFORMS) (by rfl) gFORMS rfl) (pv 1) (fun _ _ => rfl)) (pa_cons (pv 0) pa_nil))))
      (pss_one (ps_ret (pe_ifExp (pt_cmpR op_isN (pv 2) pe_non (nomark _)) pe_non (pe_op op_catA (pe_tup (pa_cons (pv 1) pa_nil)) (pv 2))))))), ?_⟩
    obtain ⟨r, er⟩ := words_hd z
    refine ⟨_, rfl, ⟨_, rfl⟩, _, _, rfl, rfl, rfl, small_line (by have := wz.1; omega), fun p hp => ?_⟩
    rw [show Txt.split z (Str.ofString " ") = wordsOf z from rfl]
    have km1 : KM T0 H (upd H p (.lst ((wordsOf z).map V.str))) := KM.alloc tb hp
    refine ⟨p, _, 0, .str (hd1 z), rfl, rfl, SqL.of upd_same, by rw [er]; exact atI_nat (j := 0) rfl, ?_⟩
    rcases FD.at (hd1 z) with ⟨fm, hfm, eh, u, e0⟩ | ⟨nh, e0⟩
    · have dq := deedOf_in hfm eh
      rw [eh] at e0
      rw [eh]
      refine ⟨_, rfl, _, _, rfl, rfl, e0, _, rfl, iteF ?_⟩
      refine ⟨_, rfl, aFORMS, _, _, rfl, rfl, FD.item hfm, _, rfl, fm, z, rfl, hfm, wz, km1.tab, fun hn H2 km2 => ?_, fun ps hs q H2 hq km2 eq2 => ?_⟩
      · rw [hn] at dq
        exact ⟨_, rfl, rfl, _, rfl, iteT (kn dq _ (km1.trans km2))⟩
      · rw [hs] at dq
        have dq : deedOf z = some (fm, ps) := dq
        refine ⟨_, rfl, rfl, _, rfl, iteF ?_⟩
        refine ⟨_, rfl, by show 1 ≤ sizeLine; decide, fun u hu => ?_⟩
        have nuq : u ≠ q := fun z => by rw [z, eq2] at hu; cases hu
        have km3 := (km1.trans km2).trans (KM.alloc (o := .tup [.str (Str.ofString fm.1)]) km2.tab hu)
        refine ⟨_, rfl, u, q, [.str (Str.ofString fm.1)], ps.map Pa.v, rfl, rfl, SqT.of upd_same, SqT.of (by rw [upd_ne nuq.symm]; exact eq2), ?_, fun z => absurd z (by simp), fun _ z => ?_, fun _ _ t ht => ?_⟩
        · have l6 := forms_len fm hfm
          have := fit_len (deedOf_fit dq).2
          have := sorts_le fm.2.2
          rw [List.length_map]
          show 1 + ps.length ≤ sizeLine
          have h1 : (sorts fm.2.2).length = ps.length := fit_len (deedOf_fit dq).2
          exact small_line (by omega)
        · have ez : dv fm ps = [.str (Str.ofString fm.1)] := by rw [dv, z]
          refine k _ dq u _ (KM.none (km1.trans km2) (fun hm => ?_) hu) km3 (by rw [upd_same, ez])
          obtain ⟨ps', e, _⟩ := (km1.trans km2).tab u hm
          rw [hu] at e; cases e
        · refine k _ dq t _ (km3.none (fun hm => ?_) ht) (km3.trans (KM.alloc km3.tab ht)) upd_same
          obtain ⟨ps', e, _⟩ := km3.tab t hm
          rw [ht] at e; cases e
    · exact ⟨_, rfl, _, _, rfl, rfl, e0, _, rfl, iteT (kn (deedOf_no nh) _ km1)⟩
end
end F4

set_option maxRecDepth 100000
set_option maxHeartbeats 800000
namespace F4
open PySem PySem.Spec PyProof.Rows L2 GxR Gd TL My
section
variable {P : Program} {w : World} {K : PySem.W.Frag} {mg : Str → Option Value} {base : Heap} {P1 P2 P3 aSORTS aFORMS : Addr} {fs : So → Addr} {es ef : Array DictEntry} {nS nF : Nat} {tM : Tok}
abbrev s_law_name : Stmt := top 33
theorem sc_law_name : FnScope ["_law_box_here", "_law_words", "_law_k"] ["_law_box_here"] (defScope s_law_name) := ⟨rfl, rfl, rfl, by decide +kernel, rfl, by decide +kernel, by decide +kernel⟩
abbrev s_law_number : Stmt := top 34
theorem sc_law_number : FnScope ["_law_box_here", "_law_way"] ["_law_box_here"] (defScope s_law_number) := ⟨rfl, rfl, rfl, by decide +kernel, rfl, by decide +kernel, by decide +kernel⟩
abbrev s_law_forms : Stmt := top 35
theorem sc_law_forms : FnScope ["_law_some"] [] (defScope s_law_forms) := ⟨rfl, rfl, rfl, by decide +kernel, rfl, by decide +kernel, by decide +kernel⟩
abbrev s_law_part : Stmt := top 36
theorem sc_law_part : FnScope ["_law_box_here", "_law_sign"] ["_law_box_here", "_law_sign"] (defScope s_law_part) := ⟨rfl, rfl, rfl, by decide +kernel, rfl, by decide +kernel, by decide +kernel⟩
/-- a part of a sort, drawn with at most m takes -/
def spDraw (x : So) (m : Int) : Sp := fun vs H Q _ => ∃ (b : Addr) (n : Int), vs = [.ref b] ∧ Bx b n H ∧ 0 ≤ n ∧ n ≤ 90000 ∧ ∀ p H', x.ok p → KB b H H' → Bx b (n + m) H' → Q p.v H'
def nameWords : List Str := ["to", "by", "at", "for", "staff", "ticket", "lock", "open", "leave", "come", "a", "end"].map Str.ofString
theorem nameWords_ok : ∀ z ∈ nameWords, NameOk z := by
  have key : ∀ z ∈ nameWords, (decide (1 ≤ z.length) && decide (z.length ≤ 6) && z.cps.toList.all lc) = true := by decide +kernel
  intro z hz
  have k := key z hz
  simp only [Bool.and_eq_true, decide_eq_true_eq] at k
  exact ⟨k.1.1, k.1.2, k.2⟩
theorem joinL_nil : ∀ ps : List (List Nat), joinL [] ps = ps.flatten
  | [] => rfl
  | [p] => by simp [joinL]
  | p :: q :: r => by
    have e : joinL [] (p :: q :: r) = p ++ ([] ++ joinL [] (q :: r)) := rfl
    rw [e, joinL_nil (q :: r)]
    simp
theorem join_signs (cs : List Nat) : tl (Txt.join (Str.ofString "") (cs.map fun c => (⟨#[c]⟩ : Str))) = cs := by
  rw [join_eq, tl_join, show tl (Str.ofString "") = [] by decide +kernel, joinL_nil, List.map_map]
  induction cs with
  | nil => rfl
  | cons c r ih =>
    rw [List.map_cons, List.flatten_cons, ih]
    rfl
theorem signs_name {cs : List Nat} (h1 : 1 ≤ cs.length) (h6 : cs.length ≤ 6) (h : ∀ c ∈ cs, lc c = true) : NameOk (Txt.join (Str.ofString "") (cs.map fun c => (⟨#[c]⟩ : Str))) := by
  have e := join_signs cs
  refine ⟨by rw [len_tl, e]; exact h1, by rw [len_tl, e]; exact h6, ?_⟩
  show (tl _).all lc = true
  rw [e]
  exact List.all_eq_true.mpr h
theorem ok_law_name {f fT : Addr} {fd fdT : FuncData} (F : Fun K "_law_name" "_law_name" s_law_name f fd) (T : Txt mg)
    (Nlaw_take : Fn K mg "_law_take" sTake ["_law_box_here", "_law_many"] fT fdT) (Glaw_take : FnOk P w K mg base CX0 1 fT fdT ["_law_box_here", "_law_many"] spTake) :
    FnOk P w K mg base CX0 2 f fd ["_law_box_here"] (spDraw .name 8) := by
  refine F.ok sc_law_name (fun vs H Q E h => ?_) (fun cdv A outer s H vs Q E hr h => ?_)
  · obtain ⟨b, n, rfl, _⟩ := h
    rfl
  · obtain ⟨b, n, rfl, hB, n0, n1, k⟩ := h
    refine ⟨_, pss_cons (ps_set (i := 1) sc_law_name.nd rfl (Or.inl rfl) (pe_lst (pa_cons pe_str (pa_cons pe_str (pa_cons pe_str (pa_cons pe_str (pa_cons pe_str (pa_cons pe_str (pa_cons pe_str (pa_cons pe_str (pa_cons pe_str (pa_cons pe_str (pa_cons pe_str (pa_cons pe_str pa_nil))))))))))))))
      (pss_cons (ps_if (pt_cmpR op_eq (pe_call Glaw_take (hr.mono (by decide)) (by rfl) Nlaw_take.g Nlaw_take.kp Nlaw_take.b .nil pass0 (pa_cons (pv 0) (pa_cons pe_int pa_nil))) pe_int (nomark _)) (pss_one (ps_ret (pe_ix ix_list (pv 1) (pe_call Glaw_take (hr.mono (by decide)) (by rfl) Nlaw_take.g Nlaw_take.kp Nlaw_take.b .nil pass0 (pa_cons (pv 0) (pa_cons pe_int pa_nil))) (fun _ _ => rfl)))) pss_nil)
      (pss_one (ps_ret (pe_join pe_str (pe_lc (own := [("_law_k", 2)]) (g := gName 2) (tt := tYes) rfl sc_law_name.nd (pi_range1 (by rfl) T.range_ (pa_cons (pe_op op_add pe_int (pe_call Glaw_take (hr.mono (by decide)) (by rfl) Nlaw_take.g Nlaw_take.kp Nlaw_take.b .nil pass0 (pa_cons (pv 0) (pa_cons pe_int pa_nil)))) pa_nil)) (blkOk_by (own := [("_law_k", 2)]) (N := ["_law_box_here", "_law_words", "_law_k"]) (sc := defScope s_law_name) (by decide +kernel)) (fun _ _ _ _ _ => (pg_name (i := 2) sc_law_name.nd rfl (Or.inl rfl))) (fun _ _ _ _ _ => pts_nil) (fun _ _ _ _ _ => (pe_ix ix_str pe_str (pe_call Glaw_take (hr.mono (by decide)) (by rfl) Nlaw_take.g Nlaw_take.kp Nlaw_take.b .nil pass0 (pa_cons (pv 0) (pa_cons pe_int pa_nil))) (fun _ _ => rfl)))))))), ?_⟩
    refine ⟨by show 12 ≤ sizeLine; decide, fun L hL => ?_⟩
    have k0 : KB b H (upd H L (.lst (nameWords.map V.str))) := KB.alloc hL
    have B0 : Bx b n (upd H L (.lst (nameWords.map V.str))) := hB.alloc hL
    have nLb : L ≠ b := hB.fresh hL
    have hW : (upd H L (.lst (nameWords.map V.str))) L = some (.lst (nameWords.map V.str)) := upd_same
    have e12 : nameWords.map V.str = [.str "to", .str "by", .str "at", .str "for", .str "staff", .str "ticket", .str "lock", .str "open", .str "leave", .str "come", .str "a", .str "end"] := rfl
    rw [← e12]
    generalize upd H L (.lst (nameWords.map V.str)) = H0 at k0 B0 hW ⊢
    refine ⟨_, rfl, b, 4, n, rfl, B0, by omega, by decide, by decide, fun way H1 w0 w1 off1 B1 => ?_⟩
    have k1 : KB b H H1 := k0.trans (KB.off off1)
    have hW1 : H1 L = some (.lst (nameWords.map V.str)) := by rw [off1 L nLb]; exact hW
    refine ⟨rfl, _, rfl, ite2 (fun c => ?_) (fun c => ?_)⟩
    · refine ⟨_, rfl, _, rfl, b, 12, n + 1, rfl, B1, by omega, by decide, by decide, fun j H2 j0 j1 off2 B2 => ?_⟩
      obtain ⟨v, hv, ev⟩ := atI_ex (xs := nameWords.map V.str) j0 (by rw [show (nameWords.map V.str).length = 12 from rfl]; exact j1)
      obtain ⟨z, hz, rfl⟩ := List.mem_map.mp hv
      refine ⟨L, _, j, _, rfl, rfl, SqL.of (by rw [off2 L nLb]; exact hW1), ev, k (.s z) H2 (nameWords_ok z hz) (k1.trans (KB.off off2)) (B2.mono (by omega))⟩
    · refine ⟨⟨_, rfl⟩, _, rfl, b, 6, n + 1, rfl, B1, by omega, by decide, by decide, fun d H2 d0 d1 off2 B2 => ?_⟩
      obtain ⟨e, rfl⟩ := Int.eq_ofNat_of_zero_le d0
      have k2 : KB b H H2 := k1.trans (KB.off off2)
      refine ⟨_, _, rfl, rfl, 1 + (e : Int), rfl, by omega, by omega, fun D hD => ?_⟩
      have nDb : D ≠ b := B2.fresh hD
      refine lc_it (walk_range (lo := 0) (n := (1 + (e : Int)).toNat)) (fun i H' => ∃ cs : List Nat, cs.length = i ∧ (∀ c ∈ cs, lc c = true) ∧ H' D = some (.lst (cs.map fun c => V.str ⟨#[c]⟩)) ∧ KB b H2 H' ∧ Bx b (n + 1 + 1 + i) H')
        ⟨[], rfl, fun c hc => (nomatch hc), upd_same, KB.alloc hD, (B2.alloc hD).mono (by omega)⟩ (fun _ _ _ _ => trivial) ?_ ?_
      · rintro i v H3 H4 hi ⟨cs, h1, h2, h3, h4, h5⟩ ⟨rfl, rfl⟩
        refine ⟨rfl, lcY ?_⟩
        have hi7 : i < 7 := by omega
        refine ⟨_, rfl, b, 26, n + 1 + 1 + i, rfl, h5, by omega, by decide, by decide, fun j H5 j0 j1 off5 B5 => ?_⟩
        obtain ⟨c, hc, ec⟩ := atI_ex (xs := (Str.ofString "abcdefghijklmnopqrstuvwxyz").cps.toList) j0 (by rw [show (Str.ofString "abcdefghijklmnopqrstuvwxyz").cps.toList.length = 26 by decide +kernel]; exact j1)
        have hlc : lc c = true := by rw [← letters_mem]; exact decide_eq_true hc
        refine ⟨_, j, c, rfl, rfl, by decide +kernel, ec, _, by rw [off5 D nDb]; exact h3, ?_, cs ++ [c], ?_, ?_, ?_, ?_, ?_⟩
        · rw [List.length_map, h1]; exact Nat.lt_trans hi7 (by decide)
        · rw [List.length_append, h1]; rfl
        · intro x hx
          rcases List.mem_append.mp hx with hx | hx
          · exact h2 x hx
          · rw [List.mem_singleton.mp hx]; exact hlc
        · rw [upd_same, List.map_append]; rfl
        · intro x o nx e
          rw [upd_ne (ne_of_none e hD)]
          exact (off5 x nx).trans (h4 x o nx e)
        · exact ((B5.put nDb).mono (by omega))
      · rintro H3 ⟨cs, h1, h2, h3, h4, h5⟩
        have h17 : 1 ≤ cs.length ∧ cs.length ≤ 6 := by omega
        refine ⟨_, D, cs.map fun c => (⟨#[c]⟩ : Str), rfl, rfl, .inl (SqL.of ?_), ?_, ?_⟩
        · rw [h3, List.map_map]; rfl
        · have s1 := sum_ones (cs.map fun c => (⟨#[c]⟩ : Str)) (fun z hz => by obtain ⟨c, _, rfl⟩ := List.mem_map.mp hz; exact Nat.le_refl 1)
          rw [show (Str.ofString "").length = 0 by decide +kernel, List.length_map]
          rw [List.length_map] at s1
          omega
        · exact k (.s _) H3 (signs_name h17.1 h17.2 h2) (k2.trans h4) (h5.mono (by omega))
theorem int_at {xs : List V} {d : Int} (hx : ∀ v ∈ xs, ∃ i : Int, v = .int i ∧ 0 ≤ i ∧ i ≤ 999999) (h0 : 0 ≤ d) (h1 : d < xs.length) : ∃ i : Int, 0 ≤ i ∧ i ≤ 999999 ∧ atI xs d = some (.int i) := by
  obtain ⟨v, hv, ev⟩ := atI_ex h0 h1
  obtain ⟨i, rfl, a, b⟩ := hx v hv
  exact ⟨i, a, b, ev⟩
theorem ok_law_number {f fT : Addr} {fd fdT : FuncData} (F : Fun K "_law_number" "_law_number" s_law_number f fd) (T : Txt mg)
    (Nlaw_take : Fn K mg "_law_take" sTake ["_law_box_here", "_law_many"] fT fdT) (Glaw_take : FnOk P w K mg base CX0 1 fT fdT ["_law_box_here", "_law_many"] spTake) :
    FnOk P w K mg base CX0 2 f fd ["_law_box_here"] (spDraw .number 8) := by
  refine F.ok sc_law_number (fun vs H Q E h => ?_) (fun cdv A outer s H vs Q E hr h => ?_)
  · obtain ⟨b, n, rfl, _⟩ := h
    rfl
  · obtain ⟨b, n, rfl, hB, n0, n1, k⟩ := h
    refine ⟨_, pss_cons (ps_set (i := 1) sc_law_number.nd rfl (Or.inl rfl) (pe_call Glaw_take (hr.mono (by decide)) (by rfl) Nlaw_take.g Nlaw_take.kp Nlaw_take.b .nil pass0 (pa_cons (pv 0) (pa_cons pe_int pa_nil))))
      (pss_cons (ps_if (pt_cmpR op_lt (pv 1) pe_int (nomark _)) (pss_one (ps_ret (pe_ix ix_list (pe_lst (pa_cons pe_int (pa_cons pe_int pa_nil))) (pv 1) (fun _ _ => rfl)))) pss_nil)
      (pss_cons (ps_if (pt_cmpR op_eq (pv 1) pe_int (nomark _)) (pss_one (ps_ret (pe_ix ix_list (pe_lst (pa_cons pe_int (pa_cons pe_int (pa_cons pe_int (pa_cons pe_int (pa_cons (pe_op op_pow pe_int pe_int) (pa_cons (pe_op op_pow pe_int pe_int) pa_nil))))))) (pe_call Glaw_take (hr.mono (by decide)) (by rfl) Nlaw_take.g Nlaw_take.kp Nlaw_take.b .nil pass0 (pa_cons (pv 0) (pa_cons pe_int pa_nil))) (fun _ _ => rfl)))) pss_nil)
      (pss_one (ps_ret (pe_call Glaw_take (hr.mono (by decide)) (by rfl) Nlaw_take.g Nlaw_take.kp Nlaw_take.b .nil pass0 (pa_cons (pv 0) (pa_cons (pe_ix ix_list (pe_lst (pa_cons pe_int (pa_cons pe_int pa_nil))) (pe_op op_sub (pv 1) pe_int) (fun _ _ => rfl)) pa_nil))))))), ?_⟩
    refine ⟨_, rfl, b, 5, n, rfl, hB, by omega, by decide, by decide, fun way H1 w0 w1 off1 B1 => ?_⟩
    have k1 : KB b H H1 := KB.off off1
    refine ⟨_, rfl, _, _, rfl, rfl, _, rfl, ite2 (fun c1 => ?_) (fun c1 => ?_)⟩
    · have c1 : way < 2 := of_decide_eq_true c1
      refine ⟨by show 2 ≤ sizeLine; decide, fun L hL => ?_⟩
      obtain ⟨i, i0, i1, ei⟩ := int_at (xs := [V.int 0, .int 999999]) (d := way) (by intro v hv; simp only [List.mem_cons, List.not_mem_nil, or_false] at hv; rcases hv with rfl | rfl <;> exact ⟨_, rfl, by decide, by decide⟩) w0 (by show way < 2; omega)
      exact ⟨_, rfl, L, _, way, _, rfl, rfl, SqL.of upd_same, ei, k (.n i) _ ⟨i0, i1⟩ (k1.trans (KB.alloc hL)) ((B1.alloc hL).mono (by omega))⟩
    · have c1 : ¬ way < 2 := by simpa using c1
      refine ⟨_, rfl, rfl, _, rfl, ite2 (fun c2 => ?_) (fun c2 => ?_)⟩
      · refine ⟨_, _, rfl, rfl, ⟨by decide, by decide, by decide⟩, _, _, rfl, rfl, ⟨by decide, by decide, by decide⟩, by show 6 ≤ sizeLine; decide, fun L hL => ?_⟩
        have nLb : L ≠ b := B1.fresh hL
        refine ⟨_, rfl, b, 6, n + 1, rfl, B1.alloc hL, by omega, by decide, by decide, fun j H2 j0 j1 off2 B2 => ?_⟩
        obtain ⟨i, i0, i1, ei⟩ := int_at (xs := [V.int 1, .int 10, .int 100, .int 1000, .int (10 ^ (4 : Int).toNat), .int (10 ^ (5 : Int).toNat)]) (d := j) (by intro v hv; simp only [List.mem_cons, List.not_mem_nil, or_false] at hv; rcases hv with rfl | rfl | rfl | rfl | rfl | rfl <;> exact ⟨_, rfl, by decide, by decide⟩) j0 j1
        exact ⟨L, _, j, _, rfl, rfl, SqL.of (by rw [off2 L nLb, upd_same]), ei, k (.n i) _ ⟨i0, i1⟩ ((k1.trans (KB.alloc hL)).trans (KB.off off2)) (B2.mono (by omega))⟩
      · have c2 : way ≠ 2 := by
          intro e
          subst e
          exact absurd c2 (by decide)
        refine ⟨_, rfl, by show 2 ≤ sizeLine; decide, fun L hL => ?_⟩
        have nLb : L ≠ b := B1.fresh hL
        obtain ⟨i, i0, i1, ei⟩ : ∃ i : Int, (0 < i ∧ i ≤ 999999) ∧ i.natAbs.log2 < 9000 ∧ atI [V.int 10, .int 999999] (way - 3) = some (.int i) := by
          have : way = 3 ∨ way = 4 := by omega
          rcases this with rfl | rfl
          · exact ⟨10, by decide, by decide +kernel, rfl⟩
          · exact ⟨999999, by decide, by decide +kernel, rfl⟩
        refine ⟨_, rfl, _, _, rfl, rfl, L, _, way - 3, _, rfl, rfl, SqL.of upd_same, ei, b, i, n + 1, rfl, B1.alloc hL, by omega, i0.1, i1, fun j H2 j0 j1 off2 B2 => ?_⟩
        exact k (.n j) _ ⟨j0, by omega⟩ ((k1.trans (KB.alloc hL)).trans (KB.off off2)) (B2.mono (by omega))
/-- the forms, as the law lays them -/
def formTexts : List Str := ["leave N to N by H", "come N", "lock N K for N", "pilot N K", "unlock N K", "give N K", "take N K", "box N K", "walk N to N", "help N N", "bring N to N", "again N D K", "get K", "lose K"].map Str.ofString
def spForms : Sp := fun vs H Q _ => vs = [] ∧ ∀ l H', H l = none → Same H H' → H' l = some (.lst (formTexts.map V.str)) → Q (.ref l) H'
theorem ok_law_forms {f : Addr} {fd : FuncData} (F : Fun K "_law_forms" "_law_forms" s_law_forms f fd) :
    FnOk P w K mg base CX0 1 f fd [] spForms := by
  refine F.ok sc_law_forms (fun vs H Q E h => ?_) (fun cdv A outer s H vs Q E hr h => ?_)
  · obtain ⟨rfl, _⟩ := h
    rfl
  · obtain ⟨rfl, k⟩ := h
    refine ⟨_, pss_cons (ps_set (i := 0) sc_law_forms.nd rfl (Or.inl rfl) (pe_lst (pa_cons pe_str (pa_cons pe_str (pa_cons pe_str (pa_cons pe_str (pa_cons pe_str (pa_cons pe_str (pa_cons pe_str pa_nil)))))))))
      (pss_one (ps_ret (pe_op op_cat (pv 0) (pe_lst (pa_cons pe_str (pa_cons pe_str (pa_cons pe_str (pa_cons pe_str (pa_cons pe_str (pa_cons pe_str (pa_cons pe_str pa_nil))))))))))), ?_⟩
    refine ⟨by show 7 ≤ sizeLine; decide, fun a ha => ?_⟩
    refine ⟨_, rfl, by show 7 ≤ sizeLine; decide, fun b hb => ?_⟩
    have nab : b ≠ a := fun z => by rw [z, upd_same] at hb; cases hb
    refine ⟨a, b, _, _, rfl, rfl, by rw [upd_ne nab.symm, upd_same], upd_same, by show 14 ≤ sizeLine; decide, fun l hl => ?_⟩
    exact k l _ (by
      cases e : H l with
      | none => rfl
      | some o => rw [same_alloc hb l o (same_alloc ha l o e)] at hl; cases hl) (fun c o h => same_alloc hl c o (same_alloc hb c o (same_alloc ha c o h))) upd_same
def So.sign : So → Str
  | .name => Str.ofString "N"
  | .number => Str.ofString "K"
  | .thing => Str.ofString "H"
  | .kind => Str.ofString "D"
def spDrawOf (m : Int) : Sp := fun vs H Q _ => ∃ (b : Addr) (n : Int) (x : So), vs = [.ref b, .str x.sign] ∧ Bx b n H ∧ 0 ≤ n ∧ n ≤ 90000 ∧ ∀ p H', x.ok p → KB b H H' → Bx b (n + m) H' → Q p.v H'
theorem ok_law_part {f f1 f2 fT : Addr} {fd fd1 fd2 fdT : FuncData} (F : Fun K "_law_part" "_law_part" s_law_part f fd) (T : Txt mg)
    (Nlaw_take : Fn K mg "_law_take" sTake ["_law_box_here", "_law_many"] fT fdT) (Glaw_take : FnOk P w K mg base CX0 1 fT fdT ["_law_box_here", "_law_many"] spTake) 
    (Nlaw_name : Fn K mg "_law_name" s_law_name ["_law_box_here"] f1 fd1) (Glaw_name : FnOk P w K mg base CX0 2 f1 fd1 ["_law_box_here"] (spDraw .name 8)) 
    (Nlaw_number : Fn K mg "_law_number" s_law_number ["_law_box_here"] f2 fd2) (Glaw_number : FnOk P w K mg base CX0 2 f2 fd2 ["_law_box_here"] (spDraw .number 8)) :
    FnOk P w K mg base CX0 3 f fd ["_law_box_here", "_law_sign"] (spDrawOf 8) := by
  refine F.ok sc_law_part (fun vs H Q E h => ?_) (fun cdv A outer s H vs Q E hr h => ?_)
  · obtain ⟨b, n, x, rfl, _⟩ := h
    rfl
  · obtain ⟨b, n, x, rfl, hB, n0, n1, k⟩ := h
    refine ⟨_, pss_cons (ps_if (pt_cmpR op_eq (pv 1) pe_str (nomark _)) (pss_one (ps_ret (pe_call Glaw_name (hr.mono (by decide)) (by rfl) Nlaw_name.g Nlaw_name.kp Nlaw_name.b .nil pass0 (pa_cons (pv 0) pa_nil)))) pss_nil)
      (pss_cons (ps_if (pt_cmpR op_eq (pv 1) pe_str (nomark _)) (pss_one (ps_ret (pe_call Glaw_number (hr.mono (by decide)) (by rfl) Nlaw_number.g Nlaw_number.kp Nlaw_number.b .nil pass0 (pa_cons (pv 0) pa_nil)))) pss_nil)
      (pss_cons (ps_if (pt_cmpR op_eq (pv 1) pe_str (nomark _)) (pss_one (ps_ret (pe_ix ix_list (pe_lst (pa_cons pe_str (pa_cons pe_str (pa_cons pe_str (pa_cons pe_str pa_nil))))) (pe_call Glaw_take (hr.mono (by decide)) (by rfl) Nlaw_take.g Nlaw_take.kp Nlaw_take.b .nil pass0 (pa_cons (pv 0) (pa_cons pe_int pa_nil))) (fun _ _ => rfl)))) pss_nil)
      (pss_one (ps_ret (pe_ix ix_list (pe_lst (pa_cons pe_str (pa_cons pe_str (pa_cons pe_str pa_nil)))) (pe_call Glaw_take (hr.mono (by decide)) (by rfl) Nlaw_take.g Nlaw_take.kp Nlaw_take.b .nil pass0 (pa_cons (pv 0) (pa_cons pe_int pa_nil))) (fun _ _ => rfl)))))), ?_⟩
    have d1 : ∀ y : So, decide (V.str y.sign = V.str (Str.ofString "N")) = (match y with | .name => true | _ => false) := by intro y; cases y <;> decide +kernel
    have d2 : ∀ y : So, decide (V.str y.sign = V.str (Str.ofString "K")) = (match y with | .number => true | _ => false) := by intro y; cases y <;> decide +kernel
    have d3 : ∀ y : So, decide (V.str y.sign = V.str (Str.ofString "H")) = (match y with | .thing => true | _ => false) := by intro y; cases y <;> decide +kernel
    refine ⟨_, rfl, rfl, _, rfl, ?_⟩
    rw [d1]
    cases x with
    | name => exact ⟨_, rfl, b, n, rfl, hB, n0, n1, k⟩
    | number =>
      refine iteF ⟨_, rfl, rfl, _, rfl, ?_⟩
      rw [d2]
      exact ⟨_, rfl, b, n, rfl, hB, n0, n1, k⟩
    | thing =>
      refine iteF ⟨_, rfl, rfl, _, rfl, ?_⟩
      rw [d2]
      refine iteF ⟨_, rfl, rfl, _, rfl, ?_⟩
      rw [d3]
      refine ⟨by show 4 ≤ sizeLine; decide, fun L hL => ?_⟩
      have nLb : L ≠ b := hB.fresh hL
      refine ⟨_, rfl, b, 4, n, rfl, hB.alloc hL, by omega, by decide, by decide, fun j H2 j0 j1 off2 B2 => ?_⟩
      obtain ⟨v, hv, ev⟩ := atI_ex (xs := things.map V.str) j0 (by rw [show (things.map V.str).length = 4 from rfl]; exact j1)
      obtain ⟨z, hz, rfl⟩ := List.mem_map.mp hv
      exact ⟨L, _, j, _, rfl, rfl, SqL.of (by rw [off2 L nLb, upd_same]; rfl), ev, k (.s z) H2 hz ((KB.alloc hL).trans (KB.off off2)) (B2.mono (by omega))⟩
    | kind =>
      refine iteF ⟨_, rfl, rfl, _, rfl, ?_⟩
      rw [d2]
      refine iteF ⟨_, rfl, rfl, _, rfl, ?_⟩
      rw [d3]
      refine iteF ⟨by show 3 ≤ sizeLine; decide, fun L hL => ?_⟩
      have nLb : L ≠ b := hB.fresh hL
      refine ⟨_, rfl, b, 3, n, rfl, hB.alloc hL, by omega, by decide, by decide, fun j H2 j0 j1 off2 B2 => ?_⟩
      obtain ⟨v, hv, ev⟩ := atI_ex (xs := kinds.map V.str) j0 (by rw [show (kinds.map V.str).length = 3 from rfl]; exact j1)
      obtain ⟨z, hz, rfl⟩ := List.mem_map.mp hv
      exact ⟨L, _, j, _, rfl, rfl, SqL.of (by rw [off2 L nLb, upd_same]; rfl), ev, k (.s z) H2 hz ((KB.alloc hL).trans (KB.off off2)) (B2.mono (by omega))⟩
end
end F4

set_option maxRecDepth 100000
set_option maxHeartbeats 800000
namespace F4
open PySem PySem.Spec PyProof.Rows L2 GxR Gd TL My
/-! ### a row, word by word -/
def Fw.sg : Fw → Str
  | .lit z => z
  | .so x => x.sign
theorem forms_sg : ∀ j : Nat, j < 14 → ∃ fm, fm ∈ forms ∧ ∃ z, (formTexts.map V.str)[j]? = some (.str z) ∧ z.length ≤ 40 ∧ Txt.split z (Str.ofString " ") = fm.2.2.map Fw.sg := by
  have key : ∀ j : Nat, j < 14 → ((forms[j]?.bind fun fm => formTexts[j]?.map fun z => decide (z.length ≤ 40) && decide (Txt.split z (Str.ofString " ") = fm.2.2.map Fw.sg)) = some true) := by decide +kernel
  intro j hj
  have h := key j hj
  cases e : forms[j]? with
  | none => rw [e] at h; cases h
  | some fm =>
    cases e2 : formTexts[j]? with
    | none => rw [e, e2] at h; cases h
    | some z =>
      rw [e, e2] at h
      have h : (decide (z.length ≤ 40) && decide (Txt.split z (Str.ofString " ") = fm.2.2.map Fw.sg)) = true := Option.some.inj h
      rw [Bool.and_eq_true, decide_eq_true_eq, decide_eq_true_eq] at h
      exact ⟨fm, List.mem_of_getElem? e, z, by rw [List.getElem?_map, e2]; rfl, h.1, h.2⟩
theorem joinL_snoc {S : List Nat} : ∀ {ps : List (List Nat)} {p : List Nat}, ps ≠ [] → joinL S (ps ++ [p]) = joinL S ps ++ (S ++ p)
  | [], _, h => absurd rfl h
  | [q], p, _ => rfl
  | q :: r :: t, p, _ => by
    show q ++ (S ++ joinL S ((r :: t) ++ [p])) = q ++ (S ++ joinL S (r :: t)) ++ (S ++ p)
    rw [joinL_snoc (by simp)]
    simp
theorem join_snoc {y z : Str} {l : List Str} (h : l ≠ []) : Txt.join y (l ++ [z]) = Txt.join y l ++ y ++ z := by
  have e : tl (Txt.join y (l ++ [z])) = tl (Txt.join y l ++ y ++ z) := by
    rw [join_eq, join_eq, tl_join, tl_append, tl_append, tl_join, List.map_append, List.map_cons, List.map_nil, joinL_snoc (by simpa using h), List.append_assoc]
  rw [← mk_tl (Txt.join y (l ++ [z])), e, mk_tl]
theorem fit_lit {f : List Fw} {ps : List Pa} (h : Fit f ps) (z : Str) : Fit (f ++ [.lit z]) ps ∧ row (f ++ [.lit z]) ps = row f ps ++ [z] := by
  induction h with
  | nil => exact ⟨.lit .nil, rfl⟩
  | lit _ ih => exact ⟨.lit ih.1, congrArg (List.cons _) ih.2⟩
  | so hx _ ih => exact ⟨.so hx ih.1, congrArg (List.cons _) ih.2⟩
theorem fit_so {f : List Fw} {ps : List Pa} (h : Fit f ps) {x : So} {p : Pa} (hp : x.ok p) : Fit (f ++ [.so x]) (ps ++ [p]) ∧ row (f ++ [.so x]) (ps ++ [p]) = row f ps ++ [p.t] := by
  induction h with
  | nil => exact ⟨.so hp .nil, rfl⟩
  | lit _ ih => exact ⟨.lit ih.1, congrArg (List.cons _) ih.2⟩
  | so hx _ ih => exact ⟨.so hx ih.1, congrArg (List.cons _) ih.2⟩
/-- no literal is a sign of a sort -/
theorem sg_in : ∀ f ∈ forms, ∀ x ∈ f.2.2, inV (.str x.sg) ([Str.ofString "N", Str.ofString "K", Str.ofString "H", Str.ofString "D"].map V.str) = (match x with | .so _ => true | .lit _ => false) := by
  have key : ∀ f ∈ forms, ∀ x ∈ f.2.2, (decide (x.sg ∈ [Str.ofString "N", Str.ofString "K", Str.ofString "H", Str.ofString "D"])) = (match x with | .so _ => true | .lit _ => false) := by decide +kernel
  intro f hf x hx
  rw [in_strs]
  exact key f hf x hx
section
variable {P : Program} {w : World} {K : PySem.W.Frag} {mg : Str → Option Value} {base : Heap} {P1 P2 P3 aSORTS aFORMS : Addr} {fs : So → Addr} {es ef : Array DictEntry} {nS nF : Nat} {tM : Tok}
abbrev s_law_deed : Stmt := top 37
theorem sc_law_deed : FnScope ["_law_box_here", "_law_words", "_law_deed_here", "_law_row", "_law_word"] ["_law_box_here"] (defScope s_law_deed) := ⟨rfl, rfl, rfl, by decide +kernel, rfl, by decide +kernel, by decide +kernel⟩
def spLawDeed : Sp := fun vs H Q _ => ∃ (b : Addr) (n : Int), vs = [.ref b] ∧ Bx b n H ∧ 0 ≤ n ∧ n ≤ 80000 ∧ ∀ (fm : String × String × List Fw) (ps : List Pa) (r d : Addr) (H' : Hp), fm ∈ forms → Fit fm.2.2 ps → KB b H H' → Bx b (n + 50) H' → H r = none → H' r = some (.lst [.ref d, .str (rowT fm ps)]) → H' d = some (.tup (dv fm ps)) → Q (.ref r) H'
theorem ok_law_deed {f f1 f2 fT : Addr} {fd fd1 fd2 fdT : FuncData} (F : Fun K "_law_deed" "_law_deed" s_law_deed f fd) (T : Txt mg)
    (Nlaw_take : Fn K mg "_law_take" sTake ["_law_box_here", "_law_many"] fT fdT) (Glaw_take : FnOk P w K mg base CX0 1 fT fdT ["_law_box_here", "_law_many"] spTake)
    (Nlaw_forms : Fn K mg "_law_forms" s_law_forms [] f1 fd1) (Glaw_forms : FnOk P w K mg base CX0 1 f1 fd1 [] spForms)
    (Nlaw_part : Fn K mg "_law_part" s_law_part ["_law_box_here", "_law_sign"] f2 fd2) (Glaw_part : FnOk P w K mg base CX0 3 f2 fd2 ["_law_box_here", "_law_sign"] (spDrawOf 8)) :
    FnOk P w K mg base CX0 4 f fd ["_law_box_here"] spLawDeed := by
  refine F.ok sc_law_deed (fun vs H Q E h => ?_) (fun cdv A outer s H vs Q E hr h => ?_)
  · obtain ⟨b, n, rfl, _⟩ := h
    rfl
  · obtain ⟨b, n, rfl, hB, n0, n1, k⟩ := h
    refine ⟨_, pss_cons (ps_set (i := 1) sc_law_deed.nd rfl (Or.inl rfl) (pe_split (pe_ix ix_list (pe_call0 Glaw_forms (hr.mono (by decide)) (by rfl) Nlaw_forms.g Nlaw_forms.kp Nlaw_forms.b .nil pass0) (pe_call Glaw_take (hr.mono (by decide)) (by rfl) Nlaw_take.g Nlaw_take.kp Nlaw_take.b .nil pass0 (pa_cons (pv 0) (pa_cons pe_int pa_nil))) (fun _ _ => rfl)) pe_str))
      (pss_cons (ps_set (i := 2) sc_law_deed.nd rfl (Or.inl rfl) (pe_tup (pa_cons (pe_ix ix_list (pv 1) pe_int (fun _ _ => rfl)) pa_nil)))
      (pss_cons (ps_set (i := 3) sc_law_deed.nd rfl (Or.inl rfl) (pe_ix ix_list (pv 1) pe_int (fun _ _ => rfl)))
      (pss_cons (ps_for PassesOwn.never rfl (pi_list (pe_slice sl_list (pv 1) (po_some pe_int) po_none)) (pg_name (i := 4) sc_law_deed.nd rfl (Or.inl rfl)) (pss_one (ps_if (pt_cmpR op_in_seq (pv 4) (pe_tup (pa_cons pe_str (pa_cons pe_str (pa_cons pe_str (pa_cons pe_str pa_nil))))) rfl) (pss_cons (ps_set (i := 2) sc_law_deed.nd rfl (Or.inl rfl) (pe_op op_catA (pv 2) (pe_tup (pa_cons (pe_call Glaw_part (hr.mono (by decide)) (by rfl) Nlaw_part.g Nlaw_part.kp Nlaw_part.b .nil pass0 (pa_cons (pv 0) (pa_cons (pv 4) pa_nil))) pa_nil))))
              (pss_one (ps_set (i := 3) sc_law_deed.nd rfl (Or.inl rfl) (pe_op op_add_str (pe_op op_add_str (pv 3) pe_str) (pe_callTy call_str_is (by rfl) T.str_ (by decide +kernel) (pa_cons (pe_ix ix_tup (pv 2) (pe_un un_neg pe_int) (fun _ _ => rfl)) pa_nil)))))) (pss_one (ps_set (i := 3) sc_law_deed.nd rfl (Or.inl rfl) (pe_op op_add_str (pe_op op_add_str (pv 3) pe_str) (pv 4)))))))
      (pss_one (ps_ret (pe_lst (pa_cons (pv 2) (pa_cons (pv 3) pa_nil)))))))), ?_⟩
    refine ⟨rfl, fun L1 H1 hL1 s1 e1 => ?_⟩
    have nL1b : L1 ≠ b := hB.fresh hL1
    have B1 : Bx b n H1 := hB.same (by obtain ⟨x, y, z, h1, _⟩ := hB; rw [h1]; exact s1 _ _ h1)
    refine ⟨_, rfl, b, 14, n, rfl, B1, by omega, by decide, by decide, fun j H2 j0 j1 off2 B2 => ?_⟩
    obtain ⟨j, rfl⟩ := Int.eq_ofNat_of_zero_le j0
    obtain ⟨fm, hfm, z, ez, lz, sz⟩ := forms_sg j (by omega)
    refine ⟨L1, _, j, _, rfl, rfl, SqL.of (by rw [off2 L1 nL1b]; exact e1), atI_nat ez, ⟨_, rfl⟩, _, _, rfl, rfl, rfl, Nat.le_trans (Nat.add_le_add_right lz 2) (by decide), fun W hW => ?_⟩
    rw [sz]
    have k2 : KB b H H2 := fun c o nc e => (off2 c nc).trans (s1 c o e)
    obtain ⟨fr, efr⟩ := forms_head fm hfm
    have l6 := forms_len fm hfm
    have fin := forms_in fm hfm
    have hsg := sg_in
    have nWb : W ≠ b := B2.fresh hW
    have kW : KB b H2 (upd H2 W (.lst ((fm.2.2.map Fw.sg).map V.str))) := KB.alloc hW
    have BW : Bx b (n + 1) (upd H2 W (.lst ((fm.2.2.map Fw.sg).map V.str))) := B2.alloc hW
    have eW : upd H2 W (.lst ((fm.2.2.map Fw.sg).map V.str)) W = some (.lst ((fm.2.2.map Fw.sg).map V.str)) := upd_same
    generalize upd H2 W (.lst ((fm.2.2.map Fw.sg).map V.str)) = H3 at kW BW eW ⊢
    have k3 : KB b H H3 := k2.trans kW
    have a0 : atI ((fm.2.2.map Fw.sg).map V.str) 0 = some (.str (Str.ofString fm.1)) := by rw [efr]; exact atI_nat (j := 0) rfl
    refine ⟨_, rfl, W, _, 0, _, rfl, rfl, SqL.of eW, a0, by show 1 ≤ sizeLine; decide, fun d hd => ?_⟩
    have ndW : d ≠ W := fun z => by rw [z, eW] at hd; cases hd
    refine ⟨_, rfl, W, _, 0, _, rfl, rfl, SqL.of (by rw [upd_ne ndW.symm]; exact eW), a0, ?_⟩
    refine ⟨_, rfl, _, rfl, W, _, rfl, SqL.of (by rw [upd_ne ndW.symm]; exact eW), fun M hM => ?_⟩
    have nMd : M ≠ d := fun z => by rw [z, upd_same] at hM; cases hM
    have nMb : M ≠ b := (BW.alloc hd).fresh hM
    have ndb : d ≠ b := BW.fresh hd
    have ecut : cutV ((fm.2.2.map Fw.sg).map V.str) (some 1) none = (fr.map Fw.sg).map V.str := by rw [efr]; exact cut1 _ _
    rw [ecut]
    have k4 : KB b H3 (upd (upd H3 d (.tup [.str (Str.ofString fm.1)])) M (.lst ((fr.map Fw.sg).map V.str))) := (KB.alloc hd).trans (KB.alloc hM)
    have B4 : Bx b (n + 1) (upd (upd H3 d (.tup [.str (Str.ofString fm.1)])) M (.lst ((fr.map Fw.sg).map V.str))) := (BW.alloc hd).alloc hM
    have eM : upd (upd H3 d (.tup [.str (Str.ofString fm.1)])) M (.lst ((fr.map Fw.sg).map V.str)) M = some (.lst ((fr.map Fw.sg).map V.str)) := upd_same
    have ed : upd (upd H3 d (.tup [.str (Str.ofString fm.1)])) M (.lst ((fr.map Fw.sg).map V.str)) d = some (.tup [.str (Str.ofString fm.1)]) := by rw [upd_ne nMd.symm, upd_same]
    generalize upd (upd H3 d (.tup [.str (Str.ofString fm.1)])) M (.lst ((fr.map Fw.sg).map V.str)) = H4 at k4 B4 eM ed ⊢
    have lfr : fr.length ≤ 5 := by rw [efr] at l6; exact Nat.le_of_succ_le_succ l6
    refine ⟨M, rfl, ⟨_, SqL.of eM⟩, for_it (D := ⟨_, _, fun _ _ => False, fun _ _ => False⟩) (walk_list (K := K) (xs := (fr.map Fw.sg).map V.str))
      (fun i σ H' => ∃ (x : Option V) (d' : Addr) (done : List Pa), σ = [some (.ref b), some (.ref W), some (.ref d'), some (.str (Txt.join (Str.ofString " ") (Str.ofString fm.1 :: row (fr.take i) done))), x] ∧ Fit (fr.take i) done ∧ H' d' = some (.tup (dv fm done)) ∧ H' M = some (.lst ((fr.map Fw.sg).map V.str)) ∧ KB b H3 H' ∧ Bx b (n + 1 + 8 * i) H')
      ⟨_, d, [], rfl, .nil, ed, eM, k4, B4.mono (by omega)⟩ (fun i σ H' _ h => by obtain ⟨_, _, _, _, _, _, h, _⟩ := h; exact SqL.of h) ?_ ?_⟩
    · rintro i v σ H5 H5' hi ⟨x, d', done, rfl, h1, h2, h3, h4, h5⟩ ⟨rfl, hv⟩
      obtain ⟨fw, hx⟩ : ∃ fw, fr[i]? = some fw := ⟨_, List.getElem?_eq_getElem (by simpa using hi)⟩
      obtain rfl : v = .str fw.sg := by
        rw [List.getElem?_map, List.getElem?_map, hx] at hv
        exact (Option.some.inj hv).symm
      have i5 : i < 5 := by
        have : i < fr.length := by simpa using hi
        omega
      have hfw : fw ∈ fm.2.2 := by rw [efr]; exact List.mem_cons_of_mem _ (List.mem_of_getElem? hx)
      have et := take_at hx
      have wk : ∀ z ∈ Str.ofString fm.1 :: row (fr.take i) done, Wok z := row_wok (f := .lit (Str.ofString fm.1) :: fr.take i) (.lit h1) (fun y hy => fin y (by rw [efr]; rcases List.mem_cons.mp hy with rfl | hy; exact List.mem_cons_self ..; exact List.mem_cons_of_mem _ (List.mem_of_mem_take hy)))
      have jl := My.join_len (Str.ofString " ") (Str.ofString fm.1 :: row (fr.take i) done)
      have s7 := sum_wok wk
      have rl := row_len h1
      rw [List.length_take] at rl
      rw [show (Str.ofString " ").length = 1 by decide +kernel, List.length_cons] at jl
      rw [List.length_cons] at s7
      have l60 : (Txt.join (Str.ofString " ") (Str.ofString fm.1 :: row (fr.take i) done)).length ≤ 60 := by omega
      refine ⟨_, rfl, by show 4 ≤ sizeLine; decide, fun q hq => ?_⟩
      have hin := hsg fm hfm fw hfw
      refine ⟨q, [Str.ofString "N", Str.ofString "K", Str.ofString "H", Str.ofString "D"].map V.str, rfl, .inr (SqT.of upd_same), rfl, strs_flat _, _, rfl, ?_⟩
      rw [if_neg Bool.false_ne_true, hin]
      have nqb : q ≠ b := h5.fresh hq
      have nqd : d' ≠ q := ne_of_none h2 hq
      have g2 : upd H5' q (.tup [.str (Str.ofString "N"), .str (Str.ofString "K"), .str (Str.ofString "H"), .str (Str.ofString "D")]) d' = some (.tup (dv fm done)) := by rw [upd_ne nqd]; exact h2
      have g3 : upd H5' q (.tup [.str (Str.ofString "N"), .str (Str.ofString "K"), .str (Str.ofString "H"), .str (Str.ofString "D")]) M = some (.lst ((fr.map Fw.sg).map V.str)) := by rw [upd_ne (ne_of_none h3 hq)]; exact h3
      have g4 : KB b H3 (upd H5' q (.tup [.str (Str.ofString "N"), .str (Str.ofString "K"), .str (Str.ofString "H"), .str (Str.ofString "D")])) := h4.trans (KB.alloc hq)
      have g5 : Bx b (n + 1 + 8 * i) (upd H5' q (.tup [.str (Str.ofString "N"), .str (Str.ofString "K"), .str (Str.ofString "H"), .str (Str.ofString "D")])) := h5.alloc hq
      generalize upd H5' q (.tup [.str (Str.ofString "N"), .str (Str.ofString "K"), .str (Str.ofString "H"), .str (Str.ofString "D")]) = H6 at g2 g3 g4 g5 ⊢
      clear h2 h3 h4 h5 hq
      have lb : (Txt.join (Str.ofString " ") (Str.ofString fm.1 :: row (fr.take i) done)).length + (Str.ofString " ").length ≤ 61 := by rw [show (Str.ofString " ").length = 1 by decide +kernel]; omega
      have lc2 : (Txt.join (Str.ofString " ") (Str.ofString fm.1 :: row (fr.take i) done) ++ Str.ofString " ").length ≤ 61 := by
        rw [len_tl, tl_append, List.length_append, ← len_tl, ← len_tl]; exact lb
      cases fw with
      | lit z =>
        have wz : Wok z := lits_wok z (fin _ hfw)
        refine ⟨_, rfl, _, _, rfl, rfl, small_line (by omega), _, rfl, _, _, rfl, rfl, small_line (by have := wz.2.1; show _ + z.length ≤ _; omega), ?_⟩
        refine ⟨_, d', done, by rw [et, (fit_lit h1 z).2, ← List.cons_append, join_snoc (by simp)]; rfl, by rw [et]; exact (fit_lit h1 z).1, g2, g3, g4, g5.mono (by omega)⟩
      | so y =>
        refine ⟨_, rfl, _, rfl, _, rfl, b, n + 1 + 8 * i, y, rfl, g5, by omega, by omega, fun p H7 okp k7 B7 => ?_⟩
        refine ⟨by show 1 ≤ sizeLine; decide, fun u hu => ?_⟩
        have f2 : H7 d' = some (.tup (dv fm done)) := k7 _ _ (fun z => by subst z; obtain ⟨_, _, _, e, _⟩ := g5; rw [e] at g2; cases g2) g2
        have f3 : H7 M = some (.lst ((fr.map Fw.sg).map V.str)) := k7 _ _ nMb g3
        have ld : done.length ≤ 5 := by
          have := fit_len h1
          have := sorts_le (fr.take i)
          rw [List.length_take] at this
          omega
        refine ⟨d', u, dv fm done, [p.v], rfl, rfl, SqT.of (by rw [upd_ne (ne_of_none f2 hu)]; exact f2), SqT.of upd_same, ?_, fun z => absurd z (by simp [dv]), fun _ z => absurd z (by simp), fun _ _ t ht => ?_⟩
        · show (done.map Pa.v).length + 1 + 1 ≤ sizeLine
          rw [List.length_map]
          exact small_line (by omega)
        · have edv : dv fm done ++ [p.v] = dv fm (done ++ [p]) := by
            show V.str _ :: (done.map Pa.v ++ [p.v]) = V.str _ :: (done ++ [p]).map Pa.v
            rw [List.map_append]; rfl
          have elast : atI (dv fm done ++ [p.v]) (-1) = some p.v := atI_last _ _
          have wp := pa_wok okp
          refine ⟨_, rfl, _, _, rfl, rfl, small_line (by omega), _, rfl, _, rfl, t, _, -1, p.v, rfl, rfl, SqT.of upd_same, elast, p, rfl, pa_log okp, _, _, rfl, rfl, small_line (by have := wp.2.1; omega), ?_⟩
          refine ⟨_, t, done ++ [p], by rw [et, (fit_so h1 okp).2, ← List.cons_append, join_snoc (by simp)]; rfl, by rw [et]; exact (fit_so h1 okp).1, by rw [upd_same, edv], ?_, ?_, ?_⟩
          · have nu : M ≠ u := ne_of_none f3 hu
            have nt : M ≠ t := fun z => by rw [← z, upd_ne nu, f3] at ht; cases ht
            rw [upd_ne nt, upd_ne nu]; exact f3
          · exact ((g4.trans k7).trans (KB.alloc hu)).trans (KB.alloc ht)
          · exact ((B7.alloc hu).alloc ht).mono (by omega)
    · rintro σ H5 ⟨x, d', done, rfl, h1, h2, h3, h4, h5⟩
      have e0 : fr.take ((fr.map Fw.sg).map V.str).length = fr := by rw [List.length_map, List.length_map, List.take_length]
      rw [e0] at h1 ⊢
      have ff : Fit fm.2.2 done := by rw [efr]; exact .lit h1
      have er : rowT fm done = Txt.join (Str.ofString " ") (Str.ofString fm.1 :: row fr done) := by unfold rowT; rw [efr]; rfl
      rw [← er]
      refine ⟨_, rfl, _, rfl, by show 2 ≤ sizeLine; decide, fun r hr5 => ?_⟩
      have nrb : r ≠ b := h5.fresh hr5
      have k5 := k3.trans h4
      refine k fm done r d' _ hfm ff (k5.trans (KB.alloc hr5)) ((h5.alloc hr5).mono ?_) ?_ upd_same ?_
      · have : ((fr.map Fw.sg).map V.str).length ≤ 5 := by rw [List.length_map, List.length_map]; exact lfr
        omega
      · cases e : H r with
        | none => rfl
        | some o => rw [k5 r o nrb e] at hr5; cases hr5
      · rw [upd_ne (ne_of_none h2 hr5)]; exact h2
end
end F4

set_option maxRecDepth 100000
set_option maxHeartbeats 1000000
/-! A tuple or a list of any things beside an empty one. -/
namespace My
open PySem PySem.Spec PyProof.Rows L2 GxR Gd TL
def rEqT0 (K : PySem.W.Frag) : R2 := fun x y H Q => ∃ a b xs, x = .ref a ∧ y = .ref b ∧ SqT K H a xs ∧ SqT K H b [] ∧ Q (.bl xs.isEmpty) H
theorem op_eqT0 {X : Cx} (hu : X.A.units < cLine) : OpR X (compareOp .Eq) (rEqT0 X.K) := by
  rintro pins s σ H x y v u Q I rx ry ⟨a, b, xs, rfl, rfl, ha, hb, q⟩
  cases rx
  cases ry
  obtain ⟨us, r1, p1, _⟩ := I.tuple ha
  obtain ⟨ws, r2, p2, _⟩ := I.tuple hb
  cases r2
  refine SeqAt.eq_tupleAt (e := fun _ => true) p1 p2 hu (fun j _ h2 => absurd h2 (Nat.not_lt_zero j)) ⟨.bl _, H, I, ?_, q⟩
  cases r1 with
  | nil => rfl
  | cons _ _ => rfl
def rNeL0 (K : PySem.W.Frag) : R2 := fun x y H Q => ∃ a b xs, x = .ref a ∧ y = .ref b ∧ SqL K H a xs ∧ SqL K H b [] ∧ Q (.bl (!xs.isEmpty)) H
theorem op_neL0 {X : Cx} (hu : X.A.units < cLine) : OpR X (compareOp .NotEq) (rNeL0 X.K) := by
  rintro pins s σ H x y v u Q I rx ry ⟨a, b, xs, rfl, rfl, ha, hb, q⟩
  cases rx
  cases ry
  obtain ⟨us, r1, p1, _⟩ := I.list ha
  obtain ⟨ws, r2, p2, _⟩ := I.list hb
  cases r2
  cases r1 with
  | nil => exact (SeqAt.RcNeAt.lists (e := fun _ => true) p1.isList p2.isList rfl hu (fun j h1 _ => absurd h1 (Nat.not_lt_zero j))) _ _ _ _ ⟨.bl _, H, I, rfl, q⟩
  | cons h t => exact (SeqAt.RcNeAt.lists_lengths p1.isList p2.isList rfl hu) _ _ _ _ ⟨.bl _, H, I, rfl, q⟩
end My

set_option maxRecDepth 100000
set_option maxHeartbeats 1000000
/-! A list of any things beside an empty one (==); two lists of the same objects (!=). -/
namespace My
open PySem PySem.Spec PyProof.Rows L2 GxR Gd TL
def rEqL0 (K : PySem.W.Frag) : R2 := fun x y H Q => ∃ a b xs, x = .ref a ∧ y = .ref b ∧ SqL K H a xs ∧ SqL K H b [] ∧ Q (.bl xs.isEmpty) H
theorem op_eqL0 {X : Cx} (hu : X.A.units < cLine) : OpR X (compareOp .Eq) (rEqL0 X.K) := by
  rintro pins s σ H x y v u Q I rx ry ⟨a, b, xs, rfl, rfl, ha, hb, q⟩
  cases rx
  cases ry
  obtain ⟨us, r1, p1, _⟩ := I.list ha
  obtain ⟨ws, r2, p2, _⟩ := I.list hb
  cases r2
  cases r1 with
  | nil => exact SeqAt.eq_listAt (e := fun _ => true) p1.isList p2.isList rfl hu (fun j h1 _ => absurd h1 (Nat.not_lt_zero j)) ⟨.bl _, H, I, rfl, q⟩
  | cons h t => exact SeqAt.eq_list_lengthsAt p1.isList p2.isList rfl hu ⟨.bl _, H, I, rfl, q⟩
/-- objects only -/
def allRef (xs : List V) : Prop := ∀ x ∈ xs, ∃ c, x = .ref c
theorem vals_ref : ∀ {xs : List V} {us ws : List Value}, allRef xs → Vals xs us → Vals xs ws → us = ws
  | _, _, _, _, .nil, .nil => rfl
  | x :: xs, _, _, h, .cons r1 t1, .cons r2 t2 => by
    obtain ⟨c, rfl⟩ := h x (List.mem_cons_self ..)
    cases r1
    cases r2
    rw [vals_ref (fun y hy => h y (List.mem_cons_of_mem _ hy)) t1 t2]
def rNeLS (K : PySem.W.Frag) : R2 := fun x y H Q => ∃ a b xs, x = .ref a ∧ y = .ref b ∧ SqL K H a xs ∧ SqL K H b xs ∧ allRef xs ∧ Q (.bl false) H
theorem op_neLS {X : Cx} (hu : X.A.units < cLine) : OpR X (compareOp .NotEq) (rNeLS X.K) := by
  rintro pins s σ H x y v u Q I rx ry ⟨a, b, xs, rfl, rfl, ha, hb, hr, q⟩
  cases rx
  cases ry
  obtain ⟨us, r1, p1, _⟩ := I.list ha
  obtain ⟨ws, r2, p2, _⟩ := I.list hb
  obtain rfl := vals_ref hr r1 r2
  refine (SeqAt.RcNeAt.lists (e := fun _ => true) p1.isList p2.isList rfl hu (fun j h1 _ => SeqAt.EqAt.same _)) _ _ _ _ ⟨.bl false, H, I, ?_, q⟩
  show Value.bool (!_) = Value.bool false
  congr 1
  simp
end My

set_option maxRecDepth 100000
set_option maxHeartbeats 800000
namespace F4
open PySem PySem.Spec PyProof.Rows L2 GxR Gd TL My
theorem low_mem (c : Nat) : decide (c ∈ (Str.ofString "abcdefghijklmnopqrstuvwxyz").cps.toList) = lc c := by
  have e : (Str.ofString "abcdefghijklmnopqrstuvwxyz").cps.toList = (List.range 26).map (97 + ·) := by decide +kernel
  rw [e, Bool.eq_iff_iff, decide_eq_true_eq, List.mem_map]
  unfold lc
  simp only [Bool.and_eq_true, decide_eq_true_eq, List.mem_range]
  constructor
  · rintro ⟨a, ha, rfl⟩
    omega
  · rintro ⟨h1, h2⟩
    exact ⟨c - 97, by omega, by omega⟩
theorem all_filter {f : Nat → Bool} : ∀ l : List Nat, l.all f = decide (l.filter (fun c => !f c) = [])
  | [] => rfl
  | c :: r => by
    cases h : f c with
    | true => rw [List.all_cons, h, Bool.true_and, all_filter r, List.filter_cons_of_neg (by simp [h])]
    | false =>
      rw [List.all_cons, h, Bool.false_and, List.filter_cons_of_pos (by simp [h])]
      simp
theorem dig_mem (c : Nat) : decide (c ∈ (Str.ofString "0123456789").cps.toList) = dg c := by
  have e : (Str.ofString "0123456789").cps.toList = (List.range 10).map (48 + ·) := by decide +kernel
  rw [e, Bool.eq_iff_iff, decide_eq_true_eq, List.mem_map]
  unfold dg
  simp only [Bool.and_eq_true, decide_eq_true_eq, List.mem_range]
  constructor
  · rintro ⟨a, ha, rfl⟩
    omega
  · intro h
    exact ⟨c - 48, by omega, by omega⟩
theorem snoc_of {α : Type} : ∀ {l : List α}, l ≠ [] → ∃ r x, l = r ++ [x]
  | [], h => absurd rfl h
  | [a], _ => ⟨[], a, rfl⟩
  | a :: b :: t, _ => by
    obtain ⟨r, x, e⟩ := snoc_of (l := b :: t) (by simp)
    exact ⟨a :: r, x, by rw [e]; rfl⟩
theorem canon : ∀ (n : Nat) {ds : List Nat}, ds.length = n → NumText.AllDigits ds → ds ≠ [] → (ds.head? ≠ some 48 ∨ ds.length = 1) → numL (NumText.digitsVal ds) = ds := by
  intro n
  induction n using Nat.strongRecOn with
  | _ n ih =>
    intro ds hn hd hne hz
    obtain ⟨cs, c, rfl⟩ := snoc_of hne
    have hc := hd c (List.mem_append_right _ (List.mem_singleton.mpr rfl))
    have hcs : NumText.AllDigits cs := fun x hx => hd x (List.mem_append_left _ hx)
    rw [NumText.digitsVal_snoc]
    by_cases e : cs = []
    · subst e
      have z : NumText.digitsVal ([] : List Nat) = 0 := rfl
      rw [z, numL_lt (by omega)]
      show [48 + (0 * 10 + (c - 48))] = [c]
      congr 1
      omega
    · have hl : cs.length < n := by rw [← hn, List.length_append]; exact Nat.lt_succ_self _
      have h1 : cs.head? ≠ some 48 := by
        rcases hz with hz | hz
        · cases cs with
          | nil => exact absurd rfl e
          | cons a r => exact hz
        · rw [List.length_append] at hz
          have : 0 < cs.length := List.length_pos_iff.mpr e
          have hz : cs.length + 1 = 1 := hz
          omega
      have q := ih cs.length hl rfl hcs e (.inl h1)
      have pos : 1 ≤ NumText.digitsVal cs := by
        cases v : NumText.digitsVal cs with
        | zero =>
          rw [v] at q
          have z : numL 0 = [48] := numL_lt (by decide)
          rw [z] at q
          rw [← q] at h1
          exact absurd rfl h1
        | succ k => omega
      rw [numL_step (by omega), show (NumText.digitsVal cs * 10 + (c - 48)) / 10 = NumText.digitsVal cs by omega, show (NumText.digitsVal cs * 10 + (c - 48)) % 10 = c - 48 by omega, q, show 48 + (c - 48) = c by omega]
theorem lead {ds : List Nat} (h : NumText.AllDigits ds) (h0 : ds.head? = some 48) (h1 : 1 < ds.length) : numL (NumText.digitsVal ds) ≠ ds := by
  cases ds with
  | nil => cases h0
  | cons a r =>
    have h0 : a = 48 := by simpa using h0
    subst h0
    intro e
    have v : NumText.digitsVal (48 :: r) = NumText.digitsVal r := rfl
    have hr : NumText.AllDigits r := fun x hx => h x (List.mem_cons_of_mem _ hx)
    have l := vals_lt hr
    rw [v] at e
    have r1 : 0 < r.length := by rw [List.length_cons] at h1; omega
    have := numL_len r1 l
    rw [e, List.length_cons] at this
    omega
theorem txt_num (n : Nat) (z : Str) : Str.ofString (toString ((n : Nat) : Int)) = z ↔ numL n = tl z := by
  refine ⟨fun h => by rw [← h, tl_num], fun h => tl_inj1 (by rw [tl_num, h])⟩
abbrev dvD (d : Dd) : List V := dv d.1 d.2
def okD (d : Dd) : Prop := d.1 ∈ forms ∧ Fit d.1.2.2 d.2
abbrev rowD (d : Dd) : Str := rowT d.1 d.2
/-- the number that a word writes, as the law reads it -/
def numR (z : Str) : Option Nat := if ((decide (1 ≤ z.length) && decide (z.length ≤ 6)) && (tl z).all dg && !(decide ((tl z).head? = some 48) && decide (1 < z.length))) = true then some (valOf z) else none
theorem nm_len (z : Str) : nm (.str z) = (decide (1 ≤ z.length) && decide (z.length ≤ 6) && z.cps.toList.all lc) := rfl
theorem num_eq (z : Str) : (∀ n, numR z = some n → partOf z = .n ((n : Nat) : Int) ∧ n ≤ 999999) ∧ (numR z = none → So.number.okB (partOf z).v = false) := by
  refine ⟨fun n h => ?_, fun h => ?_⟩
  · unfold numR at h
    split at h
    · rename_i c
      obtain rfl := Option.some.inj h
      simp only [Bool.and_eq_true, decide_eq_true_eq, Bool.not_eq_true', Bool.and_eq_false_iff, decide_eq_false_iff_not] at c
      obtain ⟨⟨⟨c1, c2⟩, c3⟩, c4⟩ := c
      have ad := all_dg.mp c3
      have dg : digs z = true := by
        unfold digs
        rw [decide_eq_true c1, decide_eq_true c2, c3]
        rfl
      have ne : tl z ≠ [] := fun e => by
        rw [len_tl, e] at c1
        exact absurd c1 (by decide)
      have cn := canon _ rfl ad ne (by
        rcases c4 with c4 | c4
        · exact .inl c4
        · right
          rw [len_tl] at c1 c4
          omega)
      have v6 := valOf_lt dg
      refine ⟨?_, by omega⟩
      have cz : Str.ofString (toString ((valOf z : Nat) : Int)) = z := (txt_num _ _).mpr cn
      unfold partOf
      rw [dg, if_pos rfl, if_pos cz]
    · cases h
  · unfold partOf
    split
    · rename_i hd
      split
      · rename_i e
        have e := (txt_num _ _).mp e
        have hd' := hd
        unfold digs at hd'
        simp only [Bool.and_eq_true, decide_eq_true_eq] at hd'
        obtain ⟨⟨d1, d2⟩, d3⟩ := hd'
        unfold numR at h
        rw [if_pos] at h
        · cases h
        · rw [decide_eq_true d1, decide_eq_true d2, d3]
          have : (decide ((tl z).head? = some 48) && decide (1 < z.length)) = false := by
            rw [Bool.and_eq_false_iff, decide_eq_false_iff_not, decide_eq_false_iff_not]
            refine Classical.or_iff_not_imp_left.mpr fun h0 q => ?_
            exact lead (all_dg.mp d3) (Classical.not_not.mp h0) (by rw [← len_tl]; exact q) e
          rw [this]
          rfl
      · rfl
    · rfl
/-- a word that is a part and no number stays what it is -/
theorem text_eq {x : So} (nx : x ≠ .number) (z : Str) : x.okB (partOf z).v = x.okB (.str z) ∧ (x.okB (.str z) = true → partOf z = .s z) := by
  have key : x.okB (.str z) = true → partOf z = .s z := fun h => partOf_t (x := x) (p := .s z) (okB_pa.mp h)
  refine ⟨?_, key⟩
  cases h : x.okB (.str z) with
  | true =>
    rw [key h]
    exact h
  | false =>
    unfold partOf
    split
    · split
      · cases x with
        | number => exact absurd rfl nx
        | _ => rfl
      · exact h
    · exact h
section
variable {P : Program} {w : World} {K : PySem.W.Frag} {mg : Str → Option Value} {base : Heap}
abbrev s_law_is_name : Stmt := top 38
theorem sc_law_is_name : FnScope ["_law_thing", "_law_letters", "_law_sign"] ["_law_thing"] (defScope s_law_is_name) := ⟨rfl, rfl, rfl, by decide +kernel, rfl, by decide +kernel, by decide +kernel⟩
abbrev s_law_number_read : Stmt := top 39
theorem sc_law_number_read : FnScope ["_law_word", "_law_sign"] ["_law_word"] (defScope s_law_number_read) := ⟨rfl, rfl, rfl, by decide +kernel, rfl, by decide +kernel, by decide +kernel⟩
abbrev s_law_is_part : Stmt := top 40
theorem sc_law_is_part : FnScope ["_law_sign", "_law_thing"] ["_law_sign", "_law_thing"] (defScope s_law_is_part) := ⟨rfl, rfl, rfl, by decide +kernel, rfl, by decide +kernel, by decide +kernel⟩
def spLawName : Sp := fun vs H Q _ => ∃ (v : V), vs = [v] ∧ Th H v ∧ ∀ H', Same H H' → Q (.bl (nm v)) H'
theorem ok_law_is_name {f : Addr} {fd : FuncData} (F : Fun K "_law_is_name" "_law_is_name" s_law_is_name f fd) (T : Txt mg) :
    FnOk P w K mg base CX0 2 f fd ["_law_thing"] spLawName := by
  refine F.ok sc_law_is_name (fun vs H Q E h => ?_) (fun cdv A outer s H vs Q E hr h => ?_)
  · obtain ⟨z, rfl, _⟩ := h
    rfl
  · obtain ⟨v, rfl, th, k⟩ := h
    have hu := Nat.lt_of_le_of_lt (Nat.le_add_right _ 64) hr.units
    refine ⟨_, pss_cons (ps_set (i := 1) sc_law_is_name.nd rfl (Or.inr rfl) pe_str)
      (pss_cons (ps_if (PW.pt (pw_or (pt_not (pt_val (pe_callB call_isi (by rfl) T.isinstance_ (by decide +kernel) (pa_cons (pv 0) (pa_cons (pe_bltn (v := .ty "str") (by rfl) T.str_ (by decide +kernel) rfl) pa_nil))))) (pw_or1 (pt_not (pt_chain op_le op_le pe_int (pe_callB call_len_str (by rfl) T.len_ PySem.boot_len (pa_cons (pv 0) pa_nil)) pe_int))))) (pss_one (ps_ret pe_bl)) pss_nil)
      (pss_one (ps_ret (pe_cmpR (op_eqL0 hu) (pe_lc (own := [("_law_sign", 2)]) (g := gName 2) rfl sc_law_is_name.nd (pi_str (pv 0)) (blkOk_by (own := [("_law_sign", 2)]) (N := ["_law_thing", "_law_letters", "_law_sign"]) (sc := defScope s_law_is_name) (by decide +kernel)) (fun _ _ _ _ _ => (pg_name (i := 2) sc_law_is_name.nd rfl (Or.inl rfl))) (fun _ _ _ _ _ => pts_one (pt_cmpR op_notIn_str (pv 2) (pv 1) rfl)) (fun _ _ _ _ _ => (pv 2))) (pe_lst pa_nil) (nomark _))))), ?_⟩
    have no : nm v = false → Q (.bl false) H := fun e => by
      have := k H (Same.refl H)
      rw [e] at this
      exact this
    obtain ⟨t, ty, cs⟩ := th.ty (K := K)
    have nA : ∀ z : Str, ¬ 1 ≤ z.length → nm (.str z) = false := fun z h => by rw [nm_len, decide_eq_false h, Bool.false_and, Bool.false_and]
    have nB : ∀ z : Str, ¬ z.length ≤ 6 → nm (.str z) = false := fun z h => by rw [nm_len, decide_eq_false h, Bool.and_false, Bool.false_and]
    rcases cs with ⟨i, rfl, rfl⟩ | ⟨b, rfl, rfl⟩ | ⟨z, rfl, ⟨hz, _⟩, rfl⟩ | ⟨n1, n2, n3, ht⟩
    · exact ⟨_, rfl, _, _, _, _, false, rfl, .ty "str", ty, (by rfl), _, rfl, iteT (iteT (no rfl))⟩
    · exact ⟨_, rfl, _, _, _, _, false, rfl, .ty "str", ty, (by rfl), _, rfl, iteT (iteT (no rfl))⟩
    · refine ⟨_, rfl, _, _, _, _, true, rfl, .ty "str", ty, (by rfl), _, rfl, iteF ?_⟩
      refine ⟨_, rfl, z, rfl, Nat.le_trans hz (by decide), _, _, rfl, rfl, ?_⟩
      refine ⟨_, rfl, ite2 (fun c0 => ?_) (fun c0 => ⟨_, rfl, iteT (no (nA z ?_))⟩)⟩
      case refine_2 =>
        have : ¬ ((1 : Int) ≤ z.length) := of_decide_eq_false (by simpa using c0)
        omega
      refine ⟨_, _, rfl, rfl, _, rfl, ite2 (fun c1 => ?_) (fun c1 => ?_)⟩
      · refine no (nB z ?_)
        have : ¬ ((z.length : Int) ≤ 6) := by simpa using c1
        omega
      have l0 : 1 ≤ z.length := by have := of_decide_eq_true c0; omega
      have l6 : z.length ≤ 6 := by
        have : (z.length : Int) ≤ 6 := by simpa using c1
        omega
      refine ⟨_, rfl, z, rfl, fun D hD => lc_it walk_str (fun i H' => ∃ cs : List Nat, H' D = some (.lst (cs.map fun c => V.str ⟨#[c]⟩)) ∧ cs = (z.cps.toList.take i).filter (fun c => !lc c) ∧ Same H H') ?_ ?_ ?_ ?_⟩
      · exact ⟨[], upd_same, rfl, same_alloc hD⟩
      · intros; trivial
      · rintro i x H1 H2 hi ⟨cs, e1, e2, s1⟩ ⟨rfl, c, hc, rfl⟩
        refine ⟨rfl, _, rfl, _, rfl, _, _, rfl, rfl, _, rfl, ?_⟩
        rw [StrLaws.found_one, low_mem]
        have hc' : z.cps.toList[i]? = some c := by rw [Array.getElem?_toList]; exact hc
        cases hl : lc c with
        | true => exact ⟨cs, e1, by rw [take_at hc', List.filter_append, e2]; simp [hl], s1⟩
        | false =>
          refine ⟨_, rfl, _, e1, ?_, cs ++ [c], ?_, by rw [take_at hc', List.filter_append, e2]; simp [hl], ?_⟩
          · rw [List.length_map, e2]
            have h1 := List.length_filter_le (fun c => !lc c) (z.cps.toList.take i)
            have h2 := List.length_take_le i z.cps.toList
            have h3 : i < z.length := hi
            exact lt_line _ (by omega)
          · rw [upd_same, List.map_append]
            rfl
          · exact fun c o h => by
              rw [upd_ne (ne_of_none h hD)]
              exact s1 _ _ h
      · rintro H1 ⟨cs, e1, e2, s1⟩
        rw [List.take_of_length_le (by exact Nat.le_refl _)] at e2
        refine ⟨Nat.zero_le _, fun L hL => ?_⟩
        refine ⟨D, L, _, rfl, rfl, SqL.of (same_alloc hL _ _ e1), SqL.of upd_same, ?_⟩
        have sL := s1.trans (same_alloc (o := .lst []) hL)
        generalize upd H1 L (.lst []) = H3 at sL ⊢
        have em : (cs.map fun c => V.str ⟨#[c]⟩).isEmpty = z.cps.toList.all lc := by
          rw [all_filter, ← e2]
          cases cs <;> rfl
        rw [em]
        have q := k H3 sL
        rw [nm_len, decide_eq_true l0, decide_eq_true l6, Bool.true_and, Bool.true_and] at q
        exact q
    · have e : nm v = false := by
        cases v with
        | str z => exact absurd rfl (n3 z)
        | _ => rfl
      rcases ht with rfl | rfl | rfl | rfl
      · exact ⟨_, rfl, _, _, _, _, false, rfl, .ty "str", ty, (by rfl), _, rfl, iteT (iteT (no e))⟩
      · exact ⟨_, rfl, _, _, _, _, false, rfl, .ty "str", ty, (by rfl), _, rfl, iteT (iteT (no e))⟩
      · exact ⟨_, rfl, _, _, _, _, false, rfl, .ty "str", ty, (by rfl), _, rfl, iteT (iteT (no e))⟩
      · exact ⟨_, rfl, _, _, _, _, false, rfl, .ty "str", ty, (by rfl), _, rfl, iteT (iteT (no e))⟩
def spLawNum : Sp := fun vs H Q _ => ∃ (z : Str), vs = [.str z] ∧ z.length ≤ 200000 ∧ ∀ H', Same H H' → (numR z = none → Q .non H') ∧ ∀ n, numR z = some n → Q (.int (n : Nat)) H'
theorem ok_law_number_read {f : Addr} {fd : FuncData} (F : Fun K "_law_number_read" "_law_number_read" s_law_number_read f fd) (T : Txt mg) :
    FnOk P w K mg base CX0 2 f fd ["_law_word"] spLawNum := by
  refine F.ok sc_law_number_read (fun vs H Q E h => ?_) (fun cdv A outer s H vs Q E hr h => ?_)
  · obtain ⟨z, rfl, _⟩ := h
    rfl
  · obtain ⟨z, rfl, zl, k⟩ := h
    have hu := Nat.lt_of_le_of_lt (Nat.le_add_right _ 64) hr.units
    refine ⟨_, pss_cons (ps_if (PW.pt (pw_or (pt_not (pt_chain op_le op_le pe_int (pe_callB call_len_str (by rfl) T.len_ PySem.boot_len (pa_cons (pv 0) pa_nil)) pe_int)) (pw_or1 (pt_cmpR (op_neL0 hu) (pe_lc (own := [("_law_sign", 1)]) (g := gName 1) rfl sc_law_number_read.nd (pi_str (pv 0)) (blkOk_by (own := [("_law_sign", 1)]) (N := ["_law_word", "_law_sign"]) (sc := defScope s_law_number_read) (by decide +kernel)) (fun _ _ _ _ _ => (pg_name (i := 1) sc_law_number_read.nd rfl (Or.inl rfl))) (fun _ _ _ _ _ => pts_one (pt_cmpR op_notIn_str (pv 1) pe_str rfl)) (fun _ _ _ _ _ => (pv 1))) (pe_lst pa_nil) (nomark _))))) (pss_one (ps_ret pe_non)) pss_nil)
      (pss_cons (ps_if (PW.pt (pw_and (pt_cmpR op_gt (pe_callB call_len_str (by rfl) T.len_ PySem.boot_len (pa_cons (pv 0) pa_nil)) pe_int (nomark _)) (pw_and1 (pt_cmpR op_eq (pe_ix ix_str (pv 0) pe_int (fun _ _ => rfl)) pe_str (nomark _))))) (pss_one (ps_ret pe_non)) pss_nil)
      (pss_one (ps_ret (pe_callTy call_int_str (by rfl) T.int_ (by decide +kernel) (pa_cons (pv 0) pa_nil))))), ?_⟩
    have no : ∀ H', Same H H' → numR z = none → Q .non H' := fun H' s e => (k H' s).1 e
    have nn : ∀ {c : Bool}, c = false → (if c = true then some (valOf z) else none) = none := fun {c} h => by rw [h]; rfl
    refine ⟨_, rfl, z, rfl, small_line (by omega), _, _, rfl, rfl, ?_⟩
    refine ⟨_, rfl, ite2 (fun c0 => ?_) (fun c0 => ⟨_, rfl, iteT (no H (Same.refl H) (nn ?_))⟩)⟩
    case refine_2 =>
      have : ¬ ((1 : Int) ≤ z.length) := of_decide_eq_false (by simpa using c0)
      rw [decide_eq_false (p := 1 ≤ z.length) (by omega)]
      simp
    refine ⟨_, _, rfl, rfl, _, rfl, ite2 (fun c1 => ?_) (fun c1 => ?_)⟩
    · refine iteT (no H (Same.refl H) (nn ?_))
      have : ¬ ((z.length : Int) ≤ 6) := by simpa using c1
      rw [decide_eq_false (p := z.length ≤ 6) (by omega)]
      simp
    have l0 : 1 ≤ z.length := by have := of_decide_eq_true c0; omega
    have l6 : z.length ≤ 6 := by
      have : (z.length : Int) ≤ 6 := by simpa using c1
      omega
    refine ⟨_, rfl, z, rfl, fun D hD => lc_it walk_str (fun i H' => ∃ cs : List Nat, H' D = some (.lst (cs.map fun c => V.str ⟨#[c]⟩)) ∧ cs = (z.cps.toList.take i).filter (fun c => !dg c) ∧ Same H H') ?_ ?_ ?_ ?_⟩
    · exact ⟨[], upd_same, rfl, same_alloc hD⟩
    · intros; trivial
    · rintro i x H1 H2 hi ⟨cs, e1, e2, s1⟩ ⟨rfl, c, hc, rfl⟩
      refine ⟨rfl, _, rfl, _, _, rfl, rfl, _, rfl, ?_⟩
      rw [StrLaws.found_one, dig_mem]
      have hc' : z.cps.toList[i]? = some c := by rw [Array.getElem?_toList]; exact hc
      cases hl : dg c with
      | true => exact ⟨cs, e1, by rw [take_at hc', List.filter_append, e2]; simp [hl], s1⟩
      | false =>
        refine ⟨_, rfl, _, e1, ?_, cs ++ [c], ?_, by rw [take_at hc', List.filter_append, e2]; simp [hl], ?_⟩
        · rw [List.length_map, e2]
          have h1 := List.length_filter_le (fun c => !dg c) (z.cps.toList.take i)
          have h2 := List.length_take_le i z.cps.toList
          have h3 : i < z.length := hi
          exact lt_line _ (by omega)
        · rw [upd_same, List.map_append]
          rfl
        · exact fun c o h => by
            rw [upd_ne (ne_of_none h hD)]
            exact s1 _ _ h
    · rintro H1 ⟨cs, e1, e2, s1⟩
      rw [List.take_of_length_le (by exact Nat.le_refl _)] at e2
      refine ⟨Nat.zero_le _, fun L hL => ?_⟩
      refine ⟨D, L, _, rfl, rfl, SqL.of (same_alloc hL _ _ e1), SqL.of upd_same, ?_⟩
      have sL := s1.trans (same_alloc (o := .lst []) hL)
      generalize upd H1 L (.lst []) = H3 at sL ⊢
      have em : (cs.map fun c => V.str ⟨#[c]⟩).isEmpty = z.cps.toList.all dg := by
        rw [all_filter, ← e2]
        cases cs <;> rfl
      rw [em]
      have yes : ¬ ((tl z).head? = some 48 ∧ 1 < z.length) → z.cps.toList.all dg = true → numR z = some (valOf z) := fun nz hd => by
        unfold numR
        rw [decide_eq_true l0, decide_eq_true l6, show (tl z).all dg = true from hd]
        have : (decide ((tl z).head? = some 48) && decide (1 < z.length)) = false := by
          rw [Bool.and_eq_false_iff, decide_eq_false_iff_not, decide_eq_false_iff_not]
          exact Classical.or_iff_not_imp_left.mpr fun h => fun q => nz ⟨Classical.not_not.mp h, q⟩
        rw [this]
        rfl
      refine ⟨_, rfl, ?_⟩
      cases hd : z.cps.toList.all dg with
      | false =>
        refine iteT (no H3 sL (nn ?_))
        rw [show (tl z).all dg = false from hd]
        simp
      | true =>
        have yes := fun nz => yes nz hd
        have hg : digs z = true := by
          unfold digs
          rw [decide_eq_true l0, decide_eq_true l6]
          exact hd
        obtain ⟨c0', r0, ec0⟩ : ∃ c r, z.cps.toList = c :: r := by
          cases q : z.cps.toList with
          | nil =>
            have : (tl z).length = 0 := by rw [show tl z = [] from q]; rfl
            rw [← len_tl] at this
            omega
          | cons c r => exact ⟨c, r, rfl⟩
        have hh : (tl z).head? = some c0' := by rw [show tl z = c0' :: r0 from ec0]; rfl
        have e48 : decide (V.str ⟨#[c0']⟩ = V.str (Str.ofString "0")) = decide (c0' = 48) := by
          rw [Bool.eq_iff_iff, decide_eq_true_eq, decide_eq_true_eq]
          refine ⟨fun h => ?_, fun h => by rw [h]; rfl⟩
          have q := congrArg tl (V.str.inj h)
          have q2 : [c0'] = [48] := q.trans (by decide +kernel)
          exact (List.cons.inj q2).1
        refine iteF ⟨_, rfl, z, rfl, small_line (by omega), _, _, rfl, rfl, _, rfl, ite2 (fun c2 => ?_) (fun c2 => ?_)⟩
        · have c2 : (1 : Int) < z.length := of_decide_eq_true c2
          refine ⟨_, rfl, z, 0, c0', rfl, rfl, small_line (by omega), by rw [ec0]; exact atI_nat (j := 0) rfl, rfl, _, rfl, ?_⟩
          rw [e48]
          refine ite2 (fun c48 => ?_) (fun c48 => ?_)
          · have c48 : c0' = 48 := of_decide_eq_true c48
            refine no H3 sL (nn ?_)
            rw [hh, c48, decide_eq_true (show 1 < z.length by omega)]
            simp
          · have c48 : ¬ c0' = 48 := of_decide_eq_false (by simpa using c48)
            have nz : ¬ ((tl z).head? = some 48 ∧ 1 < z.length) := fun h => c48 (by rw [hh] at h; exact Option.some.inj h.1)
            exact ⟨_, rfl, _, _, rfl, int_read hg, by omega, (k _ sL).2 _ (yes nz)⟩
        · have c2 : ¬ (1 : Int) < z.length := of_decide_eq_false (by simpa using c2)
          have nz : ¬ ((tl z).head? = some 48 ∧ 1 < z.length) := fun h => by omega
          exact iteF ⟨_, rfl, _, _, rfl, int_read hg, by omega, (k _ sL).2 _ (yes nz)⟩
def spLawPart : Sp := fun vs H Q _ => ∃ (x : So) (v : V), vs = [.str x.sign, v] ∧ Th H v ∧ ∀ H', Same H H' → Q (.bl (x.okB v)) H'
theorem ok_law_is_part {f f1 : Addr} {fd fd1 : FuncData} (F : Fun K "_law_is_part" "_law_is_part" s_law_is_part f fd) (T : Txt mg)
    (Nlaw_is_name : Fn K mg "_law_is_name" s_law_is_name ["_law_thing"] f1 fd1) (Glaw_is_name : FnOk P w K mg base CX0 2 f1 fd1 ["_law_thing"] spLawName) :
    FnOk P w K mg base CX0 3 f fd ["_law_sign", "_law_thing"] spLawPart := by
  refine F.ok sc_law_is_part (fun vs H Q E h => ?_) (fun cdv A outer s H vs Q E hr h => ?_)
  · obtain ⟨x, v, rfl, _⟩ := h
    rfl
  · obtain ⟨x, v, rfl, th, k⟩ := h
    refine ⟨_, pss_cons (ps_if (pt_cmpR op_eq (pv 0) pe_str (nomark _)) (pss_one (ps_ret (pe_call Glaw_is_name (hr.mono (by decide)) (by rfl) Nlaw_is_name.g Nlaw_is_name.kp Nlaw_is_name.b .nil pass0 (pa_cons (pv 1) pa_nil)))) pss_nil)
      (pss_cons (ps_if (pt_cmpR op_eq (pv 0) pe_str (nomark _)) (pss_one (ps_ret (pe_and (pe_callB call_isi (by rfl) T.isinstance_ (by decide +kernel) (pa_cons (pv 1) (pa_cons (pe_bltn (v := .ty "int") (by rfl) T.int_ (by decide +kernel) rfl) pa_nil))) (pe_and (pe_not (pe_callB call_isi (by rfl) T.isinstance_ (by decide +kernel) (pa_cons (pv 1) (pa_cons (pe_bltn (v := .ty "bool") (by rfl) T.bool_ (by decide +kernel) rfl) pa_nil)))) (pe_one (pe_chain op_le op_le pe_int (pv 1) pe_int)))))) pss_nil)
      (pss_cons (ps_if (pt_not (pt_val (pe_callB call_isi (by rfl) T.isinstance_ (by decide +kernel) (pa_cons (pv 1) (pa_cons (pe_bltn (v := .ty "str") (by rfl) T.str_ (by decide +kernel) rfl) pa_nil))))) (pss_one (ps_ret pe_bl)) pss_nil)
      (pss_one (ps_ret (pe_cmpR op_in_seq (pv 1) (pe_ix ix_list (pe_lst (pa_cons (pe_lst (pa_cons pe_str (pa_cons pe_str (pa_cons pe_str pa_nil)))) (pa_cons (pe_lst (pa_cons pe_str (pa_cons pe_str (pa_cons pe_str (pa_cons pe_str pa_nil))))) pa_nil))) (pe_callTy call_int1 (by rfl) T.int_ (by decide +kernel) (pa_cons (pe_cmpR op_eq (pv 0) pe_str (nomark _)) pa_nil)) (fun _ _ => rfl)) rfl))))), ?_⟩
    have d1 : ∀ y : So, decide (V.str y.sign = V.str (Str.ofString "N")) = (match y with | .name => true | _ => false) := by intro y; cases y <;> decide +kernel
    have d2 : ∀ y : So, decide (V.str y.sign = V.str (Str.ofString "K")) = (match y with | .number => true | _ => false) := by intro y; cases y <;> decide +kernel
    have d3 : ∀ y : So, decide (V.str y.sign = V.str (Str.ofString "H")) = (match y with | .thing => true | _ => false) := by intro y; cases y <;> decide +kernel
    refine ⟨_, rfl, rfl, _, rfl, ?_⟩
    rw [d1]
    have kk := k H (Same.refl H)
    cases x with
    | name => exact ⟨_, rfl, v, rfl, th, k⟩
    | number =>
      refine iteF ⟨_, rfl, rfl, _, rfl, ?_⟩
      rw [d2]
      obtain ⟨t, ty, cs⟩ := th.ty (K := K)
      rcases cs with ⟨i, rfl, rfl⟩ | ⟨b, rfl, rfl⟩ | ⟨z, rfl, _, rfl⟩ | ⟨n1, n2, n3, ht⟩
      · refine ⟨_, rfl, _, _, _, _, true, rfl, .ty "int", ty, (by rfl), _, rfl, iteT ?_⟩
        refine ⟨_, rfl, _, _, _, _, false, rfl, .ty "bool", ty, (by rfl), _, rfl, _, rfl, iteT ?_⟩
        refine ⟨_, rfl, _, _, rfl, rfl, _, rfl, ite2 (fun c => ?_) (fun c => ?_)⟩
        · refine ⟨_, _, rfl, rfl, ?_⟩
          have e : decide (i ≤ 999999) = So.number.okB (.int i) := by
            have c : (0 : Int) ≤ i := of_decide_eq_true c
            show _ = (decide ((0 : Int) ≤ i) && decide (i ≤ 999999))
            rw [decide_eq_true c, Bool.true_and]
          show Q (.bl (decide (i ≤ 999999))) H
          rw [e]; exact kk
        · have e : false = So.number.okB (.int i) := by
            have c : ¬ (0 : Int) ≤ i := by simpa using c
            show _ = (decide ((0 : Int) ≤ i) && decide (i ≤ 999999))
            rw [decide_eq_false c, Bool.false_and]
          show Q (.bl false) H
          rw [e]; exact kk
      · refine ⟨_, rfl, _, _, _, _, true, rfl, .ty "int", ty, (by rfl), _, rfl, iteT ?_⟩
        exact ⟨_, rfl, _, _, _, _, true, rfl, .ty "bool", ty, (by rfl), _, rfl, _, rfl, iteF kk⟩
      · exact ⟨_, rfl, _, _, _, _, false, rfl, .ty "int", ty, (by rfl), _, rfl, iteF kk⟩
      · have e : So.number.okB v = false := by
          cases v with
          | int i => exact absurd rfl (n1 i)
          | _ => rfl
        rw [e] at kk
        rcases ht with rfl | rfl | rfl | rfl
        · exact ⟨_, rfl, _, _, _, _, false, rfl, .ty "int", ty, (by rfl), _, rfl, iteF kk⟩
        · exact ⟨_, rfl, _, _, _, _, false, rfl, .ty "int", ty, (by rfl), _, rfl, iteF kk⟩
        · exact ⟨_, rfl, _, _, _, _, false, rfl, .ty "int", ty, (by rfl), _, rfl, iteF kk⟩
        · exact ⟨_, rfl, _, _, _, _, false, rfl, .ty "int", ty, (by rfl), _, rfl, iteF kk⟩
    | thing =>
      refine iteF ⟨_, rfl, rfl, _, rfl, ?_⟩
      rw [d2]
      refine iteF ?_
      obtain ⟨t, ty, cs⟩ := th.ty (K := K)
      rcases cs with ⟨i, rfl, rfl⟩ | ⟨b, rfl, rfl⟩ | ⟨z, rfl, _, rfl⟩ | ⟨n1, n2, n3, ht⟩
      · exact ⟨_, rfl, _, _, _, _, false, rfl, .ty "str", ty, (by rfl), _, rfl, iteT kk⟩
      · exact ⟨_, rfl, _, _, _, _, false, rfl, .ty "str", ty, (by rfl), _, rfl, iteT kk⟩
      · refine ⟨_, rfl, _, _, _, _, true, rfl, .ty "str", ty, (by rfl), _, rfl, iteF ?_⟩
        refine ⟨_, rfl, by show 3 ≤ sizeLine; decide, fun a ha => ⟨by show 4 ≤ sizeLine; decide, fun b hb => ⟨two_line, fun c hc => ?_⟩⟩⟩
        refine ⟨_, rfl, rfl, .inr ⟨_, rfl, ?_⟩⟩
        rw [d3]
        have sm := (same_alloc (o := .lst [.str "through", .str "lock", .str "open"]) ha).trans ((same_alloc (o := .lst [.str "staff", .str "ticket", .str "pilot", .str "long"]) hb).trans (same_alloc (o := .lst [.ref a, .ref b]) hc))
        refine ⟨c, [.ref a, .ref b], 1, .ref b, rfl, rfl, SqL.of upd_same, rfl, ?_⟩
        refine ⟨b, things.map V.str, rfl, .inl (SqL.of ?_), rfl, strs_flat _, ?_⟩
        · rw [upd_ne (ne_of_none (upd_same (H := upd H a (.lst [.str "through", .str "lock", .str "open"])) (o := .lst [.str "staff", .str "ticket", .str "pilot", .str "long"])) hc), upd_same]
          rfl
        · have q := k _ sm
          show Q (.bl (inV (.str z) (things.map V.str))) _
          rw [in_strs]
          exact q
      · have e : So.thing.okB v = false := by
          cases v with
          | str z => exact absurd rfl (n3 z)
          | _ => rfl
        rw [e] at kk
        rcases ht with rfl | rfl | rfl | rfl
        · exact ⟨_, rfl, _, _, _, _, false, rfl, .ty "str", ty, (by rfl), _, rfl, iteT kk⟩
        · exact ⟨_, rfl, _, _, _, _, false, rfl, .ty "str", ty, (by rfl), _, rfl, iteT kk⟩
        · exact ⟨_, rfl, _, _, _, _, false, rfl, .ty "str", ty, (by rfl), _, rfl, iteT kk⟩
        · exact ⟨_, rfl, _, _, _, _, false, rfl, .ty "str", ty, (by rfl), _, rfl, iteT kk⟩
    | kind =>
      refine iteF ⟨_, rfl, rfl, _, rfl, ?_⟩
      rw [d2]
      refine iteF ?_
      obtain ⟨t, ty, cs⟩ := th.ty (K := K)
      rcases cs with ⟨i, rfl, rfl⟩ | ⟨b, rfl, rfl⟩ | ⟨z, rfl, _, rfl⟩ | ⟨n1, n2, n3, ht⟩
      · exact ⟨_, rfl, _, _, _, _, false, rfl, .ty "str", ty, (by rfl), _, rfl, iteT kk⟩
      · exact ⟨_, rfl, _, _, _, _, false, rfl, .ty "str", ty, (by rfl), _, rfl, iteT kk⟩
      · refine ⟨_, rfl, _, _, _, _, true, rfl, .ty "str", ty, (by rfl), _, rfl, iteF ?_⟩
        refine ⟨_, rfl, by show 3 ≤ sizeLine; decide, fun a ha => ⟨by show 4 ≤ sizeLine; decide, fun b hb => ⟨two_line, fun c hc => ?_⟩⟩⟩
        refine ⟨_, rfl, rfl, .inr ⟨_, rfl, ?_⟩⟩
        rw [d3]
        have sm := (same_alloc (o := .lst [.str "through", .str "lock", .str "open"]) ha).trans ((same_alloc (o := .lst [.str "staff", .str "ticket", .str "pilot", .str "long"]) hb).trans (same_alloc (o := .lst [.ref a, .ref b]) hc))
        refine ⟨c, [.ref a, .ref b], 0, .ref a, rfl, rfl, SqL.of upd_same, rfl, ?_⟩
        have ea : upd (upd H a (.lst [.str "through", .str "lock", .str "open"])) b (.lst [.str "staff", .str "ticket", .str "pilot", .str "long"]) a = some (.lst [.str "through", .str "lock", .str "open"]) := same_alloc hb _ _ upd_same
        refine ⟨a, kinds.map V.str, rfl, .inl (SqL.of ?_), rfl, strs_flat _, ?_⟩
        · rw [upd_ne (ne_of_none ea hc), ea]
          rfl
        · have q := k _ sm
          show Q (.bl (inV (.str z) (kinds.map V.str))) _
          rw [in_strs]
          exact q
      · have e : So.kind.okB v = false := by
          cases v with
          | str z => exact absurd rfl (n3 z)
          | _ => rfl
        rw [e] at kk
        rcases ht with rfl | rfl | rfl | rfl
        · exact ⟨_, rfl, _, _, _, _, false, rfl, .ty "str", ty, (by rfl), _, rfl, iteT kk⟩
        · exact ⟨_, rfl, _, _, _, _, false, rfl, .ty "str", ty, (by rfl), _, rfl, iteT kk⟩
        · exact ⟨_, rfl, _, _, _, _, false, rfl, .ty "str", ty, (by rfl), _, rfl, iteT kk⟩
        · exact ⟨_, rfl, _, _, _, _, false, rfl, .ty "str", ty, (by rfl), _, rfl, iteT kk⟩
end
end F4

set_option maxRecDepth 100000
set_option maxHeartbeats 1600000
namespace F4
open PySem PySem.Spec PyProof.Rows L2 GxR Gd TL My
/-! ### the law's reading of a row -/
theorem forms_sgj : ∀ j : Nat, j < 14 → ∃ fm z, forms[j]? = some fm ∧ (formTexts.map V.str)[j]? = some (.str z) ∧ z.length ≤ 40 ∧ Txt.split z (Str.ofString " ") = fm.2.2.map Fw.sg := by
  have key : ∀ j : Nat, j < 14 → ((forms[j]?.bind fun fm => formTexts[j]?.map fun z => decide (z.length ≤ 40) && decide (Txt.split z (Str.ofString " ") = fm.2.2.map Fw.sg)) = some true) := by decide +kernel
  intro j hj
  have h := key j hj
  cases e : forms[j]? with
  | none => rw [e] at h; cases h
  | some fm =>
    cases e2 : formTexts[j]? with
    | none => rw [e, e2] at h; cases h
    | some z =>
      rw [e, e2] at h
      have h : (decide (z.length ≤ 40) && decide (Txt.split z (Str.ofString " ") = fm.2.2.map Fw.sg)) = true := Option.some.inj h
      rw [Bool.and_eq_true, decide_eq_true_eq, decide_eq_true_eq] at h
      exact ⟨fm, z, rfl, by rw [List.getElem?_map, e2]; rfl, h.1, h.2⟩
theorem deedOf_none {z : Str} (h : ∀ (j : Nat) (fm : Fm), forms[j]? = some fm → ¬ (Str.ofString fm.1 = hd1 z ∧ fm.2.2.length = (wordsOf z).length)) : deedOf z = none := by
  by_cases e : hd1 z ∈ formNames
  · obtain ⟨fm, hf, e⟩ := List.mem_map.mp e
    rw [deedOf_in hf e.symm]
    obtain ⟨j, hj⟩ := List.mem_iff_getElem?.mp hf
    have nl : fm.2.2.length ≠ (wordsOf z).length := fun q => h j fm hj ⟨e, q⟩
    unfold rowOf
    rw [rdGo_eq, readGo_lens nl]
    rfl
  · exact deedOf_no e
theorem rdGo_lit {f : List Fw} {ws : List Str} {i : Nat} {z w : Str} (hf : f[i]? = some (.lit z)) (hw : ws[i]? = some w) : rdGo (f.drop i) (ws.drop i) = if z = w then rdGo (f.drop (i + 1)) (ws.drop (i + 1)) else none := by
  rw [drop_atG hf, drop_atG hw]
  rfl
theorem rdGo_so {f : List Fw} {ws : List Str} {i : Nat} {x : So} {w : Str} (hf : f[i]? = some (.so x)) (hw : ws[i]? = some w) : rdGo (f.drop i) (ws.drop i) = if x.okB (partOf w).v = true then (rdGo (f.drop (i + 1)) (ws.drop (i + 1))).map (partOf w :: ·) else none := by
  rw [drop_atG hf, drop_atG hw]
  rfl
/-- what the law takes for a part of a sort -/
def lawV (x : So) (w : Str) : V := match x with
  | .number => (match numR w with | none => .non | some n => .int (n : Nat))
  | _ => .str w
theorem lawV_ok (x : So) (w : Str) : x.okB (lawV x w) = x.okB (partOf w).v ∧ (x.okB (lawV x w) = true → lawV x w = (partOf w).v) := by
  cases x with
  | number =>
    obtain ⟨h1, h2⟩ := num_eq w
    unfold lawV
    dsimp only
    cases e : numR w with
    | none =>
      rw [h2 e]
      exact ⟨rfl, fun h => by cases h⟩
    | some n =>
      obtain ⟨a, b⟩ := h1 n e
      rw [a]
      exact ⟨rfl, fun _ => rfl⟩
  | name => obtain ⟨a, b⟩ := text_eq (x := .name) nofun w; exact ⟨a.symm, fun h => by rw [b h]; rfl⟩
  | thing => obtain ⟨a, b⟩ := text_eq (x := .thing) nofun w; exact ⟨a.symm, fun h => by rw [b h]; rfl⟩
  | kind => obtain ⟨a, b⟩ := text_eq (x := .kind) nofun w; exact ⟨a.symm, fun h => by rw [b h]; rfl⟩
theorem lawV_th {H : Hp} {x : So} {w : Str} (h : WOk w) : Th H (lawV x w) := by
  cases x with
  | number =>
    unfold lawV
    dsimp only
    cases numR w with
    | none => exact .non
    | some n => exact .int _
  | _ => exact h.th
theorem lawV_read {σ : L2.St} {H : Hp} {C : VK} {x : So} {y : Str} (h5 : σ[5]? = some (some (.str x.sign))) (h6 : σ[6]? = some (some (.str y))) (wy : WOk y) (k : ∀ H', Same H H' → C (lawV x y) H') :
    tIf (tTest (tOp rEq (tVar 5) (tC (V.str (Str.ofString "K"))))) (tCall spLawNum [] E0 (tCons (tVar 6) tNil)) (tVar 6) σ H C := by
  have d2 : ∀ y : So, decide (V.str y.sign = V.str (Str.ofString "K")) = (match y with | .number => true | _ => false) := by intro y; cases y <;> decide +kernel
  refine ⟨_, h5, rfl, _, rfl, ?_⟩
  rw [d2]
  cases x with
  | number =>
    refine iteT ⟨_, h6, y, rfl, wy.1, fun H' s => ⟨fun e => ?_, fun n e => ?_⟩⟩
    · have q := k H' s
      unfold lawV at q
      dsimp only at q
      rw [e] at q
      exact q
    · have q := k H' s
      unfold lawV at q
      dsimp only at q
      rw [e] at q
      exact q
  | name => exact iteF ⟨_, h6, k H (Same.refl H)⟩
  | thing => exact iteF ⟨_, h6, k H (Same.refl H)⟩
  | kind => exact iteF ⟨_, h6, k H (Same.refl H)⟩
section
variable {P : Program} {w : World} {K : PySem.W.Frag} {mg : Str → Option Value} {base : Heap}
abbrev s_law_deed_read : Stmt := top 41
theorem sc_law_deed_read : FnScope ["_law_row", "_law_words", "_law_form", "_law_due", "_law_deed_here", "_law_one", "_law_word"] ["_law_row"] (defScope s_law_deed_read) := ⟨rfl, rfl, rfl, by decide +kernel, rfl, by decide +kernel, by decide +kernel⟩
def spLawRead : Sp := fun vs H Q _ => ∃ (z : Str), vs = [.str z] ∧ WOk z ∧ (deedOf z = none → ∀ H', Same H H' → Q .non H') ∧ ∀ d, deedOf z = some d → ∀ t H', H t = none → Same H H' → H' t = some (.tup (dvD d)) → Q (.ref t) H'
theorem ok_law_deed_read {f f1 f2 f3 : Addr} {fd fd1 fd2 fd3 : FuncData} (F : Fun K "_law_deed_read" "_law_deed_read" s_law_deed_read f fd) (T : Txt mg)
    (Nlaw_forms : Fn K mg "_law_forms" s_law_forms [] f1 fd1) (Glaw_forms : FnOk P w K mg base CX0 1 f1 fd1 [] spForms)
    (Nlaw_number_read : Fn K mg "_law_number_read" s_law_number_read ["_law_word"] f2 fd2) (Glaw_number_read : FnOk P w K mg base CX0 2 f2 fd2 ["_law_word"] spLawNum)
    (Nlaw_is_part : Fn K mg "_law_is_part" s_law_is_part ["_law_sign", "_law_thing"] f3 fd3) (Glaw_is_part : FnOk P w K mg base CX0 3 f3 fd3 ["_law_sign", "_law_thing"] spLawPart) :
    FnOk P w K mg base CX0 4 f fd ["_law_row"] spLawRead := by
  refine F.ok sc_law_deed_read (fun vs H Q E h => ?_) (fun cdv A outer s H vs Q E hr h => ?_)
  · obtain ⟨z, rfl, _⟩ := h
    rfl
  · obtain ⟨z, rfl, wz, kn, kd⟩ := h
    refine ⟨_, pss_cons (ps_set (i := 1) sc_law_deed_read.nd rfl (Or.inl rfl) (pe_split (pv 0) pe_str))
      (pss_cons (ps_for PassesOwn.never rfl (pi_list (pe_call0 Glaw_forms (hr.mono (by decide)) (by rfl) Nlaw_forms.g Nlaw_forms.kp Nlaw_forms.b .nil pass0)) (pg_name (i := 2) sc_law_deed_read.nd rfl (Or.inl rfl)) (pss_cons (ps_set (i := 3) sc_law_deed_read.nd rfl (Or.inl rfl) (pe_split (pv 2) pe_str))
          (pss_one (ps_if (PW.pt (pw_and (pt_cmpR op_eq (pe_ix ix_list (pv 3) pe_int (fun _ _ => rfl)) (pe_ix ix_list (pv 1) pe_int (fun _ _ => rfl)) (nomark _)) (pw_and1 (pt_cmpR op_eq (pe_callB call_len_seq (by rfl) T.len_ PySem.boot_len (pa_cons (pv 3) pa_nil)) (pe_callB call_len_seq (by rfl) T.len_ PySem.boot_len (pa_cons (pv 1) pa_nil)) (nomark _))))) (pss_cons (ps_set (i := 4) sc_law_deed_read.nd rfl (Or.inl rfl) (pe_tup (pa_cons (pe_ix ix_list (pv 1) pe_int (fun _ _ => rfl)) pa_nil)))
              (pss_cons (ps_for PassesOwn.never rfl (pi_zip (by rfl) T.zip_ (pa_cons (pe_slice sl_list (pv 3) (po_some pe_int) po_none) (pa_cons (pe_slice sl_list (pv 1) (po_some pe_int) po_none) pa_nil))) (pg_tup (by rfl) (pgs_cons (pg_name (i := 5) sc_law_deed_read.nd rfl (Or.inl rfl)) (pgs_cons (pg_name (i := 6) sc_law_deed_read.nd rfl (Or.inl rfl)) pgs_nil))) (pss_one (ps_if (pt_cmpR op_in_seq (pv 5) (pe_tup (pa_cons pe_str (pa_cons pe_str (pa_cons pe_str (pa_cons pe_str pa_nil))))) rfl) (pss_cons (ps_set (i := 4) sc_law_deed_read.nd rfl (Or.inl rfl) (pe_op op_catA (pv 4) (pe_tup (pa_cons (pe_ifExp (pt_cmpR op_eq (pv 5) pe_str (nomark _)) (pe_call Glaw_number_read (hr.mono (by decide)) (by rfl) Nlaw_number_read.g Nlaw_number_read.kp Nlaw_number_read.b .nil pass0 (pa_cons (pv 6) pa_nil)) (pv 6)) pa_nil))))
                      (pss_one (ps_if (pt_not (pt_val (pe_call Glaw_is_part (hr.mono (by decide)) (by rfl) Nlaw_is_part.g Nlaw_is_part.kp Nlaw_is_part.b .nil pass0 (pa_cons (pv 5) (pa_cons (pe_ix ix_tup (pv 4) (pe_un un_neg pe_int) (fun _ _ => rfl)) pa_nil))))) (pss_one (ps_ret pe_non)) pss_nil))) (pss_one (ps_if (pt_cmpR op_ne (pv 5) (pv 6) (nomark _)) (pss_one (ps_ret pe_non)) pss_nil)))))
              (pss_one (ps_ret (pv 4))))) pss_nil))))
      (pss_one (ps_ret pe_non))), ?_⟩
    generalize hσ : L2.start _ _ = σ0
    obtain rfl : σ0 = [some (.str z), none, none, none, none, none, none] := hσ.symm.trans rfl
    obtain ⟨wr, ew⟩ := words_hd z
    have wk : ∀ p ∈ wordsOf z, WOk p := fun p hp => split_wok wz hp
    have lw : (wordsOf z).length ≤ 200002 := by
      have := PyProof.Rows.split_le z (Str.ofString " ")
      have := wz.1
      show (Txt.split z (Str.ofString " ")).length ≤ _
      omega
    refine ⟨_, rfl, ⟨_, rfl⟩, _, _, rfl, rfl, rfl, small_line (by have := wz.1; omega), fun W hW => ?_⟩
    rw [show Txt.split z (Str.ofString " ") = wordsOf z from rfl]
    have sW : Same H (upd H W (.lst ((wordsOf z).map V.str))) := same_alloc hW
    have eW : (upd H W (.lst ((wordsOf z).map V.str))) W = some (.lst ((wordsOf z).map V.str)) := upd_same
    generalize upd H W (.lst ((wordsOf z).map V.str)) = H1 at sW eW ⊢
    simp only [List.set_cons_succ, List.set_cons_zero]
    refine ⟨rfl, fun L H2 hL s2 eL => ⟨L, rfl, ⟨_, SqL.of eL⟩, for_it (D := ⟨_, _, _, _⟩) (walk_list (K := K) (xs := formTexts.map V.str)) (fun i σ H' => ∃ u2 u3 u4 u5 u6 : Option V, σ = [some (.str z), some (.ref W), u2, u3, u4, u5, u6] ∧ Same H2 H' ∧ ∀ (j : Nat) (fm : Fm), j < i → forms[j]? = some fm → ¬ (Str.ofString fm.1 = hd1 z ∧ fm.2.2.length = (wordsOf z).length)) ⟨_, _, _, _, _, rfl, Same.refl _, fun j fm hj => absurd hj (Nat.not_lt_zero j)⟩ (fun i σ H' _ h => by obtain ⟨_, _, _, _, _, _, s, _⟩ := h; exact (same_nt s).seq (SqL.of eL)) ?_ ?_⟩⟩
    · rintro i v σ H3 H3' hi ⟨u2, u3, u4, u5, u6, rfl, s3, hno⟩ ⟨rfl, hv⟩
      have hi : i < 14 := hi
      obtain ⟨fm, ft, ej, et, lt, es⟩ := forms_sgj i hi
      rw [et] at hv
      obtain rfl := Option.some.inj hv
      have hfm := List.mem_of_getElem? ej
      obtain ⟨fr, efr⟩ := forms_head fm hfm
      have sg0 : fm.2.2.map Fw.sg = Str.ofString fm.1 :: fr.map Fw.sg := by rw [efr]; rfl
      refine ⟨_, rfl, ⟨_, rfl⟩, _, _, rfl, rfl, rfl, Nat.le_trans (Nat.add_le_add_right lt 2) (by decide), fun U hU => ?_⟩
      rw [es]
      have s4 : Same H2 (upd H3' U (.lst ((fm.2.2.map Fw.sg).map V.str))) := s3.trans (same_alloc hU)
      have eU : (upd H3' U (.lst ((fm.2.2.map Fw.sg).map V.str))) U = some (.lst ((fm.2.2.map Fw.sg).map V.str)) := upd_same
      generalize upd H3' U (.lst ((fm.2.2.map Fw.sg).map V.str)) = H4 at s4 eU ⊢
      have eW4 : H4 W = some (.lst ((wordsOf z).map V.str)) := s4 _ _ (s2 _ _ eW)
      clear s3
      simp only [List.set_cons_succ, List.set_cons_zero]
      have a0 : atI ((fm.2.2.map Fw.sg).map V.str) 0 = some (.str (Str.ofString fm.1)) := by rw [sg0]; exact atI_nat (j := 0) rfl
      have b0 : atI ((wordsOf z).map V.str) 0 = some (.str (hd1 z)) := by rw [ew]; exact atI_nat (j := 0) rfl
      refine ⟨_, rfl, U, _, 0, _, rfl, rfl, SqL.of eU, a0, _, rfl, W, _, 0, _, rfl, rfl, SqL.of eW4, b0, rfl, _, rfl, ?_⟩
      have more : ¬ (Str.ofString fm.1 = hd1 z ∧ fm.2.2.length = (wordsOf z).length) → ∀ (j : Nat) (fm : Fm), j < i + 1 → forms[j]? = some fm → ¬ (Str.ofString fm.1 = hd1 z ∧ fm.2.2.length = (wordsOf z).length) := fun hn j g hj hg => by
        by_cases q : j = i
        · subst q
          rw [ej] at hg
          obtain rfl := Option.some.inj hg
          exact hn
        · exact hno j g (by omega) hg
      by_cases e1 : Str.ofString fm.1 = hd1 z
      · rw [decide_eq_true (by rw [e1])]
        refine iteT ⟨_, rfl, U, _, rfl, .inl (SqL.of eU), _, rfl, W, _, rfl, .inl (SqL.of eW4), rfl, _, rfl, ?_⟩
        by_cases e2 : fm.2.2.length = (wordsOf z).length
        · rw [decide_eq_true (by rw [List.length_map, List.length_map, List.length_map, e2])]
          refine iteT ⟨_, rfl, W, _, 0, _, rfl, rfl, SqL.of eW4, b0, by show 1 ≤ sizeLine; decide, fun d hd => ?_⟩
          have s5 : Same H4 (upd H4 d (.tup [.str (hd1 z)])) := same_alloc hd
          have ed : (upd H4 d (.tup [.str (hd1 z)])) d = some (.tup [.str (hd1 z)]) := upd_same
          generalize upd H4 d (.tup [.str (hd1 z)]) = H5 at s5 ed ⊢
          simp only [List.set_cons_succ, List.set_cons_zero]
          refine ⟨_, rfl, _, rfl, U, _, rfl, SqL.of (s5 _ _ eU), fun M hM => ?_⟩
          have cU : cutV ((fm.2.2.map Fw.sg).map V.str) (some 1) none = (fr.map Fw.sg).map V.str := by rw [sg0]; exact cut1 _ _
          have cW : cutV ((wordsOf z).map V.str) (some 1) none = wr.map V.str := by rw [ew]; exact cut1 _ _
          rw [cU]
          have s6 : Same H5 (upd H5 M (.lst ((fr.map Fw.sg).map V.str))) := same_alloc hM
          have eM : (upd H5 M (.lst ((fr.map Fw.sg).map V.str))) M = some (.lst ((fr.map Fw.sg).map V.str)) := upd_same
          generalize upd H5 M (.lst ((fr.map Fw.sg).map V.str)) = H6 at s6 eM ⊢
          refine ⟨_, rfl, _, rfl, W, _, rfl, SqL.of (s6 _ _ (s5 _ _ eW4)), fun N hN => ?_⟩
          rw [cW]
          have s7 : Same H6 (upd H6 N (.lst (wr.map V.str))) := same_alloc hN
          have eN : (upd H6 N (.lst (wr.map V.str))) N = some (.lst (wr.map V.str)) := upd_same
          generalize upd H6 N (.lst (wr.map V.str)) = H7 at s7 eN ⊢
          have eM7 := s7 _ _ eM
          have ed7 := s7 _ _ (s6 _ _ ed)
          have sH4 : Same H H4 := sW.trans (s2.trans s4)
          have sH7 : Same H H7 := sH4.trans (s5.trans (s6.trans s7))
          have nH : ∀ {H' : Hp} {c : Addr}, Same H H' → H' c = none → H c = none := fun {H' c} s h => by
            cases e : H c with
            | none => rfl
            | some o => rw [s _ _ e] at h; cases h
          have ndH := nH sH4 hd
          have lfw : fr.length = wr.length := by
            rw [efr, ew, List.length_cons, List.length_cons] at e2
            omega
          have l6 := forms_len fm hfm
          have lfr : fr.length ≤ 5 := by rw [efr] at l6; exact Nat.le_of_succ_le_succ l6
          have dq : deedOf z = (rdGo fr wr).map fun ps => (fm, ps) := by
            rw [deedOf_in hfm e1.symm]
            unfold rowOf
            rw [efr, ew]
            show (if Str.ofString fm.1 = hd1 z then rdGo fr wr else none).map _ = _
            rw [if_pos e1]
          rw [← e1] at ed7
          have lnz : ((fr.map Fw.sg).map V.str).length = (wr.map V.str).length := by rw [List.length_map, List.length_map, List.length_map, lfw]
          have lnf : ((fr.map Fw.sg).map V.str).length = fr.length := by rw [List.length_map, List.length_map]
          clear hU hd hM hN hno more s5 s6 s7 sH4 eM ed
          refine ⟨M, N, _, _, rfl, SqL.of eM7, SqL.of eN, for_it (D := ⟨_, _, _, _⟩) (walk_zip (K := K) (xs := (fr.map Fw.sg).map V.str) (ys := wr.map V.str) (n := ((fr.map Fw.sg).map V.str).length) (by rw [← lnz, Nat.min_self]))
            (fun j σ H' => ∃ (w5 w6 : Option V) (d' : Addr) (done : List Pa), σ = [some (.str z), some (.ref W), some (.str ft), some (.ref U), some (.ref d'), w5, w6] ∧ Same H7 H' ∧ H' d' = some (.tup (dv fm done)) ∧ H d' = none ∧ done.length ≤ j ∧ rdGo fr wr = (rdGo (fr.drop j) (wr.drop j)).map (done ++ ·))
            ⟨_, _, d, [], rfl, Same.refl _, ed7, ndH, Nat.le_refl _, by rw [List.drop_zero, List.drop_zero]; cases rdGo fr wr <;> rfl⟩ (fun j σ H' _ h => by obtain ⟨_, _, _, _, _, s, _⟩ := h; exact ⟨SqL.of (s _ _ eM7), SqL.of (s _ _ eN)⟩) ?_ ?_⟩
          · rintro j v σ H8 H8' hj ⟨w5, w6, d', done, rfl, s8, ed8, nd8, ld8, rd8⟩ ⟨t, u, v, rfl, ht, rfl, h5, h6⟩
            have j5 : j < fr.length := by rw [← lnf]; exact hj
            obtain ⟨fw, hx⟩ : ∃ fw, fr[j]? = some fw := ⟨_, List.getElem?_eq_getElem j5⟩
            obtain ⟨y, hy⟩ : ∃ y, wr[j]? = some y := ⟨_, List.getElem?_eq_getElem (by omega)⟩
            have h5 : ((fr.map Fw.sg).map V.str)[j]? = some u := h5
            have h6 : (wr.map V.str)[j]? = some v := h6
            rw [List.getElem?_map, List.getElem?_map, hx] at h5
            rw [List.getElem?_map, hy] at h6
            obtain rfl := Option.some.inj h5
            obtain rfl := Option.some.inj h6
            have hfw : fw ∈ fm.2.2 := by rw [efr]; exact List.mem_cons_of_mem _ (List.mem_of_getElem? hx)
            have wy : WOk y := wk y (by rw [ew]; exact List.mem_cons_of_mem _ (List.mem_of_getElem? hy))
            have s9 : Same H8 (upd H8 t (.tup [.str fw.sg, .str y])) := same_alloc ht
            have te : SqT K (upd H8 t (.tup [.str fw.sg, .str y])) t [.str fw.sg, .str y] := SqT.of upd_same
            generalize upd H8 t (.tup [.str fw.sg, .str y]) = H9 at s9 te ⊢
            refine ⟨t, _, rfl, te, rfl, _, _, rfl, _, _, rfl, rfl, ?_⟩
            simp only [List.set_cons_succ, List.set_cons_zero]
            refine ⟨_, rfl, by show 4 ≤ sizeLine; decide, fun q hq => ?_⟩
            have hin := sg_in fm hfm fw hfw
            refine ⟨q, [Str.ofString "N", Str.ofString "K", Str.ofString "H", Str.ofString "D"].map V.str, rfl, .inr (SqT.of upd_same), rfl, strs_flat _, _, rfl, ?_⟩
            rw [if_neg Bool.false_ne_true, hin]
            have s10 : Same H8 (upd H9 q (.tup [.str (Str.ofString "N"), .str (Str.ofString "K"), .str (Str.ofString "H"), .str (Str.ofString "D")])) := s9.trans (same_alloc hq)
            generalize upd H9 q (.tup [.str (Str.ofString "N"), .str (Str.ofString "K"), .str (Str.ofString "H"), .str (Str.ofString "D")]) = H10 at s10 ⊢
            clear s9 te ht hq h5 h6
            have ed10 := s10 _ _ ed8
            cases fw with
            | lit z0 =>
              rw [rdGo_lit hx hy] at rd8
              refine ⟨_, rfl, _, rfl, rfl, _, rfl, ?_⟩
              by_cases e : z0 = y
              · rw [if_pos e] at rd8
                rw [show (Fw.lit z0).sg = z0 from rfl, decide_eq_true (by rw [e])]
                exact ⟨_, _, d', done, rfl, s8.trans s10, ed10, nd8, by omega, rd8⟩
              · rw [if_neg e] at rd8
                rw [show (Fw.lit z0).sg = z0 from rfl, decide_eq_false (fun h => e (V.str.inj h))]
                rw [rd8] at dq
                exact kn dq _ (sH7.trans (s8.trans s10))
            | so x0 =>
              rw [rdGo_so hx hy] at rd8
              refine iteT ⟨_, rfl, lawV_read (x := x0) rfl rfl wy fun H11 s11 => ⟨by show 1 ≤ sizeLine; decide, fun u hu => ?_⟩⟩
              have ed11 := s11 _ _ ed10
              refine ⟨d', u, dv fm done, [lawV x0 y], rfl, rfl, SqT.of (by rw [upd_ne (ne_of_none ed11 hu)]; exact ed11), SqT.of upd_same, ?_, fun z => absurd z (by simp [dv]), fun _ z => absurd z (by simp), fun _ _ t ht => ?_⟩
              · show (done.map Pa.v).length + 1 + 1 ≤ sizeLine
                rw [List.length_map]
                exact small_line (by omega)
              · simp only [List.set_cons_succ, List.set_cons_zero]
                have s12 : Same H11 (upd (upd H11 u (.tup [lawV x0 y])) t (.tup (dv fm done ++ [lawV x0 y]))) := (same_alloc hu).trans (same_alloc ht)
                have et : (upd (upd H11 u (.tup [lawV x0 y])) t (.tup (dv fm done ++ [lawV x0 y]))) t = some (.tup (dv fm done ++ [lawV x0 y])) := upd_same
                have ntH : H t = none := nH (sH7.trans (s8.trans (s10.trans (s11.trans (same_alloc hu))))) ht
                generalize upd (upd H11 u (.tup [lawV x0 y])) t (.tup (dv fm done ++ [lawV x0 y])) = H12 at s12 et ⊢
                have elast : atI (dv fm done ++ [lawV x0 y]) (-1) = some (lawV x0 y) := atI_last _ _
                refine ⟨_, rfl, _, rfl, _, rfl, t, _, -1, _, rfl, rfl, SqT.of et, elast, x0, lawV x0 y, rfl, lawV_th wy, fun H13 s13 => ⟨_, rfl, ?_⟩⟩
                obtain ⟨lk1, lk2⟩ := lawV_ok x0 y
                have sAll : Same H7 H13 := s8.trans (s10.trans (s11.trans (s12.trans s13)))
                cases e : x0.okB (partOf y).v with
                | false =>
                  rw [e] at lk1
                  rw [lk1]
                  rw [e, if_neg Bool.false_ne_true] at rd8
                  rw [rd8] at dq
                  exact iteT (kn dq _ (sH7.trans sAll))
                | true =>
                  rw [e] at lk1
                  rw [e, if_pos rfl] at rd8
                  have lv := lk2 lk1
                  rw [lk1]
                  refine iteF ⟨_, _, t, done ++ [partOf y], rfl, sAll, ?_, ntH, by rw [List.length_append]; exact Nat.succ_le_succ ld8, ?_⟩
                  · rw [s13 _ _ et, lv]
                    show _ = some (HO.tup (V.str _ :: (done ++ [partOf y]).map Pa.v))
                    rw [List.map_append]
                    rfl
                  · rw [rd8]
                    cases rdGo (fr.drop (j + 1)) (wr.drop (j + 1)) with
                    | none => rfl
                    | some l =>
                      show some (done ++ (partOf y :: l)) = some (done ++ [partOf y] ++ l)
                      rw [List.append_assoc]; rfl
          · rintro σ H8 ⟨w5, w6, d', done, rfl, s8, ed8, nd8, ld8, rd8⟩
            rw [lnf, List.drop_length, lfw, List.drop_length] at rd8
            have rd8 : rdGo fr wr = some done := by rw [rd8]; show some (done ++ []) = _; rw [List.append_nil]
            rw [rd8] at dq
            exact ⟨_, rfl, kd _ dq d' _ nd8 (sH7.trans s8) ed8⟩
        · rw [decide_eq_false (fun h => e2 (by have := V.int.inj h; rw [List.length_map, List.length_map, List.length_map] at this; exact Int.ofNat.inj this))]
          exact iteF ⟨_, _, _, _, _, rfl, s4, more fun q => e2 q.2⟩
      · rw [decide_eq_false (fun h => e1 (V.str.inj h))]
        exact iteF (iteF ⟨_, _, _, _, _, rfl, s4, more fun q => e1 q.1⟩)
    · rintro σ H3 ⟨u2, u3, u4, u5, u6, rfl, s3, hno⟩
      have all : deedOf z = none := deedOf_none fun j fm hj => hno j fm (by
        have := (List.getElem?_eq_some_iff.mp hj).1
        exact this) hj
      exact kn all _ (sW.trans (s2.trans s3))
end
end F4

set_option maxRecDepth 100000
set_option maxHeartbeats 400000
/-! data with longer texts and numbers: what repr asks of them -/
namespace My
open PySem PySem.Spec PyProof.Rows L2 GxR Gd TL
structure Sb (d : PyData) (k m : Nat) : Prop where
  lv : d.leavesShort 40 = true
  dep : d.depth ≤ k
  wt : d.weight ≤ m
  sh : d.showable = true
theorem Sb.rep {d : PyData} {k m : Nat} (h : Sb d k m) (hk : k ≤ 100) (hm : m ≤ 390000) : d.showable = true ∧ d.depth ≤ 100 ∧ d.shown.length ≤ sizeLine := by
  refine ⟨h.sh, Nat.le_trans h.dep hk, ?_⟩
  have h1 := PyData.shown_le 40 (by decide) d h.lv
  have h2 := h.wt
  refine Nat.le_trans h1 (Nat.le_trans (m := 42 * 390000 + 40) (by omega) (by rw [sizeLine_eq]; decide))
theorem Sb.mono {d : PyData} {k m k' m' : Nat} (h : Sb d k m) (hk : k ≤ k') (hm : m ≤ m') : Sb d k' m' := ⟨h.lv, Nat.le_trans h.dep hk, Nat.le_trans h.wt hm, h.sh⟩
theorem sb_none : Sb .none 0 0 := ⟨rfl, Nat.le_refl 0, Nat.le_refl 0, rfl⟩
theorem sb_bool (b : Bool) : Sb (.bool b) 0 0 := ⟨rfl, Nat.le_refl 0, Nat.le_refl 0, rfl⟩
theorem text_int {i : Int} (h : i.natAbs < 10 ^ 31) : (Str.ofString (toString i)).length ≤ 32 := by
  have e := int_text_length_le10 (k := 31) (by decide) h
  rw [PySem.ofString_length]
  exact e
theorem sb_int {i : Int} (h : i.natAbs < 10 ^ 31) : Sb (.int i) 0 110 := by
  have hl : i.natAbs.log2 ≤ 109 := by
    by_cases z : i.natAbs = 0
    · rw [z]; decide
    · have : i.natAbs.log2 < 110 := (Nat.log2_lt z).mpr (Nat.lt_of_lt_of_le h (by decide))
      omega
  refine ⟨?_, Nat.le_refl 0, ?_, ?_⟩
  · unfold PyData.leavesShort
    rw [decide_eq_true_eq]
    exact Nat.le_trans (text_int h) (by decide)
  · unfold PyData.weight
    split <;> omega
  · unfold PyData.showable
    rw [decide_eq_true_eq]
    omega
theorem sb_str {z : Str} {m : Nat} (g : Good z) (h : z.length ≤ m) : Sb (.str z) 0 m := by
  refine ⟨?_, Nat.le_refl 0, h, rfl⟩
  unfold PyData.leavesShort
  rw [List.all_eq_true]
  intro c hc
  have := g c hc
  rw [decide_eq_true_eq]
  exact Nat.lt_trans this (by decide)
theorem sb_all {k m : Nat} : ∀ {ds : List PyData}, (∀ d ∈ ds, Sb d k m) → PyData.leavesShortAll 40 ds = true ∧ PyData.depthAll ds ≤ k ∧ PyData.weightAll ds ≤ ds.length * (m + 1) ∧ PyData.showableAll ds = true
  | [], _ => ⟨rfl, Nat.zero_le _, Nat.zero_le _, rfl⟩
  | d :: r, h => by
    obtain ⟨a1, a2, a3, a4⟩ := sb_all (ds := r) fun x hx => h x (List.mem_cons_of_mem _ hx)
    have b := h d List.mem_cons_self
    refine ⟨?_, ?_, ?_, ?_⟩
    · unfold PyData.leavesShortAll; rw [b.lv, a1]; rfl
    · unfold PyData.depthAll; exact Nat.max_le.mpr ⟨b.dep, a2⟩
    · unfold PyData.weightAll
      have := b.wt
      rw [List.length_cons, Nat.succ_mul]
      omega
    · unfold PyData.showableAll; rw [b.sh, a4]; rfl
theorem sb_list {k m : Nat} {ds : List PyData} (h : ∀ d ∈ ds, Sb d k m) : Sb (.list ds) (k + 1) (ds.length * (m + 1)) := by
  obtain ⟨a1, a2, a3, a4⟩ := sb_all h
  exact ⟨by unfold PyData.leavesShort; exact a1, by unfold PyData.depth; omega, by unfold PyData.weight; exact a3, by unfold PyData.showable; exact a4⟩
theorem sb_tuple {k m : Nat} {ds : List PyData} (h : ∀ d ∈ ds, Sb d k m) : Sb (.tuple ds) (k + 1) (ds.length * (m + 1)) := by
  obtain ⟨a1, a2, a3, a4⟩ := sb_all h
  exact ⟨by unfold PyData.leavesShort; exact a1, by unfold PyData.depth; omega, by unfold PyData.weight; exact a3, by unfold PyData.showable; exact a4⟩
theorem good_int (i : Int) : Good (Str.ofString (toString i)) := good_of _
end My

set_option maxRecDepth 100000
set_option maxHeartbeats 800000
namespace My
open PySem PySem.Spec PyProof.Rows L2 GxR Gd TL
/-! ### things of any kind -/
inductive Wf (N : Addr → Prop) (H : Hp) (m : Nat) : Nat → V → Prop
  | non (k : Nat) : Wf N H m k .non
  | bl (b : Bool) (k : Nat) : Wf N H m k (.bl b)
  | int (i : Int) (h : i.natAbs < 10 ^ 31) (k : Nat) : Wf N H m k (.int i)
  | str (z : Str) (g : Good z) (l : z.length ≤ 50) (k : Nat) : Wf N H m k (.str z)
  | dic (a : Addr) (e : H a = some (.dK [])) (k : Nat) : Wf N H m (k + 1) (.ref a)
  | lst (a : Addr) (xs : List V) (k : Nat) (e : H a = some (.lst xs)) (n : N a) (l : xs.length ≤ m) (h : ∀ x ∈ xs, Wf N H m k x) : Wf N H m (k + 1) (.ref a)
  | tup (a : Addr) (xs : List V) (k : Nat) (e : H a = some (.tup xs)) (l : xs.length ≤ m) (h : ∀ x ∈ xs, Wf N H m k x) : Wf N H m (k + 1) (.ref a)
/-- what such a thing rests on stays -/
def Kw (N : Addr → Prop) (H H' : Hp) : Prop := (∀ c xs, N c → H c = some (.lst xs) → H' c = some (.lst xs)) ∧ (∀ c xs, H c = some (.tup xs) → H' c = some (.tup xs)) ∧ ∀ c kvs, H c = some (.dK kvs) → H' c = some (.dK kvs)
theorem Kw.same {N : Addr → Prop} {H H' : Hp} (s : Same H H') : Kw N H H' := ⟨fun _ _ _ e => s _ _ e, fun _ _ e => s _ _ e, fun _ _ e => s _ _ e⟩
theorem Kw.trans {N : Addr → Prop} {A B C : Hp} (h : Kw N A B) (k : Kw N B C) : Kw N A C := ⟨fun c xs n e => k.1 c xs n (h.1 c xs n e), fun c xs e => k.2.1 c xs (h.2.1 c xs e), fun c xs e => k.2.2 c xs (h.2.2 c xs e)⟩
theorem Kw.nt {N : Addr → Prop} {H H' : Hp} (s : Nt H H') : Kw N H H' := ⟨fun _ _ _ e => s _ _ (by simp) e, fun _ _ e => s _ _ (by simp) e, fun _ _ e => s _ _ (by simp) e⟩
theorem Kw.kb {N : Addr → Prop} {H H' : Hp} {b : Addr} {n : Int} (nb : ¬ N b) (hb : Bx b n H) (k : KB b H H') : Kw N H H' := by
  obtain ⟨_, _, _, e, _⟩ := hb
  exact ⟨fun c xs m q => k _ _ (fun z => nb (z ▸ m)) q, fun c xs q => k _ _ (ne_of q e (by simp)) q, fun c xs q => k _ _ (ne_of q e (by simp)) q⟩
theorem Wf.keep {N : Addr → Prop} {H H' : Hp} {m : Nat} (s : Kw N H H') : ∀ {k : Nat} {v : V}, Wf N H m k v → Wf N H' m k v
  | _, _, .non k => .non k
  | _, _, .bl b k => .bl b k
  | _, _, .int i h k => .int i h k
  | _, _, .str z g l k => .str z g l k
  | _, _, .dic a e k => .dic a (s.2.2 _ _ e) k
  | _, _, .lst a xs k e n l h => .lst a xs k (s.1 _ _ n e) n l fun x hx => (h x hx).keep s
  | _, _, .tup a xs k e l h => .tup a xs k (s.2.1 _ _ e) l fun x hx => (h x hx).keep s
theorem Wf.mono {N : Addr → Prop} {H : Hp} {m m' : Nat} (hm : m ≤ m') {k k' : Nat} {v : V} (hk : k ≤ k') (h : Wf N H m k v) : Wf N H m' k' v := by
  induction h generalizing k' with
  | non k => exact .non _
  | bl b k => exact .bl b _
  | int i h k => exact .int i h _
  | str z g l k => exact .str z g l _
  | dic a e k =>
    match k', hk with
    | k' + 1, _ => exact .dic a e _
  | lst a xs k e n l q ih =>
    match k', hk with
    | k' + 1, hk => exact .lst a xs k' e n (Nat.le_trans l hm) fun x hx => ih x hx (Nat.le_of_succ_le_succ hk)
  | tup a xs k e l q ih =>
    match k', hk with
    | k' + 1, hk => exact .tup a xs k' e (Nat.le_trans l hm) fun x hx => ih x hx (Nat.le_of_succ_le_succ hk)
theorem Wf.th {N : Addr → Prop} {H : Hp} {m k : Nat} {v : V} (h : Wf N H m k v) : Th H v := by
  cases h with
  | non k => exact .non
  | bl b k => exact .bl b
  | int i h k => exact .int i
  | str z g l k => exact .str z (by omega) g
  | dic a e k => exact .dic a e
  | lst a xs k e n l q => exact .lst a xs e
  | tup a xs k e l q => exact .tup a xs e
theorem Wf.lkid {N : Addr → Prop} {H : Hp} {m k : Nat} {a : Addr} (h : Wf N H m (k + 1) (.ref a)) {xs : List V} (e : H a = some (.lst xs)) : N a ∧ xs.length ≤ m ∧ ∀ x ∈ xs, Wf N H m k x := by
  cases h with
  | dic a q k => rw [q] at e; cases e
  | lst a ys k q n l h =>
    rw [q] at e
    obtain rfl := HO.lst.inj (Option.some.inj e)
    exact ⟨n, l, h⟩
  | tup a ys k q l h => rw [q] at e; cases e
theorem Wf.tkid {N : Addr → Prop} {H : Hp} {m k : Nat} {a : Addr} (h : Wf N H m (k + 1) (.ref a)) {xs : List V} (e : H a = some (.tup xs)) : xs.length ≤ m ∧ ∀ x ∈ xs, Wf N H m k x := by
  cases h with
  | dic a q k => rw [q] at e; cases e
  | lst a ys k q n l h => rw [q] at e; cases e
  | tup a ys k q l h =>
    rw [q] at e
    obtain rfl := HO.tup.inj (Option.some.inj e)
    exact ⟨l, h⟩
def wt (m : Nat) : Nat → Nat
  | 0 => 110
  | k + 1 => m * (wt m k + 1)
theorem wt_le {m : Nat} (hm : 1 ≤ m) : ∀ k, 110 ≤ wt m k
  | 0 => Nat.le_refl _
  | k + 1 => by
    have := wt_le hm k
    show 110 ≤ m * (wt m k + 1)
    have h : 1 * (wt m k + 1) ≤ m * (wt m k + 1) := Nat.mul_le_mul_right _ hm
    omega
theorem dqs_of {K : PySem.W.Frag} {H : Hp} {k n : Nat} : ∀ {xs : List V}, (∀ x ∈ xs, ∃ d, Dq K H x d ∧ Sb d k n) → ∃ ds, DqAll K H xs ds ∧ ds.length = xs.length ∧ ∀ d ∈ ds, Sb d k n
  | [], _ => ⟨[], .nil, rfl, fun d h => by cases h⟩
  | x :: r, h => by
    obtain ⟨d, h1, h2⟩ := h x (by simp)
    obtain ⟨ds, h3, h4, h5⟩ := dqs_of (xs := r) fun y hy => h y (by simp [hy])
    exact ⟨d :: ds, .cons h1 h3, by rw [List.length_cons, List.length_cons, h4], fun e he => (List.mem_cons.mp he).elim (fun q => q ▸ h2) fun q => h5 e q⟩
theorem Wf.dq {K : PySem.W.Frag} {N : Addr → Prop} {H : Hp} {m : Nat} (hm : 1 ≤ m) : ∀ {k : Nat} {v : V}, Wf N H m k v → ∃ d, Dq K H v d ∧ Sb d k (wt m k)
  | k, _, .non _ => ⟨_, .non, sb_none.mono (by omega) (by omega)⟩
  | k, _, .bl b _ => ⟨_, .bl b, (sb_bool b).mono (by omega) (by omega)⟩
  | k, _, .int i h _ => ⟨_, .int i, (sb_int h).mono (by omega) (wt_le hm k)⟩
  | k, _, .str z g l _ => ⟨_, .str z, (sb_str g l).mono (by omega) (Nat.le_trans (by decide) (wt_le hm k))⟩
  | _, _, .dic a e k => ⟨.dict [], .dic e .nil, ⟨by decide +kernel, Nat.succ_le_succ (Nat.zero_le k), Nat.le_trans (by decide) (wt_le hm (k + 1)), by decide +kernel⟩⟩
  | _, _, .lst a xs k e n l h => by
    obtain ⟨ds, h1, h2, h3⟩ := dqs_of (K := K) fun x hx => (h x hx).dq hm
    exact ⟨.list ds, .lst (SqL.of e) h1, (sb_list h3).mono (Nat.le_refl _) (by rw [h2]; exact Nat.mul_le_mul_right _ l)⟩
  | _, _, .tup a xs k e l h => by
    obtain ⟨ds, h1, h2, h3⟩ := dqs_of (K := K) fun x hx => (h x hx).dq hm
    exact ⟨.tuple ds, .tup (SqT.of e) h1, (sb_tuple h3).mono (Nat.le_refl _) (by rw [h2]; exact Nat.mul_le_mul_right _ l)⟩
end My

set_option maxRecDepth 100000
namespace My
open PySem PySem.Spec PyProof.Rows L2 GxR Gd TL
theorem pe_bmK {X : Cx} {K : PySem.W.Frag} {o e : Expr} {es : List Expr} {to : TE} {t : TA} {name : Str} {apos cpos : Pos} {T id : String} {r : V → List V → Hp → VK → Prop} (h : X.K = K) (pa : PlainAttrs T) (slot : Slot T name id) (hty : typeOf (.builtin id) = pure (.type "method_descriptor")) (hm : MtR X id r) (ho : PE X o to) (ha : PA X (e :: es) t)
    (hbase : attributeBase o name X.env (eval o X.env) = eval o X.env := by rfl)
    (hfew : ((backTo cpos (starEach (e :: es) X.env)).all (fun x => !x.1) && (backToKw cpos (keywordEach [] X.env)).all (fun x => x.1.isSome)
      && decide ((e :: es).length + ([] : List Keyword).length + (if ([] : List Keyword).isEmpty then 0 else 1) < 30)) = true := by rfl)
    (hline : (apos.endLine == cpos.line) = true := by rfl) (hs : starEach (e :: es) X.env = (false, eval e X.env) :: starEach es X.env := by rfl) (hplain : (backTo cpos (starEach es X.env)).any (·.1) = false := by rfl) :
    PE X (.Call (.Attribute o name apos) (e :: es) [] cpos) (tBM K T r to t) := h ▸ pe_bm pa slot hty hm ho ha hbase hfew hline hs hplain
end My

set_option maxRecDepth 100000
set_option maxHeartbeats 1600000
namespace F4
open PySem PySem.Spec PyProof.Rows L2 GxR Gd TL My
/-! ### the law's row of a deed -/
theorem forms_sgi : ∀ j : Nat, j < 14 → ∃ fm z, forms[j]? = some fm ∧ (formTexts.map V.str)[j]? = some (.str z) ∧ z.length ≤ 40 ∧ Txt.split z (Str.ofString " ") = fm.2.2.map Fw.sg := forms_sgj
theorem pav_inj {p q : Pa} (h : p.v = q.v) : p = q := by
  cases p <;> cases q
  · cases h; rfl
  · cases h
  · cases h
  · cases h; rfl
theorem pas_inj : ∀ {ps qs : List Pa}, ps.map Pa.v = qs.map Pa.v → ps = qs
  | [], [], _ => rfl
  | [], _ :: _, h => by cases h
  | _ :: _, [], h => by cases h
  | p :: ps, q :: qs, h => by
    rw [List.map_cons, List.map_cons] at h
    rw [pav_inj (List.cons.inj h).1, pas_inj (List.cons.inj h).2]
theorem all_take {α : Type} {f : α → Bool} {l : List α} {i : Nat} {x : α} (h : l[i]? = some x) : (l.take (i + 1)).all f = ((l.take i).all f && f x) := all_step h
section
variable {P : Program} {w : World} {K : PySem.W.Frag} {mg : Str → Option Value} {base : Heap}
theorem inSeqK {X : Cx} {K : PySem.W.Frag} (h : X.K = K) : OpR X (compareOp .In) (rIn K false) := h ▸ op_in_seq
abbrev s_law_row_due : Stmt := top 42
theorem sc_law_row_due : FnScope ["_law_deed_here", "_law_form", "_law_words", "_law_signs", "_law_parts", "_law_word", "_law_sign", "_law_part_here"] ["_law_deed_here"] (defScope s_law_row_due) := ⟨rfl, rfl, rfl, by decide +kernel, rfl, by decide +kernel, by decide +kernel⟩
def spDue : Sp := fun vs H Q _ => ∃ (v : V), vs = [v] ∧ Th H v ∧ ((∃ fm ps, Deed H v fm ps ∧ ∀ H', Same H H' → Q (.str (rowT fm ps)) H') ∨ (None_ H v ∧ ∀ H', Same H H' → Q .non H'))
theorem ok_law_row_due {f f1 f2 : Addr} {fd fd1 fd2 : FuncData} (F : Fun K "_law_row_due" "_law_row_due" s_law_row_due f fd) (T : Txt mg)
    (Nlaw_forms : Fn K mg "_law_forms" s_law_forms [] f1 fd1) (Glaw_forms : FnOk P w K mg base CX0 1 f1 fd1 [] spForms)
    (Nlaw_is_part : Fn K mg "_law_is_part" s_law_is_part ["_law_sign", "_law_thing"] f2 fd2) (Glaw_is_part : FnOk P w K mg base CX0 3 f2 fd2 ["_law_sign", "_law_thing"] spLawPart) :
    FnOk P w K mg base CX0 4 f fd ["_law_deed_here"] spDue := by
  refine F.ok sc_law_row_due (fun vs H Q E h => ?_) (fun cdv A outer s H vs Q E hr h => ?_)
  · obtain ⟨v, rfl, _⟩ := h
    rfl
  · obtain ⟨v, rfl, th, h⟩ := h
    have hu := Nat.lt_of_le_of_lt (Nat.le_add_right _ 64) hr.units
    refine ⟨_, pss_cons (ps_if (PW.pt (pw_or (pt_not (pt_val (pe_callB call_isi (by rfl) T.isinstance_ (by decide +kernel) (pa_cons (pv 0) (pa_cons (pe_bltn (v := .ty "tuple") (by rfl) T.tuple_ (by decide +kernel) rfl) pa_nil))))) (pw_or (pt_cmpR (op_eqT0 hu) (pv 0) (pe_tup pa_nil) (nomark _)) (pw_or1 (pt_not (pt_val (pe_callB call_isi (by rfl) T.isinstance_ (by decide +kernel) (pa_cons (pe_ix ix_tup (pv 0) pe_int (fun _ _ => rfl)) (pa_cons (pe_bltn (v := .ty "str") (by rfl) T.str_ (by decide +kernel) rfl) pa_nil))))))))) (pss_one (ps_ret pe_non)) pss_nil)
      (pss_cons (ps_for PassesOwn.never rfl (pi_list (pe_call0 Glaw_forms (hr.mono (by decide)) (by rfl) Nlaw_forms.g Nlaw_forms.kp Nlaw_forms.b .nil pass0)) (pg_name (i := 1) sc_law_row_due.nd rfl (Or.inl rfl)) (pss_cons (ps_set (i := 2) sc_law_row_due.nd rfl (Or.inl rfl) (pe_split (pv 1) pe_str))
          (pss_cons (ps_setLc (i := 3) (own := [("_law_word", 5)]) (g := gName 5) rfl sc_law_row_due.nd rfl rfl (sw_true rfl rfl rfl (by decide +kernel)) (pi_list (pv 2)) (blkOk_by (own := [("_law_word", 5)]) (N := ["_law_deed_here", "_law_form", "_law_words", "_law_signs", "_law_parts", "_law_word", "_law_sign", "_law_part_here"]) (sc := defScope s_law_row_due) (by decide +kernel)) (fun _ _ _ _ _ => (pg_name (i := 5) sc_law_row_due.nd rfl (Or.inl rfl))) (fun _ _ _ _ _ => pts_one (pt_cmpR (inSeqK (K := K) rfl) (pv 5) (pe_tup (pa_cons pe_str (pa_cons pe_str (pa_cons pe_str (pa_cons pe_str pa_nil))))) rfl)) (fun _ _ _ _ _ => (pv 5)))
          (pss_one (ps_if (PW.pt (pw_and (pt_cmpR op_eq (pe_ix ix_list (pv 2) pe_int (fun _ _ => rfl)) (pe_ix ix_tup (pv 0) pe_int (fun _ _ => rfl)) (nomark _)) (pw_and1 (pt_cmpR op_eq (pe_callB call_len_seq (by rfl) T.len_ PySem.boot_len (pa_cons (pv 3) pa_nil)) (pe_op op_sub (pe_callB call_len_seq (by rfl) T.len_ PySem.boot_len (pa_cons (pv 0) pa_nil)) pe_int) (nomark _))))) (pss_cons (ps_set (i := 4) sc_law_row_due.nd rfl (Or.inr rfl) (pe_callTy call_list_of (by rfl) T.list_ (by decide +kernel) (pa_cons (pe_slice sl_tup (pv 0) (po_some pe_int) po_none) pa_nil)))
              (pss_cons (ps_if (pt_cmpR (op_neL0 hu) (pe_lc (own := [("_law_sign", 6), ("_law_part_here", 7)]) (g := gTup K 2 (gCons (gName 6) (gCons (gName 7) gNil))) rfl sc_law_row_due.nd (pi_zip (by rfl) T.zip_ (pa_cons (pv 3) (pa_cons (pv 4) pa_nil))) (blkOk_by (own := [("_law_sign", 6), ("_law_part_here", 7)]) (N := ["_law_deed_here", "_law_form", "_law_words", "_law_signs", "_law_parts", "_law_word", "_law_sign", "_law_part_here"]) (sc := defScope s_law_row_due) (by decide +kernel)) (fun _ _ _ _ _ => (pg_tup (by rfl) (pgs_cons (pg_name (i := 6) sc_law_row_due.nd rfl (Or.inl rfl)) (pgs_cons (pg_name (i := 7) sc_law_row_due.nd rfl (Or.inl rfl)) pgs_nil)))) (fun _ _ _ _ _ => pts_one (pt_not (pt_val (pe_call Glaw_is_part (hr.mono (by decide)) (by rfl) Nlaw_is_part.g Nlaw_is_part.kp Nlaw_is_part.b .nil pass0 (pa_cons (pv 6) (pa_cons (pv 7) pa_nil)))))) (fun _ _ _ _ _ => pe_int)) (pe_lst pa_nil) (nomark _)) (pss_one (ps_ret pe_non)) pss_nil)
              (pss_one (ps_ret (pe_join pe_str (pe_lc (own := [("_law_word", 5)]) (g := gName 5) (tt := tYes) rfl sc_law_row_due.nd (pi_list (pv 2)) (blkOk_by (own := [("_law_word", 5)]) (N := ["_law_deed_here", "_law_form", "_law_words", "_law_signs", "_law_parts", "_law_word", "_law_sign", "_law_part_here"]) (sc := defScope s_law_row_due) (by decide +kernel)) (fun _ _ _ _ _ => (pg_name (i := 5) sc_law_row_due.nd rfl (Or.inl rfl))) (fun _ _ _ _ _ => pts_nil) (fun _ _ _ _ _ => (pe_ifExp (pt_cmpR (inSeqK (K := K) rfl) (pv 5) (pe_tup (pa_cons pe_str (pa_cons pe_str (pa_cons pe_str (pa_cons pe_str pa_nil))))) rfl) (pe_callTy call_str_is (by rfl) T.str_ (by decide +kernel) (pa_cons (pe_bmK (K := K) rfl PySem.F.plainAttrs_list PySem.F.slot_list_pop PySem.F.type_list_pop mt_popAt (pv 4) (pa_cons pe_int pa_nil)) pa_nil)) (pv 5))))))))) pss_nil)))))
      (pss_one (ps_ret pe_non))), ?_⟩
    generalize hσ : L2.start _ _ = σ0
    obtain rfl : σ0 = [some v, none, none, none, none, none, none, none] := hσ.symm.trans rfl
    have nd : (∀ fm ps, ¬ Deed H v fm ps) → ∀ H', Same H H' → Q .non H' := fun no => by
      rcases h with ⟨fm, ps, d, _⟩ | ⟨_, k⟩
      · exact absurd d (no fm ps)
      · exact k
    have nv : (∀ d, v ≠ .ref d) → Q .non H := fun n => nd (fun fm ps q => by obtain ⟨_, _, d, e, _⟩ := q; exact n d e) H (Same.refl H)
    cases th with
    | non => exact ⟨_, rfl, _, _, _, _, false, rfl, .ty "tuple", .base .non, (by rfl), _, rfl, iteT (iteT (nv (fun d h => by cases h)))⟩
    | bl b => exact ⟨_, rfl, _, _, _, _, false, rfl, .ty "tuple", .base (.bl b), (by rfl), _, rfl, iteT (iteT (nv (fun d h => by cases h)))⟩
    | int i => exact ⟨_, rfl, _, _, _, _, false, rfl, .ty "tuple", .base (.int i), (by rfl), _, rfl, iteT (iteT (nv (fun d h => by cases h)))⟩
    | str z _ _ => exact ⟨_, rfl, _, _, _, _, false, rfl, .ty "tuple", .base (.str z), (by rfl), _, rfl, iteT (iteT (nv (fun d h => by cases h)))⟩
    | lst a xs hx => exact ⟨_, rfl, _, _, _, _, false, rfl, .ty "tuple", .base (.lst hx), (by rfl), _, rfl, iteT (iteT (nd (fun fm ps q => by obtain ⟨_, _, d, e, q⟩ := q; cases e; rw [hx] at q; cases q) H (Same.refl H)))⟩
    | dic a hx => exact ⟨_, rfl, _, _, _, _, false, rfl, .ty "tuple", .base (.dK hx), (by rfl), _, rfl, iteT (iteT (nd (fun fm ps q => by obtain ⟨_, _, d, e, q⟩ := q; cases e; rw [hx] at q; cases q) H (Same.refl H)))⟩
    | tup d xs hd =>
      refine ⟨_, rfl, _, _, _, _, true, rfl, .ty "tuple", .base (.tup hd), (by rfl), _, rfl, iteF ?_⟩
      refine ⟨_, rfl, Nat.zero_le _, fun e0 he0 => ?_⟩
      have s1 : Same H (upd H e0 (.tup [])) := same_alloc he0
      have ee : upd H e0 (.tup []) e0 = some (.tup []) := upd_same
      have hd1 := s1 _ _ hd
      generalize upd H e0 (.tup []) = H1 at s1 ee hd1 ⊢
      have ndX : (∀ fm ps, fm ∈ forms → Fit fm.2.2 ps → xs ≠ dv fm ps) → ∀ H', Same H H' → Q .non H' := fun no => nd fun fm ps q => by
        obtain ⟨hf, ft, c, e, hc⟩ := q
        cases e
        rw [hd] at hc
        exact no fm ps hf ft (HO.tup.inj (Option.some.inj hc))
      cases xs with
      | nil =>
        refine ⟨d, e0, [], rfl, rfl, SqT.of hd1, SqT.of ee, _, rfl, iteT (iteT ?_)⟩
        exact ndX (fun fm ps _ _ e => by cases e) _ s1
      | cons x r =>
        refine ⟨d, e0, x :: r, rfl, rfl, SqT.of hd1, SqT.of ee, _, rfl, iteF ?_⟩
        have a0 : atI (x :: r) 0 = some x := atI_nat (j := 0) rfl
        have kids : ∀ y ∈ x :: r, Th H y := by
          rcases h with ⟨fm, ps, q, _⟩ | ⟨q, _⟩
          · obtain ⟨hf, ft, c, e, hc⟩ := q
            cases e
            rw [hd] at hc
            rw [HO.tup.inj (Option.some.inj hc)]
            intro y hy
            rcases List.mem_cons.mp hy with rfl | hy
            · exact .str _ (by have : ∀ f ∈ forms, (Str.ofString f.1).length ≤ 1000000 := by decide +kernel
                               exact this fm hf) (good_of _)
            · exact fit_th ft y hy
          · exact (q.kids d _ rfl hd).1
        have tyx : Th H1 x := th_nt (same_nt s1) (kids x (List.mem_cons_self ..))
        obtain ⟨t, ty, cs⟩ := tyx.ty (K := K)
        have nS : (∀ z, x ≠ .str z) → ∀ H', Same H H' → Q .non H' := fun n => ndX fun fm ps _ _ e => n _ (List.cons.inj e).1
        have k1 : (∀ z, x ≠ .str z) → Q .non H1 := fun n => nS n H1 s1
        rcases cs with ⟨i, rfl, rfl⟩ | ⟨b, rfl, rfl⟩ | ⟨z0, rfl, _, rfl⟩ | ⟨n1, n2, n3, ht⟩
        · exact ⟨_, rfl, d, _, 0, _, rfl, rfl, SqT.of hd1, a0, _, _, _, _, false, rfl, .ty "str", ty, (by rfl), _, rfl, iteT (k1 (fun z h => by cases h))⟩
        · exact ⟨_, rfl, d, _, 0, _, rfl, rfl, SqT.of hd1, a0, _, _, _, _, false, rfl, .ty "str", ty, (by rfl), _, rfl, iteT (k1 (fun z h => by cases h))⟩
        · refine ⟨_, rfl, d, _, 0, _, rfl, rfl, SqT.of hd1, a0, _, _, _, _, true, rfl, .ty "str", ty, (by rfl), _, rfl, iteF ?_⟩
          have kY : ∀ fm ps, fm ∈ forms → Fit fm.2.2 ps → V.str z0 :: r = dv fm ps → ∀ H', Same H H' → Q (.str (rowT fm ps)) H' := fun fm ps hf ft e => by
            rcases h with ⟨fm2, ps2, q, k⟩ | ⟨q, _⟩
            · obtain ⟨hf2, ft2, c, e2, hc⟩ := q
              cases e2
              rw [hd] at hc
              have e3 := e.symm.trans (HO.tup.inj (Option.some.inj hc))
              have ef := forms_eq hf hf2 (V.str.inj (List.cons.inj e3).1)
              subst ef
              have ep := pas_inj (List.cons.inj e3).2
              subst ep
              exact k
            · exact absurd e ((q.kids d _ rfl hd).2 fm ps hf ft)
          have kN : (∀ fm ∈ forms, Str.ofString fm.1 = z0 → okFits fm.2.2 r = false) → ∀ H', Same H H' → Q .non H' := fun no => ndX fun fm ps hf ft e => by
            have e1 := V.str.inj (List.cons.inj e).1
            have e2 : r = ps.map Pa.v := (List.cons.inj e).2
            have q := no fm hf e1.symm
            rw [e2, okFits_of ft] at q
            cases q
          clear nd nv ndX nS k1 h
          have kidr : ∀ y ∈ r, Th H y := fun y hy => kids y (List.mem_cons_of_mem _ hy)
          refine ⟨rfl, fun L H2 hL s2 eL => ⟨L, rfl, ⟨_, SqL.of eL⟩, for_it (D := ⟨_, _, _, _⟩) (walk_list (K := K) (xs := formTexts.map V.str)) (fun i σ H' => ∃ u1 u2 u3 u4 u5 u6 u7 : Option V, σ = [some (.ref d), u1, u2, u3, u4, u5, u6, u7] ∧ Same H2 H' ∧ ∀ (j : Nat) (fm : Fm), j < i → forms[j]? = some fm → Str.ofString fm.1 = z0 → okFits fm.2.2 r = false) ⟨_, _, _, _, _, _, _, rfl, Same.refl _, fun j fm hj => absurd hj (Nat.not_lt_zero j)⟩ (fun i σ H' _ h => by obtain ⟨_, _, _, _, _, _, _, _, s, _⟩ := h; exact (same_nt s).seq (SqL.of eL)) ?_ ?_⟩⟩
          · rintro i v σ H3 H3' hi ⟨u1, u2, u3, u4, u5, u6, u7, rfl, s3, hno⟩ ⟨rfl, hv⟩
            have hi : i < 14 := hi
            obtain ⟨fm, ft, ej, et, lt, es⟩ := forms_sgj i hi
            rw [et] at hv
            obtain rfl := Option.some.inj hv
            have hfm := List.mem_of_getElem? ej
            obtain ⟨fr, efr⟩ := forms_head fm hfm
            have l6 := forms_len fm hfm
            refine ⟨_, rfl, ⟨_, rfl⟩, _, _, rfl, rfl, rfl, Nat.le_trans (Nat.add_le_add_right lt 2) (by decide), fun W hW => ?_⟩
            rw [es]
            have s4 : Same H2 (upd H3' W (.lst ((fm.2.2.map Fw.sg).map V.str))) := s3.trans (same_alloc hW)
            have eW : (upd H3' W (.lst ((fm.2.2.map Fw.sg).map V.str))) W = some (.lst ((fm.2.2.map Fw.sg).map V.str)) := upd_same
            generalize upd H3' W (.lst ((fm.2.2.map Fw.sg).map V.str)) = H4 at s4 eW ⊢
            simp only [List.set_cons_succ, List.set_cons_zero]
            refine ⟨_, rfl, W, rfl, ⟨_, SqL.of eW⟩, fun D hD => lc_it (walk_list (K := K) (xs := (fm.2.2.map Fw.sg).map V.str)) (fun i H' => KB D H4 H' ∧ H' D = some (.lst ((sorts (fm.2.2.take i)).map fun x => V.str x.sign))) ⟨KB.alloc hD, upd_same⟩ (fun i H' _ h => (same_nt (KB.same hD h.1)).seq (SqL.of eW)) ?_ ?_⟩
            · rintro j v H5 H5' hj ⟨kb, eD⟩ ⟨rfl, hv⟩
              obtain ⟨fw, hx⟩ : ∃ fw, fm.2.2[j]? = some fw := ⟨_, List.getElem?_eq_getElem (by simpa using hj)⟩
              rw [List.getElem?_map, List.getElem?_map, hx] at hv
              obtain rfl := Option.some.inj hv
              have esn := sorts_snoc (fm.2.2.take j) fw
              rw [← take_at hx] at esn
              refine ⟨rfl, _, rfl, by show 4 ≤ sizeLine; decide, fun q hq => ?_⟩
              have hin := sg_in fm hfm fw (List.mem_of_getElem? hx)
              refine ⟨q, [Str.ofString "N", Str.ofString "K", Str.ofString "H", Str.ofString "D"].map V.str, rfl, .inr (SqT.of upd_same), rfl, strs_flat _, _, rfl, ?_⟩
              rw [if_neg Bool.false_ne_true, hin]
              have nqD : D ≠ q := fun z => by rw [← z, eD] at hq; cases hq
              have kb2 : KB D H4 (upd H5' q (.tup [.str (Str.ofString "N"), .str (Str.ofString "K"), .str (Str.ofString "H"), .str (Str.ofString "D")])) := kb.trans (KB.alloc hq)
              have eD2 : upd H5' q (.tup [.str (Str.ofString "N"), .str (Str.ofString "K"), .str (Str.ofString "H"), .str (Str.ofString "D")]) D = some (.lst ((sorts (fm.2.2.take j)).map fun x => V.str x.sign)) := by rw [upd_ne nqD]; exact eD
              generalize upd H5' q (.tup [.str (Str.ofString "N"), .str (Str.ofString "K"), .str (Str.ofString "H"), .str (Str.ofString "D")]) = H6 at kb2 eD2 ⊢
              cases fw with
              | lit z =>
                refine iteF ⟨kb2, ?_⟩
                rw [esn, List.append_nil]
                exact eD2
              | so y =>
                refine iteT ⟨_, rfl, _, eD2, ?_, fun c o n h => by rw [upd_ne n]; exact kb2 c o n h, ?_⟩
                · rw [List.length_map]
                  exact Nat.lt_of_le_of_lt (Nat.le_trans (sorts_le _) (Nat.le_trans (by rw [List.length_take]; omega) l6)) (by decide)
                · rw [upd_same, esn, List.map_append]
                  rfl
            · rintro H5 ⟨kb, eD⟩
              rw [List.length_map, List.length_map, List.take_of_length_le (Nat.le_refl _)] at eD
              have s5 : Same H4 H5 := KB.same hD kb
              have eW5 := s5 _ _ eW
              have s25 := s4.trans s5
              have hd5 := s25 _ _ (s2 _ _ hd1)
              clear kb hD hW s3 s4 s5 eW
              simp only [List.set_cons_succ, List.set_cons_zero]
              have w0 : atI ((fm.2.2.map Fw.sg).map V.str) 0 = some (.str (Str.ofString fm.1)) := by rw [efr]; exact atI_nat (j := 0) rfl
              refine ⟨_, rfl, W, _, 0, _, rfl, rfl, SqL.of eW5, w0, _, rfl, d, _, 0, _, rfl, rfl, SqT.of hd5, a0, rfl, _, rfl, ?_⟩
              have more : (Str.ofString fm.1 = z0 → okFits fm.2.2 r = false) → ∀ (j : Nat) (fm : Fm), j < i + 1 → forms[j]? = some fm → Str.ofString fm.1 = z0 → okFits fm.2.2 r = false := fun hn j g hj hg => by
                by_cases q : j = i
                · subst q
                  rw [ej] at hg
                  obtain rfl := Option.some.inj hg
                  exact hn
                · exact hno j g (by omega) hg
              by_cases e1 : Str.ofString fm.1 = z0
              · rw [decide_eq_true (by rw [e1])]
                refine iteT ⟨_, rfl, D, _, rfl, .inl (SqL.of eD), _, rfl, d, _, rfl, .inr (SqT.of hd5), _, _, rfl, rfl, rfl, _, rfl, ?_⟩
                by_cases e2 : (sorts fm.2.2).length = r.length
                · rw [decide_eq_true (by rw [List.length_map, e2, List.length_cons]; congr 1; push_cast; omega)]
                  refine iteT ⟨_, rfl, _, rfl, d, _, rfl, SqT.of hd5, cut1_ok _ _, fun b hb => ?_⟩
                  rw [cut1]
                  have s6 : Same H5 (upd H5 b (.tup r)) := same_alloc hb
                  have eb : upd H5 b (.tup r) b = some (.tup r) := upd_same
                  generalize upd H5 b (.tup r) = H6 at s6 eb ⊢
                  refine ⟨b, r, rfl, .inr (SqT.of eb), fun p hp => ?_⟩
                  have s7 : Same H6 (upd H6 p (.lst r)) := same_alloc hp
                  have ep : upd H6 p (.lst r) p = some (.lst r) := upd_same
                  have nPH : ∀ {o : HO}, H5 p ≠ some o := fun {o} e => by rw [s6 _ _ e] at hp; cases hp
                  generalize upd H6 p (.lst r) = H7 at s7 ep ⊢
                  have eD7 := s7 _ _ (s6 _ _ eD)
                  have eW7 := s7 _ _ (s6 _ _ eW5)
                  have s57 := s6.trans s7
                  have sH7 : Same H H7 := s1.trans (s2.trans (s25.trans s57))
                  have npH : H p = none := by
                    cases e : H p with
                    | none => rfl
                    | some o => exact absurd ((s1.trans (s2.trans s25)) _ _ e) nPH
                  have npW : W ≠ p := fun z => nPH (by rw [← z]; exact eW5)
                  clear hb hp s6 s7 eD eW5 nPH eb
                  dsimp only [gName, List.set_cons_succ, List.set_cons_zero]
                  have lS : ((sorts fm.2.2).map fun x => V.str x.sign).length = r.length := by rw [List.length_map, e2]
                  refine ⟨_, rfl, _, rfl, D, p, _, r, rfl, SqL.of eD7, SqL.of ep, fun D2 hD2 => lc_it (walk_zip (K := K) (xs := (sorts fm.2.2).map fun x => V.str x.sign) (ys := r) (n := ((sorts fm.2.2).map fun x => V.str x.sign).length) (by rw [lS, Nat.min_self])) (fun i H' => KB D2 H7 H' ∧ ∃ acc : List V, H' D2 = some (.lst acc) ∧ acc.length ≤ i ∧ acc.isEmpty = (((sorts fm.2.2).zip r).take i).all fun q => q.1.okB q.2) ⟨KB.alloc hD2, [], upd_same, Nat.le_refl _, rfl⟩ (fun i H' _ h => ⟨(same_nt (KB.same hD2 h.1)).seq (SqL.of eD7), (same_nt (KB.same hD2 h.1)).seq (SqL.of ep)⟩) ?_ ?_⟩
                  · rintro j w8 H8 H8' hj ⟨kb, acc, e8, la, al⟩ ⟨t, u, v, rfl, ht, rfl, h1, h2⟩
                    obtain ⟨y, hy⟩ : ∃ y, (sorts fm.2.2)[j]? = some y := ⟨_, List.getElem?_eq_getElem (by rw [List.length_map] at hj; exact hj)⟩
                    have h1 : ((sorts fm.2.2).map fun x => V.str x.sign)[j]? = some u := h1
                    have h2 : r[j]? = some v := h2
                    rw [List.getElem?_map, hy] at h1
                    obtain rfl := Option.some.inj h1
                    have hz : ((sorts fm.2.2).zip r)[j]? = some (y, v) := by rw [List.getElem?_zip_eq_some]; exact ⟨hy, h2⟩
                    have s8 := KB.same hD2 kb
                    have ntD : D2 ≠ t := fun z => by rw [← z, e8] at ht; cases ht
                    have kb9 : KB D2 H7 (upd H8 t (.tup [.str y.sign, v])) := kb.trans (KB.alloc ht)
                    have e9 : upd H8 t (.tup [.str y.sign, v]) D2 = some (.lst acc) := by rw [upd_ne ntD]; exact e8
                    have te : upd H8 t (.tup [.str y.sign, v]) t = some (.tup [.str y.sign, v]) := upd_same
                    have thv : Th (upd H8 t (.tup [.str y.sign, v])) v := th_nt (same_nt (sH7.trans (s8.trans (same_alloc ht)))) (kidr v (List.mem_of_getElem? h2))
                    generalize upd H8 t (.tup [.str y.sign, v]) = H9 at kb9 e9 te thv ⊢
                    refine ⟨t, [.str y.sign, v], rfl, SqT.of te, rfl, _, _, rfl, _, _, rfl, rfl, wipe2 (by simp) (by simp), ?_⟩
                    refine ⟨_, rfl, _, rfl, y, v, rfl, thv, fun H10 s10 => ⟨_, rfl, ?_⟩⟩
                    have kbA : KB D2 H7 H10 := fun c o nc e => s10 _ _ (kb9 c o nc e)
                    have eA := s10 _ _ e9
                    cases ob : y.okB v with
                    | true =>
                      refine iteF ⟨kbA, acc, eA, Nat.le_succ_of_le la, ?_⟩
                      rw [all_step hz, ← al, ob, Bool.and_true]
                    | false =>
                      refine iteT ⟨acc, eA, ?_, fun c o nc e => by rw [upd_ne nc]; exact kbA c o nc e, acc ++ [.int 1], upd_same, by rw [List.length_append]; exact Nat.succ_le_succ la, ?_⟩
                      · have := sorts_le fm.2.2
                        rw [List.length_map] at hj
                        exact lt_line _ (by omega)
                      · rw [all_step hz, ob, Bool.and_false]
                        cases acc <;> rfl
                  · rintro H8 ⟨kb, acc, e8, la, al⟩
                    rw [List.take_of_length_le (by rw [List.length_zip, List.length_map]; exact Nat.min_le_left ..), ← okFits_at e2] at al
                    have s8 := KB.same hD2 kb
                    refine ⟨Nat.zero_le _, fun E0 hE0 => ?_⟩
                    have s9 : Same H7 (upd H8 E0 (.lst [])) := s8.trans (same_alloc hE0)
                    refine ⟨D2, E0, acc, rfl, rfl, SqL.of (same_alloc hE0 _ _ e8), SqL.of upd_same, _, rfl, ?_⟩
                    generalize upd H8 E0 (.lst []) = H9 at s9 ⊢
                    rw [al]
                    cases ok : okFits fm.2.2 r with
                    | false =>
                      refine iteT (kN (fun g hg eg => ?_) _ (sH7.trans s9))
                      rw [forms_eq hg hfm (eg.trans e1.symm)]
                      exact ok
                    | true =>
                      obtain ⟨ps, rfl, fit⟩ := okFits_ex ok
                      have kk := kY fm ps hfm fit (by rw [dv, e1])
                      have eW9 := s9 _ _ eW7
                      have ep9 := s9 _ _ ep
                      have sH9 : Same H H9 := sH7.trans s9
                      clear kN kY e8 kb s8 hE0 hD2 s9 eW7 ep eD7 sH7 s57
                      refine iteF ⟨⟨_, rfl⟩, _, rfl, W, rfl, ⟨_, SqL.of eW9⟩, fun D3 hD3 => ?_⟩
                      have n3p : D3 ≠ p := fun z => by rw [z, ep9] at hD3; cases hD3
                      have n3W : D3 ≠ W := fun z => by rw [z, eW9] at hD3; cases hD3
                      have n3H : H D3 = none := by
                        cases e : H D3 with
                        | none => rfl
                        | some o => rw [sH9 _ _ e] at hD3; cases hD3
                      refine lc_it (walk_list (K := K) (xs := (fm.2.2.map Fw.sg).map V.str)) (fun i H' => ∃ (rest : List Pa) (done : List Str), H' p = some (.lst (rest.map Pa.v)) ∧ H' D3 = some (.lst (done.map V.str)) ∧ H' W = some (.lst ((fm.2.2.map Fw.sg).map V.str)) ∧ Fit (fm.2.2.drop i) rest ∧ done ++ row (fm.2.2.drop i) rest = row fm.2.2 ps ∧ done.length = i ∧ Same H H')
                        ⟨ps, [], by rw [upd_ne n3p.symm]; exact ep9, upd_same, by rw [upd_ne n3W.symm]; exact eW9, fit, rfl, rfl, sH9.trans (same_alloc hD3)⟩ (fun i H' _ h => by obtain ⟨_, _, _, _, h, _⟩ := h; exact SqL.of h) ?_ ?_
                      · rintro j v HA HA' hj ⟨rest, done, h1, h2, h3, h4, h5, h6, h7⟩ ⟨rfl, hv⟩
                        obtain ⟨fw, hx⟩ : ∃ fw, fm.2.2[j]? = some fw := ⟨_, List.getElem?_eq_getElem (by simpa using hj)⟩
                        have j6 : j < 6 := by
                          have : j < fm.2.2.length := by simpa using hj
                          omega
                        rw [List.getElem?_map, List.getElem?_map, hx] at hv
                        obtain rfl := Option.some.inj hv
                        rw [drop_atG hx] at h4 h5
                        refine ⟨wipe1 (by simp), lcY ⟨_, rfl, by show 4 ≤ sizeLine; decide, fun q hq => ?_⟩⟩
                        have hin := sg_in fm hfm fw (List.mem_of_getElem? hx)
                        refine ⟨q, [Str.ofString "N", Str.ofString "K", Str.ofString "H", Str.ofString "D"].map V.str, rfl, .inr (SqT.of upd_same), rfl, strs_flat _, _, rfl, ?_⟩
                        rw [if_neg Bool.false_ne_true, hin]
                        have sq : Same HA' (upd HA' q (.tup [.str (Str.ofString "N"), .str (Str.ofString "K"), .str (Str.ofString "H"), .str (Str.ofString "D")])) := same_alloc hq
                        generalize upd HA' q (.tup [.str (Str.ofString "N"), .str (Str.ofString "K"), .str (Str.ofString "H"), .str (Str.ofString "D")]) = HB at sq ⊢
                        replace h1 := sq _ _ h1
                        replace h2 := sq _ _ h2
                        replace h3 := sq _ _ h3
                        have h7 := h7.trans sq
                        cases fw with
                        | lit z =>
                          cases h4 with
                          | lit h4 =>
                            refine iteF ⟨_, rfl, _, h2, by rw [List.length_map, h6]; exact Nat.lt_trans j6 (by decide), rest, done ++ [z], by rw [upd_ne n3p.symm]; exact h1, by rw [upd_same, List.map_append]; rfl, by rw [upd_ne n3W.symm]; exact h3, h4, by rw [List.append_assoc]; exact h5, by rw [List.length_append, h6]; rfl, fun c o h => by rw [upd_ne (ne_of_none h n3H)]; exact h7 c o h⟩
                        | so y =>
                          cases h4 with
                          | @so _ _ q rest' ok4 h4 =>
                            refine iteT ⟨_, rfl, .inl ⟨rfl, _, SqL.of h1⟩, p, _, 0, 0, q.v, rfl, rfl, h1, by decide, by decide, by simp [seqIndex?], rfl, q, rfl, pa_log ok4, ?_⟩
                            refine ⟨_, by rw [upd_ne n3p]; exact h2, by rw [List.length_map, h6]; exact Nat.lt_trans j6 (by decide), rest', done ++ [q.t], by rw [upd_ne n3p.symm, upd_same]; rfl, by rw [upd_same, List.map_append]; rfl, by rw [upd_ne n3W.symm, upd_ne npW]; exact h3, h4, by rw [List.append_assoc]; exact h5, by rw [List.length_append, h6]; rfl, fun c o h => by rw [upd_ne (ne_of_none h n3H), upd_ne (ne_of_none h npH)]; exact h7 c o h⟩
                      · rintro HA ⟨rest, done, h1, h2, h3, h4, h5, h6, h7⟩
                        have e0 : fm.2.2.drop ((fm.2.2.map Fw.sg).map V.str).length = [] := by rw [List.length_map, List.length_map, List.drop_length]
                        rw [e0] at h5
                        have e1 : row [] rest = [] := by cases rest <;> rfl
                        rw [e1, List.append_nil] at h5
                        subst h5
                        have wk := row_wok fit (forms_in fm hfm)
                        have s7 := sum_wok wk
                        have rl := row_len fit
                        refine ⟨_, D3, row fm.2.2 ps, rfl, rfl, .inl (SqL.of h2), ?_, kk _ h7⟩
                        rw [rl] at s7
                        rw [show (Str.ofString " ").length = 1 by decide +kernel, rl]
                        omega
                · rw [decide_eq_false (fun h => e2 (by have := V.int.inj h; rw [List.length_map, List.length_cons] at this; push_cast at this; omega))]
                  exact iteF ⟨_, _, _, _, _, _, _, rfl, s25, more fun _ => okFits_no e2⟩
              · rw [decide_eq_false (fun h => e1 (V.str.inj h))]
                exact iteF (iteF ⟨_, _, _, _, _, _, _, rfl, s25, more fun q => absurd q e1⟩)
          · rintro σ H3 ⟨u1, u2, u3, u4, u5, u6, u7, rfl, s3, hno⟩
            refine kN (fun fm hfm e => ?_) _ (s1.trans (s2.trans s3))
            obtain ⟨j, hj⟩ := List.mem_iff_getElem?.mp hfm
            exact hno j fm (List.getElem?_eq_some_iff.mp hj).1 hj e
        · rcases ht with rfl | rfl | rfl | rfl
          · exact ⟨_, rfl, d, _, 0, _, rfl, rfl, SqT.of hd1, a0, _, _, _, _, false, rfl, .ty "str", ty, (by rfl), _, rfl, iteT (k1 n3)⟩
          · exact ⟨_, rfl, d, _, 0, _, rfl, rfl, SqT.of hd1, a0, _, _, _, _, false, rfl, .ty "str", ty, (by rfl), _, rfl, iteT (k1 n3)⟩
          · exact ⟨_, rfl, d, _, 0, _, rfl, rfl, SqT.of hd1, a0, _, _, _, _, false, rfl, .ty "str", ty, (by rfl), _, rfl, iteT (k1 n3)⟩
          · exact ⟨_, rfl, d, _, 0, _, rfl, rfl, SqT.of hd1, a0, _, _, _, _, false, rfl, .ty "str", ty, (by rfl), _, rfl, iteT (k1 n3)⟩
end
end F4

set_option maxRecDepth 100000
set_option maxHeartbeats 1600000
namespace F4
open PySem PySem.Spec PyProof.Rows L2 GxR Gd TL My
section
variable {P : Program} {w : World} {K : PySem.W.Frag} {mg : Str → Option Value} {base : Heap}
abbrev s_law_odd : Stmt := top 43
theorem sc_law_odd : FnScope ["_law_box_here", "_law_some"] ["_law_box_here"] (defScope s_law_odd) := ⟨rfl, rfl, rfl, by decide +kernel, rfl, by decide +kernel, by decide +kernel⟩
/-- things that the law puts in the place of others -/
def spOdd : Sp := fun vs H Q _ => ∃ (b : Addr) (n : Int), vs = [.ref b] ∧ Bx b n H ∧ 0 ≤ n ∧ n ≤ 90000 ∧ ∀ v H', Wf (· ≠ b) H' 8 1 v → (∀ a, v = .ref a → H a = none) → KB b H H' → Bx b (n + 1) H' → Q v H'
theorem ok_law_odd {f fT : Addr} {fd fdT : FuncData} (F : Fun K "_law_odd" "_law_odd" s_law_odd f fd) (T : Txt mg)
    (Nlaw_take : Fn K mg "_law_take" sTake ["_law_box_here", "_law_many"] fT fdT) (Glaw_take : FnOk P w K mg base CX0 1 fT fdT ["_law_box_here", "_law_many"] spTake) :
    FnOk P w K mg base CX0 2 f fd ["_law_box_here"] spOdd := by
  refine F.ok sc_law_odd (fun vs H Q E h => ?_) (fun cdv A outer s H vs Q E hr h => ?_)
  · obtain ⟨b, n, rfl, _⟩ := h
    rfl
  · obtain ⟨b, n, rfl, hB, n0, n1, k⟩ := h
    refine ⟨_, pss_cons (ps_set (i := 1) sc_law_odd.nd rfl (Or.inl rfl) (pe_lst (pa_cons pe_non (pa_cons pe_bl (pa_cons pe_bl (pa_cons (pe_un un_neg pe_int) (pa_cons (pe_op op_pow pe_int pe_int) (pa_cons (pe_op op_pow pe_int pe_int) (pa_cons pe_str (pa_cons pe_str (pa_cons pe_str (pa_cons pe_str (pa_cons pe_str (pa_cons pe_str (pa_cons pe_str (pa_cons pe_str (pa_cons pe_int pa_nil)))))))))))))))))
      (pss_one (ps_ret (pe_ix ix_list (pe_op op_cat (pv 1) (pe_lst (pa_cons (pe_lst pa_nil) (pa_cons pe_dnewK (pa_cons (pe_tup pa_nil) (pa_cons (pe_lst (pa_cons pe_str pa_nil)) (pa_cons (pe_tup (pa_cons pe_str pa_nil)) (pa_cons pe_str pa_nil)))))))) (pe_call Glaw_take (hr.mono (by decide)) (by rfl) Nlaw_take.g Nlaw_take.kp Nlaw_take.b .nil pass0 (pa_cons (pv 0) (pa_cons pe_int pa_nil))) (fun _ _ => rfl)))), ?_⟩
    refine ⟨_, rfl, _, _, rfl, rfl, ⟨by decide, by decide, by decide⟩, _, _, rfl, rfl, ⟨by decide, by decide, by decide⟩, by show 15 ≤ sizeLine; decide, fun S hS => ?_⟩
    have s1 : Same H (upd H S (.lst [.non, .bl true, .bl false, .int (-1), .int (10 ^ (6 : Int).toNat), .int (10 ^ (29 : Int).toNat), .str (Str.ofString ""), .str (Str.ofString "abcdefg"), .str (Str.ofString "A"), .str (Str.ofString "a b"), .str (Str.ofString "staff"), .str (Str.ofString "long"), .str (Str.ofString "open"), .str (Str.ofString "0"), .int 0])) := same_alloc hS
    have eS : upd H S (.lst [.non, .bl true, .bl false, .int (-1), .int (10 ^ (6 : Int).toNat), .int (10 ^ (29 : Int).toNat), .str (Str.ofString ""), .str (Str.ofString "abcdefg"), .str (Str.ofString "A"), .str (Str.ofString "a b"), .str (Str.ofString "staff"), .str (Str.ofString "long"), .str (Str.ofString "open"), .str (Str.ofString "0"), .int 0]) S = some (.lst [.non, .bl true, .bl false, .int (-1), .int (10 ^ (6 : Int).toNat), .int (10 ^ (29 : Int).toNat), .str (Str.ofString ""), .str (Str.ofString "abcdefg"), .str (Str.ofString "A"), .str (Str.ofString "a b"), .str (Str.ofString "staff"), .str (Str.ofString "long"), .str (Str.ofString "open"), .str (Str.ofString "0"), .int 0]) := upd_same
    generalize upd H S (.lst [.non, .bl true, .bl false, .int (-1), .int (10 ^ (6 : Int).toNat), .int (10 ^ (29 : Int).toNat), .str (Str.ofString ""), .str (Str.ofString "abcdefg"), .str (Str.ofString "A"), .str (Str.ofString "a b"), .str (Str.ofString "staff"), .str (Str.ofString "long"), .str (Str.ofString "open"), .str (Str.ofString "0"), .int 0]) = H1 at s1 eS ⊢
    refine ⟨_, rfl, Nat.zero_le _, fun a1 ha1 => ?_⟩
    have s2 : Same H1 (upd H1 a1 (.lst [])) := same_alloc ha1
    have ea1 : upd H1 a1 (.lst []) a1 = some (.lst []) := upd_same
    generalize upd H1 a1 (.lst []) = H2 at s2 ea1 ⊢
    refine fun a2 ha2 => ?_
    have s3 : Same H2 (upd H2 a2 (.dK [])) := same_alloc ha2
    have ea2 : upd H2 a2 (.dK []) a2 = some (.dK []) := upd_same
    generalize upd H2 a2 (.dK []) = H3 at s3 ea2 ⊢
    refine ⟨Nat.zero_le _, fun a3 ha3 => ?_⟩
    have s4 : Same H3 (upd H3 a3 (.tup [])) := same_alloc ha3
    have ea3 : upd H3 a3 (.tup []) a3 = some (.tup []) := upd_same
    generalize upd H3 a3 (.tup []) = H4 at s4 ea3 ⊢
    refine ⟨by show 1 ≤ sizeLine; decide, fun a4 ha4 => ?_⟩
    have s5 : Same H4 (upd H4 a4 (.lst [.str (Str.ofString "a")])) := same_alloc ha4
    have ea4 : upd H4 a4 (.lst [.str (Str.ofString "a")]) a4 = some (.lst [.str (Str.ofString "a")]) := upd_same
    generalize upd H4 a4 (.lst [.str (Str.ofString "a")]) = H5 at s5 ea4 ⊢
    refine ⟨by show 1 ≤ sizeLine; decide, fun a5 ha5 => ?_⟩
    have s6 : Same H5 (upd H5 a5 (.tup [.str (Str.ofString "a")])) := same_alloc ha5
    have ea5 : upd H5 a5 (.tup [.str (Str.ofString "a")]) a5 = some (.tup [.str (Str.ofString "a")]) := upd_same
    generalize upd H5 a5 (.tup [.str (Str.ofString "a")]) = H6 at s6 ea5 ⊢
    refine ⟨by show 6 ≤ sizeLine; decide, fun L hL => ?_⟩
    have s7 : Same H6 (upd H6 L (.lst [.ref a1, .ref a2, .ref a3, .ref a4, .ref a5, .str (Str.ofString "ab1")])) := same_alloc hL
    have eL : upd H6 L (.lst [.ref a1, .ref a2, .ref a3, .ref a4, .ref a5, .str (Str.ofString "ab1")]) L = some (.lst [.ref a1, .ref a2, .ref a3, .ref a4, .ref a5, .str (Str.ofString "ab1")]) := upd_same
    generalize upd H6 L (.lst [.ref a1, .ref a2, .ref a3, .ref a4, .ref a5, .str (Str.ofString "ab1")]) = H7 at s7 eL ⊢
    have sA : Same H H7 := (s1.trans (s2.trans (s3.trans (s4.trans (s5.trans (s6.trans s7))))))
    have fS := (s2.trans (s3.trans (s4.trans (s5.trans (s6.trans s7))))) _ _ eS
    have fa1 := (s3.trans (s4.trans (s5.trans (s6.trans s7)))) _ _ ea1
    have fa2 := (s4.trans (s5.trans (s6.trans s7))) _ _ ea2
    have fa3 := (s5.trans (s6.trans s7)) _ _ ea3
    have fa4 := (s6.trans s7) _ _ ea4
    have fa5 := s7 _ _ ea5
    have fL := eL
    have nn : ∀ {H' : Hp} {c : Addr}, Same H H' → H' c = none → H c = none := fun {H' c} s h => by
      cases e : H c with
      | none => rfl
      | some o => rw [s _ _ e] at h; cases h
    have nS := hS
    have na1 := nn s1 ha1
    have na2 := nn (s1.trans s2) ha2
    have na3 := nn (s1.trans (s2.trans s3)) ha3
    have na4 := nn (s1.trans (s2.trans (s3.trans s4))) ha4
    have na5 := nn (s1.trans (s2.trans (s3.trans (s4.trans s5)))) ha5
    have nL := nn (s1.trans (s2.trans (s3.trans (s4.trans (s5.trans s6))))) hL
    clear eS ea1 ea2 ea3 ea4 ea5 eL hS ha1 ha2 ha3 ha4 ha5 hL s1 s2 s3 s4 s5 s6 s7
    refine ⟨S, L, _, _, rfl, rfl, fS, fL, by show 21 ≤ sizeLine; decide, fun C hC => ?_⟩
    have sC : Same H7 (upd H7 C (.lst ([.non, .bl true, .bl false, .int (-1), .int (10 ^ (6 : Int).toNat), .int (10 ^ (29 : Int).toNat), .str (Str.ofString ""), .str (Str.ofString "abcdefg"), .str (Str.ofString "A"), .str (Str.ofString "a b"), .str (Str.ofString "staff"), .str (Str.ofString "long"), .str (Str.ofString "open"), .str (Str.ofString "0"), .int 0] ++ [.ref a1, .ref a2, .ref a3, .ref a4, .ref a5, .str (Str.ofString "ab1")]))) := same_alloc hC
    have eC : upd H7 C (.lst ([.non, .bl true, .bl false, .int (-1), .int (10 ^ (6 : Int).toNat), .int (10 ^ (29 : Int).toNat), .str (Str.ofString ""), .str (Str.ofString "abcdefg"), .str (Str.ofString "A"), .str (Str.ofString "a b"), .str (Str.ofString "staff"), .str (Str.ofString "long"), .str (Str.ofString "open"), .str (Str.ofString "0"), .int 0] ++ [.ref a1, .ref a2, .ref a3, .ref a4, .ref a5, .str (Str.ofString "ab1")])) C = some (.lst ([.non, .bl true, .bl false, .int (-1), .int (10 ^ (6 : Int).toNat), .int (10 ^ (29 : Int).toNat), .str (Str.ofString ""), .str (Str.ofString "abcdefg"), .str (Str.ofString "A"), .str (Str.ofString "a b"), .str (Str.ofString "staff"), .str (Str.ofString "long"), .str (Str.ofString "open"), .str (Str.ofString "0"), .int 0] ++ [.ref a1, .ref a2, .ref a3, .ref a4, .ref a5, .str (Str.ofString "ab1")])) := upd_same
    generalize upd H7 C (.lst ([.non, .bl true, .bl false, .int (-1), .int (10 ^ (6 : Int).toNat), .int (10 ^ (29 : Int).toNat), .str (Str.ofString ""), .str (Str.ofString "abcdefg"), .str (Str.ofString "A"), .str (Str.ofString "a b"), .str (Str.ofString "staff"), .str (Str.ofString "long"), .str (Str.ofString "open"), .str (Str.ofString "0"), .int 0] ++ [.ref a1, .ref a2, .ref a3, .ref a4, .ref a5, .str (Str.ofString "ab1")])) = HC at sC eC ⊢
    have sH := sA.trans sC
    have B0 : Bx b n HC := hB.same (by obtain ⟨x, y, z, h1, _⟩ := hB; rw [h1]; exact sH _ _ h1)
    refine ⟨_, rfl, b, 21, n, rfl, B0, by omega, by decide, by decide, fun d HD d0 d1 off B1 => ?_⟩
    have kb : KB b H HD := fun c o nc e => (off c nc).trans (sH c o e)
    have nbH : ∀ {c : Addr}, H c = none → c ≠ b := fun {c} e0 z => by
      subst z
      obtain ⟨x, y, z, h1, _⟩ := hB
      rw [e0] at h1; cases h1
    have up : ∀ {c : Addr} {o : HO}, H c = none → H7 c = some o → HD c = some o := fun {c o} e0 e => by rw [off c (nbH e0)]; exact sC _ _ e
    have eCD : HD C = some (.lst ([.non, .bl true, .bl false, .int (-1), .int (10 ^ (6 : Int).toNat), .int (10 ^ (29 : Int).toNat), .str (Str.ofString ""), .str (Str.ofString "abcdefg"), .str (Str.ofString "A"), .str (Str.ofString "a b"), .str (Str.ofString "staff"), .str (Str.ofString "long"), .str (Str.ofString "open"), .str (Str.ofString "0"), .int 0] ++ [.ref a1, .ref a2, .ref a3, .ref a4, .ref a5, .str (Str.ofString "ab1")])) := by rw [off C (nbH (nn sA hC))]; exact eC
    have fin : ∀ v, atI ([.non, .bl true, .bl false, .int (-1), .int (10 ^ (6 : Int).toNat), .int (10 ^ (29 : Int).toNat), .str (Str.ofString ""), .str (Str.ofString "abcdefg"), .str (Str.ofString "A"), .str (Str.ofString "a b"), .str (Str.ofString "staff"), .str (Str.ofString "long"), .str (Str.ofString "open"), .str (Str.ofString "0"), .int 0] ++ [.ref a1, .ref a2, .ref a3, .ref a4, .ref a5, .str (Str.ofString "ab1")]) d = some v → Wf (· ≠ b) HD 8 1 v → (∀ a, v = .ref a → H a = none) → rIxL K (.ref C) (.int d) HD Q := fun v ev ov fv => ⟨C, _, d, v, rfl, rfl, SqL.of eCD, ev, k v HD ov fv kb B1⟩
    have : d = 0 ∨ d = 1 ∨ d = 2 ∨ d = 3 ∨ d = 4 ∨ d = 5 ∨ d = 6 ∨ d = 7 ∨ d = 8 ∨ d = 9 ∨ d = 10 ∨ d = 11 ∨ d = 12 ∨ d = 13 ∨ d = 14 ∨ d = 15 ∨ d = 16 ∨ d = 17 ∨ d = 18 ∨ d = 19 ∨ d = 20 := by omega
    rcases this with rfl | rfl | rfl | rfl | rfl | rfl | rfl | rfl | rfl | rfl | rfl | rfl | rfl | rfl | rfl | rfl | rfl | rfl | rfl | rfl | rfl
    · exact fin _ rfl (.non 1) (fun a h => by cases h)
    · exact fin _ rfl (.bl true 1) (fun a h => by cases h)
    · exact fin _ rfl (.bl false 1) (fun a h => by cases h)
    · exact fin _ rfl (.int _ (by decide) 1) (fun a h => by cases h)
    · exact fin _ rfl (.int _ (by decide) 1) (fun a h => by cases h)
    · exact fin _ rfl (.int _ (by decide) 1) (fun a h => by cases h)
    · exact fin _ rfl (.str _ (good_of _) (by decide +kernel) 1) (fun a h => by cases h)
    · exact fin _ rfl (.str _ (good_of _) (by decide +kernel) 1) (fun a h => by cases h)
    · exact fin _ rfl (.str _ (good_of _) (by decide +kernel) 1) (fun a h => by cases h)
    · exact fin _ rfl (.str _ (good_of _) (by decide +kernel) 1) (fun a h => by cases h)
    · exact fin _ rfl (.str _ (good_of _) (by decide +kernel) 1) (fun a h => by cases h)
    · exact fin _ rfl (.str _ (good_of _) (by decide +kernel) 1) (fun a h => by cases h)
    · exact fin _ rfl (.str _ (good_of _) (by decide +kernel) 1) (fun a h => by cases h)
    · exact fin _ rfl (.str _ (good_of _) (by decide +kernel) 1) (fun a h => by cases h)
    · exact fin _ rfl (.int _ (by decide) 1) (fun a h => by cases h)
    · exact fin _ rfl (.lst a1 [] 0 (up na1 fa1) (nbH na1) (by decide) (fun x hx => by cases hx)) (fun a h => by cases h; exact na1)
    · exact fin _ rfl (.dic a2 (up na2 fa2) 0) (fun a h => by cases h; exact na2)
    · exact fin _ rfl (.tup a3 [] 0 (up na3 fa3) (by decide) (fun x hx => by cases hx)) (fun a h => by cases h; exact na3)
    · exact fin _ rfl (.lst a4 _ 0 (up na4 fa4) (nbH na4) (by decide) (fun x hx => by rw [List.mem_singleton.mp hx]; exact .str _ (good_of _) (by decide +kernel) 0)) (fun a h => by cases h; exact na4)
    · exact fin _ rfl (.tup a5 _ 0 (up na5 fa5) (by decide) (fun x hx => by rw [List.mem_singleton.mp hx]; exact .str _ (good_of _) (by decide +kernel) 0)) (fun a h => by cases h; exact na5)
    · exact fin _ rfl (.str _ (good_of _) (by decide +kernel) 1) (fun a h => by cases h)
end
end F4

set_option maxRecDepth 100000
set_option maxHeartbeats 3200000
namespace F4
open PySem PySem.Spec PyProof.Rows L2 GxR Gd TL My
theorem cut_to {xs : List V} (j : Nat) : cutV xs none (some (j : Int)) = xs.take j := by
  unfold cutV
  rw [HT.sIx_none, HT.sIx_nat]
  simp only [List.drop_zero, Nat.sub_zero]
  by_cases h : j ≤ xs.length
  · rw [Nat.min_eq_left h]
  · rw [Nat.min_eq_right (by omega), List.take_of_length_le (Nat.le_refl _), List.take_of_length_le (by omega)]
theorem cut_from {xs : List V} (j : Nat) : cutV xs (some (j : Int)) none = xs.drop j := by
  unfold cutV
  rw [HT.sIx_none, HT.sIx_nat]
  by_cases h : j ≤ xs.length
  · rw [Nat.min_eq_left h, List.take_of_length_le (by rw [List.length_drop]; exact Nat.le_refl _)]
  · rw [Nat.min_eq_right (by omega), List.drop_of_length_le (Nat.le_refl _), List.drop_of_length_le (by omega)]
    simp
theorem ixN_of {n j : Nat} (hj : j < n) : ixN n (j : Int) = some j := by
  unfold ixN
  rw [if_pos (by omega), if_pos (by omega)]
  simp
theorem slA_of {K : PySem.W.Frag} {H : Hp} {a : Addr} {xs : List V} {lo hi : Option Int} {Q : VK} (ha : H a = some (.tup xs)) (k : ∀ p H', Same H H' → H' p = some (.tup (cutV xs lo hi)) → Q (.ref p) H') : rSlA K (.ref a) lo hi H Q := by
  refine ⟨a, xs, rfl, SqT.of ha, fun h => ?_, fun _ p hp => k p _ (same_alloc hp) upd_same⟩
  refine k a H (Same.refl H) ?_
  rw [ha]
  unfold cutV
  rw [h.1, h.2, List.drop_zero, Nat.sub_zero, List.take_length]
theorem catA_of {K : PySem.W.Frag} {H : Hp} {a b : Addr} {xs ys : List V} {Q : VK} (ha : H a = some (.tup xs)) (hb : H b = some (.tup ys)) (hl : xs.length + ys.length ≤ sizeLine) (k : ∀ p H', Same H H' → H' p = some (.tup (xs ++ ys)) → Q (.ref p) H') : rCatA K (.ref a) (.ref b) H Q := by
  refine ⟨a, b, xs, ys, rfl, rfl, SqT.of ha, SqT.of hb, hl, fun e => k b H (Same.refl H) (by rw [e, hb]; rfl), fun _ e => k a H (Same.refl H) (by rw [e, List.append_nil, ha]), fun _ _ p hp => k p _ (same_alloc hp) upd_same⟩
theorem pa_wf {N : Addr → Prop} {H : Hp} {x : So} {p : Pa} (h : x.ok p) : Wf N H 8 0 p.v := by
  cases p with
  | s z =>
    have t := pa_th (H := fun _ => none) h
    cases t with
    | str _ _ g => exact .str z g (by have := (pa_wok h).2.1; show z.length ≤ 50; have e : (Pa.s z).t = z := rfl; rw [e] at this; omega) 0
  | n i =>
    have hi : 0 ≤ i ∧ i ≤ 999999 := by cases x <;> first | exact False.elim h | exact h
    exact .int i (by omega) 0
theorem fit_wf {N : Addr → Prop} {H : Hp} {f : List Fw} {ps : List Pa} (h : Fit f ps) : ∀ v ∈ ps.map Pa.v, Wf N H 8 0 v := by
  induction h with
  | nil => intro v hv; cases hv
  | lit _ ih => exact ih
  | so hp _ ih =>
    intro v hv
    rcases List.mem_cons.mp hv with rfl | hv
    · exact pa_wf hp
    · exact ih v hv
theorem names_short : ∀ f ∈ forms, (Str.ofString f.1).length ≤ 50 := by decide +kernel
theorem dv_wf {N : Addr → Prop} {H : Hp} {fm : Fm} {ps : List Pa} (hf : fm ∈ forms) (h : Fit fm.2.2 ps) : (∀ v ∈ dv fm ps, Wf N H 8 0 v) ∧ 1 ≤ (dv fm ps).length ∧ (dv fm ps).length ≤ 7 := by
  refine ⟨fun v hv => ?_, ?_, ?_⟩
  · rcases List.mem_cons.mp hv with rfl | hv
    · exact .str _ (good_of _) (names_short fm hf) 0
    · exact fit_wf h v hv
  · exact Nat.succ_pos _
  · have l6 := forms_len fm hf
    have := fit_len h
    have := sorts_le fm.2.2
    show (ps.map Pa.v).length + 1 ≤ 7
    rw [List.length_map]
    omega
section
variable {P : Program} {w : World} {K : PySem.W.Frag} {mg : Str → Option Value} {base : Heap}
theorem tsl_to {K : PySem.W.Frag} {σ : L2.St} {H : Hp} {C : VK} {d : Addr} {xs : List V} {j : Nat} (h1 : σ[1]? = some (some (.ref d))) (h3 : σ[3]? = some (some (.int (j : Int)))) (hd : H d = some (.tup xs))
    (k : ∀ p H', Same H H' → H' p = some (.tup (xs.take j)) → C (.ref p) H') : tSl (rSlA K) (tVar 1) tNoPart (tPart (tVar 3)) σ H C := by
  refine ⟨_, h1, _, h3, _, rfl, slA_of hd fun p H' s e => k p H' s ?_⟩
  rw [cut_to] at e
  exact e
theorem tsl_from {K : PySem.W.Frag} {σ : L2.St} {H : Hp} {C : VK} {d : Addr} {xs : List V} {i : Nat} {lo : TE} (h1 : σ[1]? = some (some (.ref d))) (hlo : ∀ (H : Hp) (G : VK), G (.int (i : Int)) H → lo σ H G) (hd : H d = some (.tup xs))
    (k : ∀ p H', Same H H' → H' p = some (.tup (xs.drop i)) → C (.ref p) H') : tSl (rSlA K) (tVar 1) (tPart lo) tNoPart σ H C := by
  refine ⟨_, h1, hlo _ _ ⟨_, rfl, slA_of hd fun p H' s e => k p H' s ?_⟩⟩
  rw [cut_from] at e
  exact e
theorem odd_ins {K : PySem.W.Frag} {σ : L2.St} {H : Hp} {C : VK} {b d : Addr} {n : Int} {xs : List V} {j i : Nat} {lo : TE} (h0 : σ[0]? = some (some (.ref b))) (h1 : σ[1]? = some (some (.ref d))) (h3 : σ[3]? = some (some (.int (j : Int)))) (hlo : ∀ (H : Hp) (G : VK), G (.int (i : Int)) H → lo σ H G)
    (B : Bx b n H) (n0 : 0 ≤ n) (n1 : n ≤ 90000) (hd : H d = some (.tup xs)) (l7 : xs.length ≤ 7) (k : ∀ p H' o, Wf (· ≠ b) H' 8 1 o → KB b H H' → Bx b (n + 1) H' → H' p = some (.tup (xs.take j ++ [o] ++ xs.drop i)) → C (.ref p) H') :
    tOp (rCatA K) (tOp (rCatA K) (tSl (rSlA K) (tVar 1) tNoPart (tPart (tVar 3))) (tTup (tCons (tCall spOdd [] E0 (tCons (tVar 0) tNil)) tNil))) (tSl (rSlA K) (tVar 1) (tPart lo) tNoPart) σ H C := by
  refine tsl_to h1 h3 hd fun p1 H1 s1 e1 => ?_
  have B1 : Bx b n H1 := B.same (by obtain ⟨x, y, z, h, _⟩ := B; rw [h]; exact s1 _ _ h)
  have tk : ∀ {H1 H2 : Hp} {p : Addr} {ys : List V} {m : Int}, Bx b m H1 → KB b H1 H2 → H1 p = some (.tup ys) → H2 p = some (.tup ys) := fun {H1 H2 p ys m} B k e => k _ _ (fun z => by
    subst z
    obtain ⟨x, y, z, h, _⟩ := B
    rw [e] at h; cases h) e
  refine ⟨_, h0, b, n, rfl, B1, n0, n1, fun o H2 ow _ kb2 B2 => ⟨by show 1 ≤ sizeLine; decide, fun p2 q2 => ?_⟩⟩
  have e12 := tk B1 kb2 e1
  have d2 := tk B1 kb2 (s1 _ _ hd)
  have s3 : Same H2 (upd H2 p2 (.tup [o])) := same_alloc q2
  have e2 : upd H2 p2 (.tup [o]) p2 = some (.tup [o]) := upd_same
  generalize upd H2 p2 (.tup [o]) = H3 at s3 e2 ⊢
  refine catA_of (s3 _ _ e12) e2 (by rw [List.length_take]; show _ + 1 ≤ sizeLine; exact small_line (by omega)) fun p3 H4 s4 e3 => ?_
  refine tsl_from h1 hlo (s4 _ _ (s3 _ _ d2)) fun p4 H5 s5 e4 => ?_
  refine catA_of (s5 _ _ e3) e4 (by rw [List.length_append, List.length_take, List.length_drop]; show _ + 1 + _ ≤ sizeLine; exact small_line (by omega)) fun p5 H6 s6 e5 => ?_
  have sA := s3.trans (s4.trans (s5.trans s6))
  exact k p5 H6 o (ow.keep (Kw.same sA)) (fun c x nc e => sA _ _ (kb2 _ _ nc (s1 _ _ e))) (B2.same (by obtain ⟨x, y, z, h, _⟩ := B2; rw [h]; exact sA _ _ h)) e5
abbrev s_law_bad_deed : Stmt := top 44
theorem sc_law_bad_deed : FnScope ["_law_box_here", "_law_deed_here", "_law_way", "_law_at", "_law_other", "_law_parts"] ["_law_box_here", "_law_deed_here"] (defScope s_law_bad_deed) := ⟨rfl, rfl, rfl, by decide +kernel, rfl, by decide +kernel, by decide +kernel⟩
def spBadDeed : Sp := fun vs H Q _ => ∃ (b d : Addr) (n : Int) (fm : Fm) (ps : List Pa), vs = [.ref b, .ref d] ∧ Bx b n H ∧ 0 ≤ n ∧ n ≤ 80000 ∧ H d = some (.tup (dv fm ps)) ∧ fm ∈ forms ∧ Fit fm.2.2 ps ∧
  ∀ v H', Wf (· ≠ b) H' 8 2 v → (∀ c ys, v = .ref c → H' c = some (.lst ys) → H c = none) → KB b H H' → Bx b (n + 5) H' → Q v H'
theorem ok_law_bad_deed {f f1 f2 fT : Addr} {fd fd1 fd2 fdT : FuncData} (F : Fun K "_law_bad_deed" "_law_bad_deed" s_law_bad_deed f fd) (T : Txt mg)
    (Nlaw_take : Fn K mg "_law_take" sTake ["_law_box_here", "_law_many"] fT fdT) (Glaw_take : FnOk P w K mg base CX0 1 fT fdT ["_law_box_here", "_law_many"] spTake)
    (Nlaw_forms : Fn K mg "_law_forms" s_law_forms [] f1 fd1) (Glaw_forms : FnOk P w K mg base CX0 1 f1 fd1 [] spForms)
    (Nlaw_odd : Fn K mg "_law_odd" s_law_odd ["_law_box_here"] f2 fd2) (Glaw_odd : FnOk P w K mg base CX0 2 f2 fd2 ["_law_box_here"] spOdd) :
    FnOk P w K mg base CX0 3 f fd ["_law_box_here", "_law_deed_here"] spBadDeed := by
  refine F.ok sc_law_bad_deed (fun vs H Q E h => ?_) (fun cdv A outer s H vs Q E hr h => ?_)
  · obtain ⟨b, d, n, fm, ps, rfl, _⟩ := h
    rfl
  · obtain ⟨b, d, n, fm, ps, rfl, hB, n0, n1, hd, hfm, fit, k⟩ := h
    obtain ⟨dw, dl1, dl7⟩ := dv_wf (N := (· ≠ b)) (H := H) hfm fit
    generalize dv fm ps = xs at hd dw dl1 dl7
    refine ⟨_, pss_cons (ps_set (i := 2) sc_law_bad_deed.nd rfl (Or.inl rfl) (pe_call Glaw_take (hr.mono (by decide)) (by rfl) Nlaw_take.g Nlaw_take.kp Nlaw_take.b .nil pass0 (pa_cons (pv 0) (pa_cons pe_int pa_nil))))
      (pss_cons (ps_set (i := 3) sc_law_bad_deed.nd rfl (Or.inl rfl) (pe_call Glaw_take (hr.mono (by decide)) (by rfl) Nlaw_take.g Nlaw_take.kp Nlaw_take.b .nil pass0 (pa_cons (pv 0) (pa_cons (pe_callB call_len_seq (by rfl) T.len_ PySem.boot_len (pa_cons (pv 1) pa_nil)) pa_nil))))
      (pss_cons (ps_set (i := 4) sc_law_bad_deed.nd rfl (Or.inl rfl) (pe_call Glaw_take (hr.mono (by decide)) (by rfl) Nlaw_take.g Nlaw_take.kp Nlaw_take.b .nil pass0 (pa_cons (pv 0) (pa_cons (pe_callB call_len_seq (by rfl) T.len_ PySem.boot_len (pa_cons (pv 1) pa_nil)) pa_nil))))
      (pss_cons (ps_if (pt_cmpR op_eq (pv 2) pe_int (nomark _)) (pss_one (ps_ret (pe_op op_catA (pe_slice sl_tupA (pv 1) po_none (po_some (pv 3))) (pe_slice sl_tupA (pv 1) (po_some (pe_op op_add (pv 3) pe_int)) po_none)))) pss_nil)
      (pss_cons (ps_if (pt_cmpR op_eq (pv 2) pe_int (nomark _)) (pss_one (ps_ret (pe_op op_catA (pe_op op_catA (pe_slice sl_tupA (pv 1) po_none (po_some (pv 3))) (pe_tup (pa_cons (pe_call Glaw_odd (hr.mono (by decide)) (by rfl) Nlaw_odd.g Nlaw_odd.kp Nlaw_odd.b .nil pass0 (pa_cons (pv 0) pa_nil)) pa_nil))) (pe_slice sl_tupA (pv 1) (po_some (pv 3)) po_none)))) pss_nil)
      (pss_cons (ps_if (pt_cmpR op_eq (pv 2) pe_int (nomark _)) (pss_one (ps_ret (pe_callTy call_list_of (by rfl) T.list_ (by decide +kernel) (pa_cons (pv 1) pa_nil)))) pss_nil)
      (pss_cons (ps_if (pt_cmpR op_eq (pv 2) pe_int (nomark _)) (pss_cons (ps_set (i := 5) sc_law_bad_deed.nd rfl (Or.inl rfl) (pe_callTy call_list_of (by rfl) T.list_ (by decide +kernel) (pa_cons (pv 1) pa_nil)))
          (pss_cons (ps_asg (pe_tup (pa_cons (pe_ix ix_list (pv 5) (pv 4) (fun _ _ => rfl)) (pa_cons (pe_ix ix_list (pv 5) (pv 3) (fun _ _ => rfl)) pa_nil))) (pg_tup (by rfl) (pgs_cons (pg_sub (pv 5) (pv 3) set_list) (pgs_cons (pg_sub (pv 5) (pv 4) set_list) pgs_nil))))
          (pss_one (ps_ret (pe_callTy call_tuple_of (by rfl) T.tuple_ (by decide +kernel) (pa_cons (pv 5) pa_nil)))))) pss_nil)
      (pss_cons (ps_if (pt_cmpR op_eq (pv 2) pe_int (nomark _)) (pss_one (ps_ret (pe_op op_catA (pe_tup (pa_cons (pe_ix ix_list (pe_split (pe_ix ix_list (pe_call0 Glaw_forms (hr.mono (by decide)) (by rfl) Nlaw_forms.g Nlaw_forms.kp Nlaw_forms.b .nil pass0) (pe_call Glaw_take (hr.mono (by decide)) (by rfl) Nlaw_take.g Nlaw_take.kp Nlaw_take.b .nil pass0 (pa_cons (pv 0) (pa_cons pe_int pa_nil))) (fun _ _ => rfl)) pe_str) pe_int (fun _ _ => rfl)) pa_nil)) (pe_slice sl_tupA (pv 1) (po_some pe_int) po_none)))) pss_nil)
      (pss_cons (ps_if (pt_cmpR op_eq (pv 2) pe_int (nomark _)) (pss_one (ps_ret (pe_call Glaw_odd (hr.mono (by decide)) (by rfl) Nlaw_odd.g Nlaw_odd.kp Nlaw_odd.b .nil pass0 (pa_cons (pv 0) pa_nil)))) pss_nil)
      (pss_cons (ps_if (pt_cmpR op_eq (pv 2) pe_int (nomark _)) (pss_one (ps_ret (pv 1))) pss_nil)
      (pss_one (ps_ret (pe_op op_catA (pe_op op_catA (pe_slice sl_tupA (pv 1) po_none (po_some (pv 3))) (pe_tup (pa_cons (pe_call Glaw_odd (hr.mono (by decide)) (by rfl) Nlaw_odd.g Nlaw_odd.kp Nlaw_odd.b .nil pass0 (pa_cons (pv 0) pa_nil)) pa_nil))) (pe_slice sl_tupA (pv 1) (po_some (pe_op op_add (pv 3) pe_int)) po_none))))))))))))), ?_⟩
    generalize hσ : L2.start _ _ = σ0
    obtain rfl : σ0 = [some (.ref b), some (.ref d), none, none, none, none] := hσ.symm.trans rfl
    have ndb : d ≠ b := fun z => by
      subst z
      obtain ⟨x, y, z, h1, _⟩ := hB
      rw [hd] at h1; cases h1
    refine ⟨_, rfl, b, 8, n, rfl, hB, by omega, by decide, by decide, fun way H1 w0 w1 off1 B1 => ?_⟩
    have hd1 : H1 d = some (.tup xs) := by rw [off1 d ndb]; exact hd
    simp only [List.set_cons_succ, List.set_cons_zero]
    refine ⟨_, rfl, _, rfl, d, xs, rfl, .inr (SqT.of hd1), b, _, n + 1, rfl, B1, by omega, by omega, dec9000 (by omega) (by omega), fun at_ H2 a0 a1 off2 B2 => ?_⟩
    have hd2 : H2 d = some (.tup xs) := by rw [off2 d ndb]; exact hd1
    simp only [List.set_cons_succ, List.set_cons_zero]
    refine ⟨_, rfl, _, rfl, d, xs, rfl, .inr (SqT.of hd2), b, _, n + 1 + 1, rfl, B2, by omega, by omega, dec9000 (by omega) (by omega), fun ot H3 o0 o1 off3 B3 => ?_⟩
    have hd3 : H3 d = some (.tup xs) := by rw [off3 d ndb]; exact hd2
    have k3 : KB b H H3 := (KB.off off1).trans ((KB.off off2).trans (KB.off off3))
    simp only [List.set_cons_succ, List.set_cons_zero]
    obtain ⟨i, rfl⟩ := Int.eq_ofNat_of_zero_le a0
    obtain ⟨j, rfl⟩ := Int.eq_ofNat_of_zero_le o0
    have hi : i < xs.length := by omega
    have hj : j < xs.length := by omega
    clear hd1 hd2 off1 off2 off3 B1 B2 a0 o0 a1 o1
    have B3 : Bx b (n + 3) H3 := B3.mono (by omega)
    -- a tuple of such things
    have tup : ∀ {H' : Hp} {p : Addr} {ys : List V}, KB b H3 H' → Bx b (n + 5) H' → H' p = some (.tup ys) → ys.length ≤ 8 → (∀ y ∈ ys, Wf (· ≠ b) H' 8 1 y) → Q (.ref p) H' := fun {H' p ys} kb B e l w => by
      refine k _ _ (.tup p ys 1 e l w) (fun c zs h q => ?_) (k3.trans kb) B
      cases h
      rw [e] at q; cases q
    have atom : ∀ {H' : Hp}, ∀ x ∈ xs, Wf (· ≠ b) H' 8 1 x := fun {H'} x hx => by
      have h0 := dw x hx
      cases h0 with
      | non _ => exact .non 1
      | bl b _ => exact .bl b 1
      | int i h _ => exact .int i h 1
      | str z g l _ => exact .str z g l 1
    have same3 : ∀ {H' : Hp}, Same H3 H' → KB b H3 H' ∧ Bx b (n + 5) H' := fun {H'} s => ⟨fun c o _ e => s c o e, (B3.same (by obtain ⟨x, y, z, h1, _⟩ := B3; rw [h1]; exact s _ _ h1)).mono (by omega)⟩
    refine ⟨_, rfl, rfl, _, rfl, ite2 (fun c0 => ?_) (fun c0 => ?_)⟩
    · refine tsl_to rfl rfl hd3 fun p1 H4 s4 e1 => tsl_from (i := i + 1) rfl (fun _ G h => ⟨_, rfl, _, _, rfl, rfl, by show G (.int ((i : Int) + 1)) _; rw [show (i : Int) + 1 = ((i + 1 : Nat) : Int) by omega]; exact h⟩) (s4 _ _ hd3) fun p2 H5 s5 e2 => ?_
      refine catA_of (s5 _ _ e1) e2 (by rw [List.length_take, List.length_drop]; exact small_line (by omega)) fun p3 H6 s6 e3 => ?_
      obtain ⟨kb, BB⟩ := same3 (s4.trans (s5.trans s6))
      refine tup kb BB e3 (by rw [List.length_append, List.length_take, List.length_drop]; omega) fun y hy => ?_
      rcases List.mem_append.mp hy with hy | hy
      · exact atom y (List.mem_of_mem_take hy)
      · exact atom y (List.mem_of_mem_drop hy)
    have lo1 : ∀ (H : Hp) (G : VK), G (.int ((i + 1 : Nat) : Int)) H → tOp (rI0 fun i j => V.int (i + j)) (tVar 3) (tC (V.int 1)) [some (.ref b), some (.ref d), some (.int way), some (.int (i : Int)), some (.int (j : Int)), none] H G := fun H G h => ⟨_, rfl, _, _, rfl, rfl, by show G (.int ((i : Int) + 1)) H; rw [show (i : Int) + 1 = ((i + 1 : Nat) : Int) by omega]; exact h⟩
    have ins : ∀ {H' : Hp} {p : Addr} {o : V} {q : Nat}, i ≤ q → Wf (· ≠ b) H' 8 1 o → KB b H3 H' → Bx b (n + 3 + 1) H' → H' p = some (.tup (xs.take i ++ [o] ++ xs.drop q)) → Q (.ref p) H' := fun {H' p o q} hq ow kb B e => by
      refine tup kb (B.mono (by omega)) e (by rw [List.length_append, List.length_append, List.length_take, List.length_drop]; show _ + 1 + _ ≤ 8; omega) fun y hy => ?_
      simp only [List.mem_append, List.mem_singleton] at hy
      rcases hy with (hy | rfl) | hy
      · exact atom y (List.mem_of_mem_take hy)
      · exact ow
      · exact atom y (List.mem_of_mem_drop hy)
    refine ⟨_, rfl, rfl, _, rfl, ite2 (fun c1 => ?_) (fun c1 => ?_)⟩
    · exact odd_ins (i := i) rfl rfl rfl (fun _ _ h => ⟨_, rfl, h⟩) B3 (by omega) (by omega) hd3 dl7 fun p H4 o ow kb BB e => ins (Nat.le_refl i) ow kb BB e
    refine ⟨_, rfl, rfl, _, rfl, ite2 (fun c2 => ?_) (fun c2 => ?_)⟩
    · refine ⟨_, rfl, d, xs, rfl, .inr (SqT.of hd3), fun p hp => ?_⟩
      obtain ⟨kb, BB⟩ := same3 (same_alloc (o := .lst xs) hp)
      refine k _ _ (.lst p xs 1 upd_same (B3.fresh hp) (by omega) fun x hx => atom x hx) (fun c zs h q => ?_) (k3.trans kb) BB
      cases h
      cases e : H p with
      | none => rfl
      | some o =>
        rw [k3 _ _ (B3.fresh hp) e] at hp; cases hp
    refine ⟨_, rfl, rfl, _, rfl, ite2 (fun c3 => ?_) (fun c3 => ?_)⟩
    · refine ⟨_, rfl, d, xs, rfl, .inr (SqT.of hd3), fun p hp => ?_⟩
      have s4 : Same H3 (upd H3 p (.lst xs)) := same_alloc hp
      have ep : upd H3 p (.lst xs) p = some (.lst xs) := upd_same
      have npH : H3 p = none := hp
      generalize upd H3 p (.lst xs) = H4 at s4 ep ⊢
      dsimp only [gName, List.set_cons_succ, List.set_cons_zero]
      have xi : xs[i]? = some xs[i] := List.getElem?_eq_getElem hi
      have xj : xs[j]? = some xs[j] := List.getElem?_eq_getElem hj
      have mi := List.getElem_mem hi
      have mj := List.getElem_mem hj
      generalize xs[i] = y1 at xi mi
      generalize xs[j] = y2 at xj mj
      refine ⟨_, rfl, _, rfl, p, xs, (j : Int), y2, rfl, rfl, SqL.of ep, atI_nat xj, _, rfl, _, rfl, p, xs, (i : Int), y1, rfl, rfl, SqL.of ep, atI_nat xi, two_line, fun t ht => ?_⟩
      have s5 : Same H4 (upd H4 t (.tup [y2, y1])) := same_alloc ht
      have et : upd H4 t (.tup [y2, y1]) t = some (.tup [y2, y1]) := upd_same
      generalize upd H4 t (.tup [y2, y1]) = H5 at s5 et ⊢
      refine ⟨t, [y2, y1], rfl, SqT.of et, rfl, ?_⟩
      refine ⟨_, _, rfl, _, rfl, _, rfl, p, xs, _, i, rfl, rfl, s5 _ _ ep, ixN_of hi, ?_⟩
      refine ⟨_, _, rfl, _, rfl, _, rfl, p, xs.set i y2, _, j, rfl, rfl, upd_same, ixN_of (by rw [List.length_set]; exact hj), rfl, ?_⟩
      rw [upd_upd]
      have e6 : upd H5 p (.lst ((xs.set i y2).set j y1)) p = some (.lst ((xs.set i y2).set j y1)) := upd_same
      have kb6 : KB b H3 (upd H5 p (.lst ((xs.set i y2).set j y1))) := fun c o _ e => by
        rw [upd_ne (fun z => by rw [z, npH] at e; cases e)]
        exact s5 _ _ (s4 _ _ e)
      have npb : p ≠ b := B3.fresh npH
      have B6 : Bx b (n + 5) (upd H5 p (.lst ((xs.set i y2).set j y1))) := ((same3 (s4.trans s5)).2).put npb
      generalize upd H5 p (.lst ((xs.set i y2).set j y1)) = H6 at e6 kb6 B6 ⊢
      refine ⟨_, rfl, p, _, rfl, .inl ⟨SqL.of e6, fun q hq => ?_⟩⟩
      refine tup (kb6.trans (KB.alloc hq)) (B6.alloc hq) upd_same (by rw [List.length_set, List.length_set]; omega) fun y hy => ?_
      rcases List.mem_or_eq_of_mem_set hy with hy | rfl
      · rcases List.mem_or_eq_of_mem_set hy with hy | rfl
        · exact atom y hy
        · exact atom _ mj
      · exact atom _ mi
    refine ⟨_, rfl, rfl, _, rfl, ite2 (fun c4 => ?_) (fun c4 => ?_)⟩
    · refine ⟨rfl, fun L H4 hL s4 eL => ?_⟩
      have nLb : L ≠ b := B3.fresh hL
      have B4 : Bx b (n + 3) H4 := B3.same (by obtain ⟨x, y, z, h1, _⟩ := B3; rw [h1]; exact s4 _ _ h1)
      refine ⟨_, rfl, b, 14, n + 3, rfl, B4, by omega, by decide, by decide, fun m H5 m0 m1 off5 B5 => ?_⟩
      obtain ⟨m, rfl⟩ := Int.eq_ofNat_of_zero_le m0
      obtain ⟨g, ft, ej, et, lt, es⟩ := forms_sgj m (by omega)
      have hg := List.mem_of_getElem? ej
      obtain ⟨gr, egr⟩ := forms_head g hg
      have hd5 : H5 d = some (.tup xs) := by rw [off5 d ndb]; exact s4 _ _ hd3
      refine ⟨L, _, m, _, rfl, rfl, SqL.of (by rw [off5 L nLb]; exact eL), atI_nat et, ⟨_, rfl⟩, _, _, rfl, rfl, rfl, Nat.le_trans (Nat.add_le_add_right lt 2) (by decide), fun W hW => ?_⟩
      rw [es]
      have s6 : Same H5 (upd H5 W (.lst ((g.2.2.map Fw.sg).map V.str))) := same_alloc hW
      have eW : upd H5 W (.lst ((g.2.2.map Fw.sg).map V.str)) W = some (.lst ((g.2.2.map Fw.sg).map V.str)) := upd_same
      generalize upd H5 W (.lst ((g.2.2.map Fw.sg).map V.str)) = H6 at s6 eW ⊢
      refine ⟨W, _, 0, .str (Str.ofString g.1), rfl, rfl, SqL.of eW, by rw [egr]; exact atI_nat (j := 0) rfl, by show 1 ≤ sizeLine; decide, fun p1 q1 => ?_⟩
      have s7 : Same H6 (upd H6 p1 (.tup [.str (Str.ofString g.1)])) := same_alloc q1
      have e7 : upd H6 p1 (.tup [.str (Str.ofString g.1)]) p1 = some (.tup [.str (Str.ofString g.1)]) := upd_same
      generalize upd H6 p1 (.tup [.str (Str.ofString g.1)]) = H7 at s7 e7 ⊢
      refine tsl_from (i := 1) rfl (fun _ _ h => h) (s7 _ _ (s6 _ _ hd5)) fun p2 H8 s8 e8 => ?_
      refine catA_of (s8 _ _ e7) e8 (by rw [List.length_drop]; show 1 + _ ≤ sizeLine; exact small_line (by omega)) fun p3 H9 s9 e9 => ?_
      have sA := s6.trans (s7.trans (s8.trans s9))
      have kb : KB b H3 H9 := fun c o nc e => sA _ _ ((KB.off off5) c o nc (s4 _ _ e))
      refine tup kb ((B5.same (by obtain ⟨x, y, z, h1, _⟩ := B5; rw [h1]; exact sA _ _ h1)).mono (by omega)) e9 (by rw [List.length_append, List.length_drop]; show 1 + _ ≤ 8; omega) fun y hy => ?_
      rcases List.mem_append.mp hy with hy | hy
      · rw [List.mem_singleton.mp hy]
        exact .str _ (good_of _) (names_short g hg) 1
      · exact atom y (List.mem_of_mem_drop hy)
    refine ⟨_, rfl, rfl, _, rfl, ite2 (fun c5 => ?_) (fun c5 => ?_)⟩
    · refine ⟨_, rfl, b, n + 3, rfl, B3, by omega, by omega, fun o H4 ow fo kb BB => ?_⟩
      refine k _ _ (ow.mono (Nat.le_refl 8) (by decide)) (fun c ys e _ => ?_) (k3.trans kb) (BB.mono (by omega))
      have := fo c e
      cases e2 : H c with
      | none => rfl
      | some u => rw [k3 _ _ (B3.fresh this) e2] at this; cases this
    refine ⟨_, rfl, rfl, _, rfl, ite2 (fun c6 => ?_) (fun c6 => ?_)⟩
    · exact ⟨_, rfl, tup (KB.refl b H3) (B3.mono (by omega)) hd3 (by omega) atom⟩
    · exact odd_ins (i := i + 1) rfl rfl rfl lo1 B3 (by omega) (by omega) hd3 dl7 fun p H4 o ow kb BB e => ins (Nat.le_succ i) ow kb BB e
end
end F4

set_option maxRecDepth 100000
set_option maxHeartbeats 3200000
namespace F4
open PySem PySem.Spec PyProof.Rows L2 GxR Gd TL My
/-! ### texts of small code points, and broken rows -/
def Asc (z : Str) : Prop := ∀ c ∈ tl z, c < 128
theorem Asc.good {z : Str} (h : Asc z) : Good z := fun c hc => Nat.lt_trans (h c hc) (by decide)
theorem asc_app {x y : Str} (h : Asc x) (g : Asc y) : Asc (x ++ y) := fun c hc => by
  have e : tl (x ++ y) = tl x ++ tl y := by
    show (x.cps ++ y.cps).toList = _
    rw [Array.toList_append]
  rw [e] at hc
  rcases List.mem_append.mp hc with hc | hc
  · exact h c hc
  · exact g c hc
theorem asc_cut {z : Str} (h : Asc z) (lo hi : Option Int) : Asc (cutS z lo hi) := fun c hc => by
  have hc : c ∈ ((z.cps.toList.drop (HT.sIx z.length 0 lo)).take (HT.sIx z.length z.length hi - HT.sIx z.length 0 lo)).toArray.toList := hc
  exact h c (List.mem_of_mem_drop (List.mem_of_mem_take (by simpa using hc)))
theorem asc_up {z : Str} (h : Asc z) : Asc (Txt.upper z) ∧ (Txt.upper z).length = z.length := by
  rw [PyProof.Rows.upper_ascii h]
  refine ⟨fun c hc => ?_, ?_⟩
  · have hc' : c ∈ (z.cps.map PyProof.Rows.up1).toList := hc
    rw [Array.toList_map] at hc'
    obtain ⟨d, hd, rfl⟩ := List.mem_map.mp hc'
    have := h d hd
    unfold PyProof.Rows.up1
    split <;> omega
  · show (z.cps.map PyProof.Rows.up1).size = z.cps.size
    rw [Array.size_map]
theorem asc_joinL {S : List Nat} (hS : ∀ c ∈ S, c < 128) : ∀ ps : List (List Nat), (∀ p ∈ ps, ∀ c ∈ p, c < 128) → ∀ c ∈ joinL S ps, c < 128
  | [], _, c, hc => by cases hc
  | [p], h, c, hc => h p (List.mem_singleton.mpr rfl) c hc
  | p :: q :: r, h, c, hc => by
    have e : joinL S (p :: q :: r) = p ++ (S ++ joinL S (q :: r)) := rfl
    rw [e] at hc
    rcases List.mem_append.mp hc with hc | hc
    · exact h p (List.mem_cons_self ..) c hc
    rcases List.mem_append.mp hc with hc | hc
    · exact hS c hc
    · exact asc_joinL hS (q :: r) (fun z hz => h z (List.mem_cons_of_mem _ hz)) c hc
theorem asc_join {y : Str} {ps : List Str} (hy : Asc y) (h : ∀ z ∈ ps, Asc z) : Asc (Txt.join y ps) := fun c hc => by
  have e : tl (Txt.join y ps) = joinL (tl y) (ps.map tl) := by rw [join_eq]; exact tl_join y ps
  rw [e] at hc
  exact asc_joinL hy _ (fun p hp c hc => by obtain ⟨z, hz, rfl⟩ := List.mem_map.mp hp; exact h z hz c hc) c hc
theorem asc_split {x y p : Str} (w : Asc x) (h : p ∈ PySem.Txt.split x y) : Asc p := fun c hc => w c (split_mem h hc)
theorem asc_all {l : List Str} (h : (l.all fun z => (tl z).all fun c => decide (c < 128)) = true) : ∀ z ∈ l, Asc z := fun z hz c hc => of_decide_eq_true (List.all_eq_true.mp (List.all_eq_true.mp h z hz) c hc)
theorem asc_num (n : Nat) : Asc (Str.ofString (toString ((n : Nat) : Int))) := fun c hc => by
  rw [tl_num] at hc
  have := numL_digits n c hc
  omega
theorem asc_name {z : Str} (h : NameOk z) : Asc z := fun c hc => by
  have := List.all_eq_true.mp h.2.2 c hc
  unfold lc at this
  simp at this
  omega
theorem asc_lits : ∀ z ∈ lits, Asc z := asc_all (by decide +kernel)
theorem asc_things : ∀ z ∈ things, Asc z := asc_all (by decide +kernel)
theorem asc_kinds : ∀ z ∈ kinds, Asc z := asc_all (by decide +kernel)
theorem asc_pa {x : So} {p : Pa} (h : x.ok p) : Asc p.t := by
  cases x <;> cases p <;> try exact False.elim h
  · exact asc_name h
  · rename_i i
    have h : 0 ≤ i ∧ i ≤ 999999 := h
    obtain ⟨n, rfl⟩ := Int.eq_ofNat_of_zero_le h.1
    exact asc_num n
  · exact asc_things _ h
  · exact asc_kinds _ h
theorem asc_row {f : List Fw} {ps : List Pa} (h : Fit f ps) (hl : ∀ x ∈ f, InF x) : ∀ z ∈ row f ps, Asc z := by
  induction h with
  | nil => intro z hz; cases hz
  | @lit z f ps _ ih =>
    intro y hy
    rcases List.mem_cons.mp hy with rfl | hy
    · exact asc_lits _ (hl _ (List.mem_cons_self ..))
    · exact ih (fun x hx => hl x (List.mem_cons_of_mem _ hx)) y hy
  | @so x p f ps hp _ ih =>
    intro y hy
    rcases List.mem_cons.mp hy with rfl | hy
    · exact asc_pa hp
    · exact ih (fun x hx => hl x (List.mem_cons_of_mem _ hx)) y hy
theorem rowT_asc {fm : String × String × List Fw} {ps : List Pa} (hfm : fm ∈ forms) (fit : Fit fm.2.2 ps) : Asc (rowT fm ps) :=
  asc_join (asc_all (l := [Str.ofString " "]) (by decide +kernel) _ (List.mem_singleton.mpr rfl)) (asc_row fit (forms_in fm hfm))
theorem asc_at {l : List Str} (h : (l.all fun z => (tl z).all fun c => decide (c < 128)) = true) {i : Int} {v : V} (hv : v ∈ l.map V.str) : ∃ u, v = .str u ∧ u ∈ l ∧ Asc u := by
  obtain ⟨u, hu, rfl⟩ := List.mem_map.mp hv
  exact ⟨u, rfl, hu, asc_all h u hu⟩
section
variable {P : Program} {w : World} {K : PySem.W.Frag} {mg : Str → Option Value} {base : Heap}
abbrev rAddT : V → V → Hp → VK → Prop := fun x y H Q => ∃ i j, x = .str i ∧ y = .str j ∧ i.length + j.length ≤ sizeLine ∧ Q (.str (i ++ j)) H
/-- a text with something put between two pieces -/
theorem mid3 {σ : L2.St} {H : Hp} {C : VK} {z : Str} {j : Int} {mid lo : TE} {G : Hp → Prop} (h1 : σ[1]? = some (some (.str z))) (h3 : σ[3]? = some (some (.int j))) (az : Asc z) (lz : z.length ≤ 60)
    (hm : ∀ D : VK, (∀ y H', Asc y → y.length ≤ 60 → G H' → D (.str y) H') → mid σ H D) (hlo : ∀ H D, (∀ i : Int, D (.int i) H) → lo σ H D)
    (k : ∀ y H', Asc y → y.length ≤ 180 → G H' → C (.str y) H') :
    tOp rAddT (tOp rAddT (tSl rSlS (tVar 1) tNoPart (tPart (tVar 3))) mid) (tSl rSlS (tVar 1) (tPart lo) tNoPart) σ H C := by
  have c1 : ∀ a b, (cutS z a b).length ≤ 60 := fun a b => Nat.le_trans (cutS_length z a b) lz
  refine ⟨_, h1, _, h3, _, rfl, z, rfl, small_line (by omega), hm _ fun y H1 ay ly g => ⟨_, _, rfl, rfl, small_line (by have := c1 none (some j); omega), ?_⟩⟩
  refine ⟨_, h1, hlo _ _ fun i => ⟨_, rfl, z, rfl, small_line (by omega), _, _, rfl, rfl, ?_, ?_⟩⟩
  · have := c1 none (some j); have := c1 (some i) none
    refine small_line ?_
    rw [Str.length_append]
    omega
  · refine k _ _ (asc_app (asc_app (asc_cut az _ _) ay) (asc_cut az _ _)) ?_ g
    have := c1 none (some j); have := c1 (some i) none
    rw [Str.length_append, Str.length_append]
    omega
theorem pickS {b : Addr} {n N : Int} {S : Str} {σ : L2.St} {H : Hp} {D : VK} (h0 : σ[0]? = some (some (.ref b))) (B : Bx b n H) (n0 : 0 ≤ n) (n1 : n ≤ 99990) (hS : Asc S) (hN : (S.length : Int) = N) (N1 : 0 < N) (N9 : N ≤ 9000)
    (k : ∀ y H', Asc y → y.length ≤ 60 → (KB b H H' ∧ Bx b (n + 1) H') → D (.str y) H') : tOp rIxS (tC (.str S)) (tCall spTake [] E0 (tCons (tVar 0) (tCons (tC (.int N)) tNil))) σ H D := by
  refine ⟨_, h0, b, N, n, rfl, B, by omega, N1, dec9000 N1 (by omega), fun m H1 m0 m1 off B1 => ?_⟩
  obtain ⟨c, hc, e⟩ := atI_ex (xs := S.cps.toList) m0 (by rw [show S.cps.toList.length = S.length by simp [Str.length]]; omega)
  have lS : S.length ≤ 9000 := by omega
  refine ⟨_, m, c, rfl, rfl, small_line (by omega), e, k _ _ (fun d hd => ?_) (by show 1 ≤ 60; decide) ⟨KB.off off, B1⟩⟩
  have hd : d ∈ [c] := hd
  rw [List.mem_singleton.mp hd]
  exact hS c hc
theorem pickL {b : Addr} {n N : Int} {l : List Str} {σ : L2.St} {H : Hp} {D : VK} {ta : TA} (hta : ∀ (G : List V → Hp → Prop), G (l.map V.str) H → ta σ H G) (h0 : σ[0]? = some (some (.ref b))) (B : Bx b n H) (n0 : 0 ≤ n) (n1 : n ≤ 99990) (hl : (l.all fun z => (tl z).all fun c => decide (c < 128)) = true) (hz : ∀ z ∈ l, z.length ≤ 60) (hN : (l.length : Int) = N) (N1 : 0 < N) (N9 : N ≤ 9000)
    (k : ∀ y H', Asc y → y.length ≤ 60 → (KB b H H' ∧ Bx b (n + 1) H') → D (.str y) H') : tOp (rIxL K) (tLst ta) (tCall spTake [] E0 (tCons (tVar 0) (tCons (tC (.int N)) tNil))) σ H D := by
  refine hta _ ?_
  have ll : (l.map V.str).length = l.length := List.length_map ..
  have l9 : l.length ≤ 9000 := by omega
  refine ⟨small_line (by omega), fun L hL => ?_⟩
  have nLb : L ≠ b := B.fresh hL
  refine ⟨_, h0, b, N, n, rfl, B.alloc hL, by omega, N1, dec9000 N1 (by omega), fun m H1 m0 m1 off B1 => ?_⟩
  obtain ⟨v, hv, e⟩ := atI_ex (xs := l.map V.str) m0 (by omega)
  obtain ⟨u, hu, rfl⟩ := List.mem_map.mp hv
  exact ⟨L, _, m, _, rfl, rfl, SqL.of (by rw [off L nLb]; exact upd_same), e, k _ _ (asc_all hl u hu) (hz u hu) ⟨(KB.alloc hL).trans (KB.off off), B1⟩⟩
abbrev s_law_bad_word : Stmt := top 45
theorem sc_law_bad_word : FnScope ["_law_box_here", "_law_word", "_law_way", "_law_at"] ["_law_box_here", "_law_word"] (defScope s_law_bad_word) := ⟨rfl, rfl, rfl, by decide +kernel, rfl, by decide +kernel, by decide +kernel⟩
def spBadWord : Sp := fun vs H Q _ => ∃ (b : Addr) (n : Int) (z : Str), vs = [.ref b, .str z] ∧ Bx b n H ∧ 0 ≤ n ∧ n ≤ 90000 ∧ Asc z ∧ z.length ≤ 60 ∧ ∀ y H', Asc y → y.length ≤ 180 → KB b H H' → Bx b (n + 3) H' → Q (.str y) H'
theorem ok_law_bad_word {f fT : Addr} {fd fdT : FuncData} (F : Fun K "_law_bad_word" "_law_bad_word" s_law_bad_word f fd) (T : Txt mg)
    (Nlaw_take : Fn K mg "_law_take" sTake ["_law_box_here", "_law_many"] fT fdT) (Glaw_take : FnOk P w K mg base CX0 1 fT fdT ["_law_box_here", "_law_many"] spTake) :
    FnOk P w K mg base CX0 2 f fd ["_law_box_here", "_law_word"] spBadWord := by
  refine F.ok sc_law_bad_word (fun vs H Q E h => ?_) (fun cdv A outer s H vs Q E hr h => ?_)
  · obtain ⟨b, n, z, rfl, _⟩ := h
    rfl
  · obtain ⟨b, n, z, rfl, hB, n0, n1, az, lz, k⟩ := h
    refine ⟨_, pss_cons (ps_set (i := 2) sc_law_bad_word.nd rfl (Or.inl rfl) (pe_call Glaw_take (hr.mono (by decide)) (by rfl) Nlaw_take.g Nlaw_take.kp Nlaw_take.b .nil pass0 (pa_cons (pv 0) (pa_cons pe_int pa_nil))))
      (pss_cons (ps_set (i := 3) sc_law_bad_word.nd rfl (Or.inl rfl) (pe_call Glaw_take (hr.mono (by decide)) (by rfl) Nlaw_take.g Nlaw_take.kp Nlaw_take.b .nil pass0 (pa_cons (pv 0) (pa_cons (pe_callB (call_max2 rfl) (by rfl) T.max_ (by decide +kernel) (pa_cons pe_int (pa_cons (pe_callB call_len_str (by rfl) T.len_ PySem.boot_len (pa_cons (pv 1) pa_nil)) pa_nil))) pa_nil))))
      (pss_cons (ps_if (pt_cmpR op_eq (pv 2) pe_int (nomark _)) (pss_one (ps_ret (pe_op op_add_str pe_str (pv 1)))) pss_nil)
      (pss_cons (ps_if (pt_cmpR op_eq (pv 2) pe_int (nomark _)) (pss_one (ps_ret (pe_op op_add_str (pe_op op_add_str (pe_slice sl_str (pv 1) po_none (po_some (pv 3))) (pe_upper (pe_slice sl_str (pv 1) (po_some (pv 3)) (po_some (pe_op op_add (pv 3) pe_int))))) (pe_slice sl_str (pv 1) (po_some (pe_op op_add (pv 3) pe_int)) po_none)))) pss_nil)
      (pss_cons (ps_if (pt_cmpR op_eq (pv 2) pe_int (nomark _)) (pss_one (ps_ret (pe_op op_add_str (pe_op op_add_str (pe_slice sl_str (pv 1) po_none (po_some (pv 3))) (pe_ix ix_str pe_str (pe_call Glaw_take (hr.mono (by decide)) (by rfl) Nlaw_take.g Nlaw_take.kp Nlaw_take.b .nil pass0 (pa_cons (pv 0) (pa_cons pe_int pa_nil))) (fun _ _ => rfl))) (pe_slice sl_str (pv 1) (po_some (pe_op op_add (pv 3) pe_int)) po_none)))) pss_nil)
      (pss_cons (ps_if (pt_cmpR op_eq (pv 2) pe_int (nomark _)) (pss_one (ps_ret (pe_op op_add_str (pe_op op_add_str (pe_slice sl_str (pv 1) po_none (po_some (pv 3))) (pe_ix ix_str pe_str (pe_call Glaw_take (hr.mono (by decide)) (by rfl) Nlaw_take.g Nlaw_take.kp Nlaw_take.b .nil pass0 (pa_cons (pv 0) (pa_cons pe_int pa_nil))) (fun _ _ => rfl))) (pe_slice sl_str (pv 1) (po_some (pv 3)) po_none)))) pss_nil)
      (pss_cons (ps_if (pt_cmpR op_eq (pv 2) pe_int (nomark _)) (pss_one (ps_ret (pe_ix ix_list (pe_lst (pa_cons pe_str (pa_cons pe_str (pa_cons pe_str (pa_cons pe_str (pa_cons pe_str (pa_cons pe_str (pa_cons pe_str (pa_cons pe_str (pa_cons pe_str (pa_cons pe_str (pa_cons pe_str pa_nil)))))))))))) (pe_call Glaw_take (hr.mono (by decide)) (by rfl) Nlaw_take.g Nlaw_take.kp Nlaw_take.b .nil pass0 (pa_cons (pv 0) (pa_cons pe_int pa_nil))) (fun _ _ => rfl)))) pss_nil)
      (pss_one (ps_ret (pe_op op_add_str (pe_op op_add_str (pe_slice sl_str (pv 1) po_none (po_some (pv 3))) (pe_ix ix_list (pe_lst (pa_cons pe_str (pa_cons pe_str (pa_cons pe_str (pa_cons pe_str pa_nil))))) (pe_call Glaw_take (hr.mono (by decide)) (by rfl) Nlaw_take.g Nlaw_take.kp Nlaw_take.b .nil pass0 (pa_cons (pv 0) (pa_cons pe_int pa_nil))) (fun _ _ => rfl))) (pe_slice sl_str (pv 1) (po_some (pv 3)) po_none)))))))))), ?_⟩
    generalize hσ : L2.start _ _ = σ0
    obtain rfl : σ0 = [some (.ref b), some (.str z), none, none] := hσ.symm.trans rfl
    refine ⟨_, rfl, b, 6, n, rfl, hB, by omega, by decide, by decide, fun way H1 w0 w1 off1 B1 => ?_⟩
    simp only [List.set_cons_succ, List.set_cons_zero]
    refine ⟨_, rfl, _, rfl, _, rfl, small_line (by omega), _, _, rfl, b, _, n + 1, rfl, B1, by omega, ?_, ?_, fun at_ H2 a0 a1 off2 B2 => ?_⟩
    · split <;> omega
    · refine dec9000 ?_ ?_
      · split <;> omega
      · split <;> omega
    have k2 := (KB.off off1).trans (KB.off off2)
    clear off1 off2 B1 a0 a1
    simp only [List.set_cons_succ, List.set_cons_zero]
    have B2 : Bx b (n + 2) H2 := B2.mono (by omega)
    have fin : ∀ y H', Asc y → y.length ≤ 180 → (KB b H2 H' ∧ Bx b (n + 2 + 1) H') → Q (.str y) H' := fun y H' ay ly g => k y H' ay ly (k2.trans g.1) (g.2.mono (by omega))
    refine ⟨_, rfl, rfl, _, rfl, ite2 (fun c0 => ?_) (fun c0 => ?_)⟩
    · refine ⟨_, rfl, _, _, rfl, rfl, small_line (by rw [show (Str.ofString "0").length = 1 by decide +kernel]; omega), ?_⟩
      refine fin _ _ (asc_app (asc_all (l := [Str.ofString "0"]) (by decide +kernel) _ (List.mem_singleton.mpr rfl)) az) ?_ ⟨KB.refl b _, B2.mono (by omega)⟩
      rw [Str.length_append, show (Str.ofString "0").length = 1 by decide +kernel]; omega
    have lo1 : ∀ (H : Hp) (D : VK), (∀ i : Int, D (.int i) H) → tOp (rI0 fun i j => V.int (i + j)) (tVar 3) (tC (V.int 1)) [some (.ref b), some (.str z), some (.int way), some (.int at_)] H D := fun H D h => ⟨_, rfl, _, _, rfl, rfl, h _⟩
    have lo0 : ∀ (H : Hp) (D : VK), (∀ i : Int, D (.int i) H) → tVar 3 [some (.ref b), some (.str z), some (.int way), some (.int at_)] H D := fun H D h => ⟨_, rfl, h _⟩
    refine ⟨_, rfl, rfl, _, rfl, ite2 (fun c1 => ?_) (fun c1 => ?_)⟩
    · refine mid3 (G := fun H' => KB b H2 H' ∧ Bx b (n + 2 + 1) H') rfl rfl az lz (fun D hD => ?_) lo1 fin
      refine ⟨_, rfl, _, rfl, _, rfl, _, rfl, _, _, rfl, rfl, _, rfl, z, rfl, small_line (by omega), ⟨_, rfl⟩, _, rfl, rfl, ?_⟩
      have c1 := cutS_length z (some at_) (some (at_ + 1))
      obtain ⟨h1, h2⟩ := asc_up (asc_cut az (some at_) (some (at_ + 1)))
      exact ⟨by omega, hD _ _ h1 (by omega) ⟨KB.refl b _, B2.mono (by omega)⟩⟩
    refine ⟨_, rfl, rfl, _, rfl, ite2 (fun c2 => ?_) (fun c2 => ?_)⟩
    · exact mid3 (G := fun H' => KB b H2 H' ∧ Bx b (n + 2 + 1) H') rfl rfl az lz (fun D hD => pickS rfl B2 (by omega) (by omega) (asc_all (l := [Str.ofString "abcdefghijklmnopqrstuvwxyz"]) (by decide +kernel) _ (List.mem_singleton.mpr rfl)) (by decide +kernel) (by decide) (by decide) hD) lo1 fin
    refine ⟨_, rfl, rfl, _, rfl, ite2 (fun c3 => ?_) (fun c3 => ?_)⟩
    · exact mid3 (G := fun H' => KB b H2 H' ∧ Bx b (n + 2 + 1) H') rfl rfl az lz (fun D hD => pickS rfl B2 (by omega) (by omega) (asc_all (l := [Str.ofString "0123456789"]) (by decide +kernel) _ (List.mem_singleton.mpr rfl)) (by decide +kernel) (by decide) (by decide) hD) lo0 fin
    refine ⟨_, rfl, rfl, _, rfl, ite2 (fun c4 => ?_) (fun c4 => ?_)⟩
    · exact pickL (l := ["", "-1", "+", "staff", "to", "from", "1000000", "0", "open", "_", "."].map Str.ofString) (fun G h => h) rfl B2 (by omega) (by omega) (by decide +kernel) (by decide +kernel) (by decide) (by decide) (by decide) fun y H' ay ly g => fin y H' ay (by omega) g
    · exact mid3 (G := fun H' => KB b H2 H' ∧ Bx b (n + 2 + 1) H') rfl rfl az lz (fun D hD => pickL (l := [" ", "\n", "-", "="].map Str.ofString) (fun G h => h) rfl B2 (by omega) (by omega) (by decide +kernel) (by decide +kernel) (by decide) (by decide) (by decide) hD) lo0 fin
end
end F4

set_option maxRecDepth 100000
set_option maxHeartbeats 3200000
namespace F4
open PySem PySem.Spec PyProof.Rows L2 GxR Gd TL My
theorem sum_le {M : Nat} : ∀ {l : List Str}, (∀ y ∈ l, y.length ≤ M) → (l.map (·.length)).sum ≤ l.length * M
  | [], _ => by simp
  | x :: r, h => by
    rw [List.map_cons, List.sum_cons, List.length_cons, Nat.add_mul]
    have := sum_le (l := r) fun y hy => h y (List.mem_cons_of_mem _ hy)
    have := h x (List.mem_cons_self ..)
    omega
theorem lsl_to {K : PySem.W.Frag} {σ : L2.St} {H : Hp} {C : VK} {W : Addr} {xs : List V} {j : Nat} (h2 : σ[2]? = some (some (.ref W))) (h4 : σ[4]? = some (some (.int (j : Int)))) (eW : H W = some (.lst xs))
    (k : ∀ p H', Same H H' → H' p = some (.lst (xs.take j)) → C (.ref p) H') : tSl (rSlL K) (tVar 2) tNoPart (tPart (tVar 4)) σ H C := by
  refine ⟨_, h2, _, h4, _, rfl, W, xs, rfl, SqL.of eW, fun p hp => ?_⟩
  rw [cut_to]
  exact k p _ (same_alloc hp) upd_same
theorem lsl_from {K : PySem.W.Frag} {σ : L2.St} {H : Hp} {C : VK} {W : Addr} {xs : List V} {i : Nat} {lo : TE} (h2 : σ[2]? = some (some (.ref W))) (hlo : ∀ (H : Hp) (G : VK), G (.int (i : Int)) H → lo σ H G) (eW : H W = some (.lst xs))
    (k : ∀ p H', Same H H' → H' p = some (.lst (xs.drop i)) → C (.ref p) H') : tSl (rSlL K) (tVar 2) (tPart lo) tNoPart σ H C := by
  refine ⟨_, h2, hlo _ _ ⟨_, rfl, W, xs, rfl, SqL.of eW, fun p hp => ?_⟩⟩
  rw [cut_from]
  exact k p _ (same_alloc hp) upd_same
section
variable {P : Program} {w : World} {K : PySem.W.Frag} {mg : Str → Option Value} {base : Heap}
abbrev s_law_bad_row : Stmt := top 46
theorem sc_law_bad_row : FnScope ["_law_box_here", "_law_row", "_law_words", "_law_way", "_law_at", "_law_other"] ["_law_box_here", "_law_row"] (defScope s_law_bad_row) := ⟨rfl, rfl, rfl, by decide +kernel, rfl, by decide +kernel, by decide +kernel⟩
def spBadRow : Sp := fun vs H Q _ => ∃ (b : Addr) (n : Int) (z : Str), vs = [.ref b, .str z] ∧ Bx b n H ∧ 0 ≤ n ∧ n ≤ 80000 ∧ Asc z ∧ z.length ≤ 60 ∧ ∀ y H', Asc y → y.length ≤ 20000 → KB b H H' → Bx b (n + 6) H' → Q (.str y) H'
theorem ok_law_bad_row {f fT f1 : Addr} {fd fdT fd1 : FuncData} (F : Fun K "_law_bad_row" "_law_bad_row" s_law_bad_row f fd) (T : Txt mg)
    (Nlaw_take : Fn K mg "_law_take" sTake ["_law_box_here", "_law_many"] fT fdT) (Glaw_take : FnOk P w K mg base CX0 1 fT fdT ["_law_box_here", "_law_many"] spTake)
    (Nlaw_bad_word : Fn K mg "_law_bad_word" s_law_bad_word ["_law_box_here", "_law_word"] f1 fd1) (Glaw_bad_word : FnOk P w K mg base CX0 2 f1 fd1 ["_law_box_here", "_law_word"] spBadWord) :
    FnOk P w K mg base CX0 3 f fd ["_law_box_here", "_law_row"] spBadRow := by
  refine F.ok sc_law_bad_row (fun vs H Q E h => ?_) (fun cdv A outer s H vs Q E hr h => ?_)
  · obtain ⟨b, n, z, rfl, _⟩ := h
    rfl
  · obtain ⟨b, n, z, rfl, hB, n0, n1, az, lz, k⟩ := h
    refine ⟨_, pss_cons (ps_set (i := 2) sc_law_bad_row.nd rfl (Or.inl rfl) (pe_split (pv 1) pe_str))
      (pss_cons (ps_set (i := 3) sc_law_bad_row.nd rfl (Or.inl rfl) (pe_call Glaw_take (hr.mono (by decide)) (by rfl) Nlaw_take.g Nlaw_take.kp Nlaw_take.b .nil pass0 (pa_cons (pv 0) (pa_cons pe_int pa_nil))))
      (pss_cons (ps_set (i := 4) sc_law_bad_row.nd rfl (Or.inl rfl) (pe_call Glaw_take (hr.mono (by decide)) (by rfl) Nlaw_take.g Nlaw_take.kp Nlaw_take.b .nil pass0 (pa_cons (pv 0) (pa_cons (pe_callB call_len_seq (by rfl) T.len_ PySem.boot_len (pa_cons (pv 2) pa_nil)) pa_nil))))
      (pss_cons (ps_set (i := 5) sc_law_bad_row.nd rfl (Or.inl rfl) (pe_call Glaw_take (hr.mono (by decide)) (by rfl) Nlaw_take.g Nlaw_take.kp Nlaw_take.b .nil pass0 (pa_cons (pv 0) (pa_cons (pe_callB call_len_seq (by rfl) T.len_ PySem.boot_len (pa_cons (pv 2) pa_nil)) pa_nil))))
      (pss_cons (ps_if (pt_cmpR op_eq (pv 3) pe_int (nomark _)) (pss_one (ps_set (i := 2) sc_law_bad_row.nd rfl (Or.inl rfl) (pe_op op_cat (pe_slice sl_list (pv 2) po_none (po_some (pv 4))) (pe_slice sl_list (pv 2) (po_some (pe_op op_add (pv 4) pe_int)) po_none)))) (pss_one (ps_if (pt_cmpR op_eq (pv 3) pe_int (nomark _)) (pss_one (ps_set (i := 2) sc_law_bad_row.nd rfl (Or.inl rfl) (pe_op op_cat (pe_op op_cat (pe_slice sl_list (pv 2) po_none (po_some (pv 4))) (pe_lst (pa_cons (pe_ix ix_list (pv 2) (pv 4) (fun _ _ => rfl)) pa_nil))) (pe_slice sl_list (pv 2) (po_some (pv 4)) po_none)))) (pss_one (ps_if (pt_cmpR op_eq (pv 3) pe_int (nomark _)) (pss_one (ps_asg (pe_tup (pa_cons (pe_ix ix_list (pv 2) (pv 5) (fun _ _ => rfl)) (pa_cons (pe_ix ix_list (pv 2) (pv 4) (fun _ _ => rfl)) pa_nil))) (pg_tup (by rfl) (pgs_cons (pg_sub (pv 2) (pv 4) set_list) (pgs_cons (pg_sub (pv 2) (pv 5) set_list) pgs_nil))))) (pss_one (ps_if (pt_cmpR op_lt (pv 3) pe_int (nomark _)) (pss_one (ps_asg (pe_call Glaw_bad_word (hr.mono (by decide)) (by rfl) Nlaw_bad_word.g Nlaw_bad_word.kp Nlaw_bad_word.b .nil pass0 (pa_cons (pv 0) (pa_cons (pe_ix ix_list (pv 2) (pv 4) (fun _ _ => rfl)) pa_nil))) (pg_sub (pv 2) (pv 4) set_list))) pss_nil)))))))
      (pss_one (ps_ret (pe_join pe_str (pv 2)))))))), ?_⟩
    generalize hσ : L2.start _ _ = σ0
    obtain rfl : σ0 = [some (.ref b), some (.str z), none, none, none, none] := hσ.symm.trans rfl
    have wz : WOk z := ⟨by omega, az.good⟩
    have lw : (wordsOf z).length ≤ 62 := by
      have := PyProof.Rows.split_le z (Str.ofString " ")
      show (Txt.split z (Str.ofString " ")).length ≤ _
      omega
    have pw : 0 < (wordsOf z).length := PyProof.Rows.split_pos z (Str.ofString " ")
    have aw : ∀ y ∈ wordsOf z, Asc y ∧ y.length ≤ 60 := fun y hy => ⟨asc_split az hy, Nat.le_trans (PyProof.Rows.part_short hy) lz⟩
    refine ⟨_, rfl, ⟨_, rfl⟩, _, _, rfl, rfl, rfl, small_line (by omega), fun W hW => ?_⟩
    rw [show Txt.split z (Str.ofString " ") = wordsOf z from rfl]
    generalize wordsOf z = ws at lw pw aw
    have nWb : W ≠ b := hB.fresh hW
    have k1 : KB b H (upd H W (.lst (ws.map V.str))) := KB.alloc hW
    have B1 := hB.alloc (o := .lst (ws.map V.str)) hW
    have eW : (upd H W (.lst (ws.map V.str))) W = some (.lst (ws.map V.str)) := upd_same
    generalize upd H W (.lst (ws.map V.str)) = H1 at k1 B1 eW ⊢
    simp only [List.set_cons_succ, List.set_cons_zero]
    refine ⟨_, rfl, b, 6, n, rfl, B1, by omega, by decide, by decide, fun way H2 w0 w1 off2 B2 => ?_⟩
    have eW2 : H2 W = some (.lst (ws.map V.str)) := by rw [off2 W nWb]; exact eW
    simp only [List.set_cons_succ, List.set_cons_zero]
    have ll : (ws.map V.str).length = ws.length := List.length_map ..
    refine ⟨_, rfl, _, rfl, W, _, rfl, .inl (SqL.of eW2), b, _, n + 1, rfl, B2, by omega, by omega, dec9000 (by omega) (by omega), fun at_ H3 a0 a1 off3 B3 => ?_⟩
    have eW3 : H3 W = some (.lst (ws.map V.str)) := by rw [off3 W nWb]; exact eW2
    simp only [List.set_cons_succ, List.set_cons_zero]
    refine ⟨_, rfl, _, rfl, W, _, rfl, .inl (SqL.of eW3), b, _, n + 1 + 1, rfl, B3, by omega, by omega, dec9000 (by omega) (by omega), fun ot H4 o0 o1 off4 B4 => ?_⟩
    have eW4 : H4 W = some (.lst (ws.map V.str)) := by rw [off4 W nWb]; exact eW3
    simp only [List.set_cons_succ, List.set_cons_zero]
    have k4 := k1.trans ((KB.off off2).trans ((KB.off off3).trans (KB.off off4)))
    obtain ⟨i, rfl⟩ := Int.eq_ofNat_of_zero_le a0
    obtain ⟨j, rfl⟩ := Int.eq_ofNat_of_zero_le o0
    have hi : i < ws.length := by omega
    have hj : j < ws.length := by omega
    clear eW eW2 eW3 off2 off3 off4 B1 B2 B3 a0 o0 a1 o1 k1
    have B4 : Bx b (n + 3) H4 := B4.mono (by omega)
    -- the words, joined
    have fin : ∀ {H' : Hp} {p : Addr} {ys : List Str}, H' p = some (.lst (ys.map V.str)) → (∀ y ∈ ys, Asc y ∧ y.length ≤ 180) → ys.length ≤ 64 → KB b H H' → Bx b (n + 6) H' → ∃ a p' ys', V.str (Str.ofString " ") = V.str a ∧ [V.ref p] = [V.ref p'] ∧ (SqL K H' p' (ys'.map V.str) ∨ SqT K H' p' (ys'.map V.str)) ∧ (ys'.map (·.length)).sum + ys'.length * a.length ≤ 16777216 ∧ Q (V.str (Txt.join a ys')) H' := by
      intro H' p ys ep ay cy kb BB
      have s1 := sum_le fun y hy => (ay y hy).2
      have s2 : ys.length * 180 ≤ 64 * 180 := Nat.mul_le_mul_right _ cy
      refine ⟨_, p, ys, rfl, rfl, .inl (SqL.of ep), ?_, ?_⟩
      · rw [show (Str.ofString " ").length = 1 by decide +kernel]; omega
      · have jl := My.join_len (Str.ofString " ") ys
        rw [show (Str.ofString " ").length = 1 by decide +kernel] at jl
        exact k _ _ (asc_join (asc_all (l := [Str.ofString " "]) (by decide +kernel) _ (List.mem_singleton.mpr rfl)) fun y hy => (ay y hy).1) (by omega) kb BB
    have same4 : ∀ {H' : Hp}, Same H4 H' → KB b H4 H' ∧ Bx b (n + 6) H' := fun {H'} s => ⟨fun c o _ e => s c o e, (B4.same (by obtain ⟨x, y, z, h1, _⟩ := B4; rw [h1]; exact s _ _ h1)).mono (by omega)⟩
    have mt : ∀ j, (ws.map V.str).take j = (ws.take j).map V.str := fun j => (List.map_take ..).symm
    have md : ∀ j, (ws.map V.str).drop j = (ws.drop j).map V.str := fun j => (List.map_drop ..).symm
    have wi : ws[i]? = some ws[i] := List.getElem?_eq_getElem hi
    have wj : ws[j]? = some ws[j] := List.getElem?_eq_getElem hj
    have ai := aw _ (List.getElem_mem hi)
    have aj := aw _ (List.getElem_mem hj)
    generalize ws[i] = y1 at wi ai
    generalize ws[j] = y2 at wj aj
    have vi : (ws.map V.str)[i]? = some (.str y1) := by rw [List.getElem?_map, wi]; rfl
    have vj : (ws.map V.str)[j]? = some (.str y2) := by rw [List.getElem?_map, wj]; rfl
    have wide : ∀ y ∈ ws, Asc y ∧ y.length ≤ 180 := fun y hy => ⟨(aw y hy).1, Nat.le_trans (aw y hy).2 (by decide)⟩
    have kw : ∀ {H' : Hp} {xs : List V}, KB b H H' → KB b H (upd H' W (.lst xs)) := fun {H' xs} kb c o nc e => by
      rw [upd_ne (fun q => by rw [q, hW] at e; cases e)]
      exact kb c o nc e
    dsimp only [gName, List.set_cons_succ, List.set_cons_zero]
    refine ⟨_, rfl, rfl, _, rfl, ite2 (fun c0 => ?_) (fun c0 => ?_)⟩
    · refine lsl_to rfl rfl eW4 fun p1 H5 s5 e1 => lsl_from (i := i + 1) rfl (fun _ G h => ⟨_, rfl, _, _, rfl, rfl, by show G (.int ((i : Int) + 1)) _; rw [show (i : Int) + 1 = ((i + 1 : Nat) : Int) by omega]; exact h⟩) (s5 _ _ eW4) fun p2 H6 s6 e2 => ?_
      refine ⟨p1, p2, _, _, rfl, rfl, s6 _ _ e1, e2, ?_, fun p3 q3 => ?_⟩
      · rw [List.length_take, List.length_drop]
        exact small_line (by omega)
      obtain ⟨kb, BB⟩ := same4 (s5.trans (s6.trans (same_alloc (o := .lst ((ws.map V.str).take i ++ (ws.map V.str).drop (i + 1))) q3)))
      refine ⟨⟨_, rfl⟩, _, rfl, fin (ys := ws.take i ++ ws.drop (i + 1)) (by rw [List.map_append, ← mt, ← md]; exact upd_same) (fun y hy => ?_) ?_ (k4.trans kb) BB⟩
      · rcases List.mem_append.mp hy with hy | hy
        · exact wide y (List.mem_of_mem_take hy)
        · exact wide y (List.mem_of_mem_drop hy)
      · rw [List.length_append, List.length_take, List.length_drop]; omega
    refine ⟨_, rfl, rfl, _, rfl, ite2 (fun c1 => ?_) (fun c1 => ?_)⟩
    · refine lsl_to rfl rfl eW4 fun p1 H5 s5 e1 => ?_
      refine ⟨_, rfl, _, rfl, W, _, (i : Int), .str y1, rfl, rfl, SqL.of (s5 _ _ eW4), atI_nat vi, by show 1 ≤ sizeLine; decide, fun p2 q2 => ?_⟩
      have s6 : Same H5 (upd H5 p2 (.lst [.str y1])) := same_alloc q2
      have e2 : upd H5 p2 (.lst [.str y1]) p2 = some (.lst [.str y1]) := upd_same
      generalize upd H5 p2 (.lst [.str y1]) = H6 at s6 e2 ⊢
      refine ⟨p1, p2, _, _, rfl, rfl, s6 _ _ e1, e2, ?_, fun p3 q3 => ?_⟩
      · rw [List.length_take]
        show _ + 1 ≤ sizeLine
        exact small_line (by omega)
      have s7 : Same H6 (upd H6 p3 (.lst ((ws.map V.str).take i ++ [.str y1]))) := same_alloc q3
      have e3 : upd H6 p3 (.lst ((ws.map V.str).take i ++ [.str y1])) p3 = some (.lst ((ws.map V.str).take i ++ [.str y1])) := upd_same
      generalize upd H6 p3 (.lst ((ws.map V.str).take i ++ [.str y1])) = H7 at s7 e3 ⊢
      refine lsl_from (i := i) rfl (fun _ G h => ⟨_, rfl, h⟩) (s7 _ _ (s6 _ _ (s5 _ _ eW4))) fun p4 H8 s8 e4 => ?_
      refine ⟨p3, p4, _, _, rfl, rfl, s8 _ _ e3, e4, ?_, fun p5 q5 => ?_⟩
      · rw [List.length_append, List.length_take, List.length_drop]
        show _ + 1 + _ ≤ sizeLine
        exact small_line (by omega)
      obtain ⟨kb, BB⟩ := same4 (s5.trans (s6.trans (s7.trans (s8.trans (same_alloc (o := .lst ((ws.map V.str).take i ++ [.str y1] ++ (ws.map V.str).drop i)) q5)))))
      refine ⟨⟨_, rfl⟩, _, rfl, fin (ys := ws.take i ++ [y1] ++ ws.drop i) (by rw [List.map_append, List.map_append, ← mt, ← md]; exact upd_same) (fun y hy => ?_) ?_ (k4.trans kb) BB⟩
      · simp only [List.mem_append, List.mem_singleton] at hy
        rcases hy with (hy | rfl) | hy
        · exact wide y (List.mem_of_mem_take hy)
        · exact ⟨ai.1, Nat.le_trans ai.2 (by decide)⟩
        · exact wide y (List.mem_of_mem_drop hy)
      · rw [List.length_append, List.length_append, List.length_take, List.length_drop]; show _ + 1 + _ ≤ 64; omega
    refine ⟨_, rfl, rfl, _, rfl, ite2 (fun c2 => ?_) (fun c2 => ?_)⟩
    · refine ⟨_, rfl, _, rfl, W, _, (j : Int), .str y2, rfl, rfl, SqL.of eW4, atI_nat vj, _, rfl, _, rfl, W, _, (i : Int), .str y1, rfl, rfl, SqL.of eW4, atI_nat vi, two_line, fun t ht => ?_⟩
      have s5 : Same H4 (upd H4 t (.tup [.str y2, .str y1])) := same_alloc ht
      have et : upd H4 t (.tup [.str y2, .str y1]) t = some (.tup [.str y2, .str y1]) := upd_same
      generalize upd H4 t (.tup [.str y2, .str y1]) = H5 at s5 et ⊢
      refine ⟨t, [.str y2, .str y1], rfl, SqT.of et, rfl, ?_⟩
      refine ⟨_, _, rfl, _, rfl, _, rfl, W, _, _, i, rfl, rfl, s5 _ _ eW4, ixN_of (by omega), ?_⟩
      refine ⟨_, _, rfl, _, rfl, _, rfl, W, _, _, j, rfl, rfl, upd_same, ixN_of (by rw [List.length_set]; omega), rfl, ?_⟩
      rw [upd_upd]
      obtain ⟨kb, BB⟩ := same4 s5
      refine ⟨⟨_, rfl⟩, _, rfl, fin (ys := (ws.set i y2).set j y1) (by rw [List.map_set, List.map_set]; exact upd_same) (fun y hy => ?_) (by rw [List.length_set, List.length_set]; omega) (kw (k4.trans kb)) (BB.put nWb)⟩
      rcases List.mem_or_eq_of_mem_set hy with hy | rfl
      · rcases List.mem_or_eq_of_mem_set hy with hy | rfl
        · exact wide y hy
        · exact ⟨aj.1, Nat.le_trans aj.2 (by decide)⟩
      · exact ⟨ai.1, Nat.le_trans ai.2 (by decide)⟩
    refine ⟨_, rfl, _, _, rfl, rfl, _, rfl, ite2 (fun c3 => ?_) (fun c3 => ?_)⟩
    · refine ⟨_, rfl, _, rfl, _, rfl, W, _, (i : Int), .str y1, rfl, rfl, SqL.of eW4, atI_nat vi, b, n + 3, y1, rfl, B4, by omega, by omega, ai.1, ai.2, fun y H5 ay ly kb B5 => ?_⟩
      have eW5 : H5 W = some (.lst (ws.map V.str)) := kb W _ nWb eW4
      refine ⟨_, rfl, _, rfl, W, _, _, i, rfl, rfl, eW5, ixN_of (by omega), ?_⟩
      refine ⟨⟨_, rfl⟩, _, rfl, fin (ys := ws.set i y) (by rw [List.map_set]; exact upd_same) (fun x hx => ?_) (by rw [List.length_set]; omega) (kw (k4.trans kb)) ((B5.mono (by omega)).put nWb)⟩
      rcases List.mem_or_eq_of_mem_set hx with hx | rfl
      · exact wide x hx
      · exact ⟨ay, ly⟩
    · exact ⟨⟨_, rfl⟩, _, rfl, fin eW4 wide (by omega) k4 (B4.mono (by omega))⟩
end
end F4

set_option maxRecDepth 100000
set_option maxHeartbeats 800000
namespace My
open PySem PySem.Spec PyProof.Rows L2 GxR Gd TL
/-! ### such things, told apart from a list that grows -/
mutual
theorem dq_nt {K : PySem.W.Frag} {H H' : Hp} (e : Nt H H') : ∀ {v : V} {d : PyData}, Dq K H v d → Dq K H' v d
  | _, _, .non => .non
  | _, _, .bl b => .bl b
  | _, _, .int i => .int i
  | _, _, .str z => .str z
  | _, _, .lst q h => .lst (e.seq q) (dqAll_nt e h)
  | _, _, .tup q h => .tup (e.seqT q) (dqAll_nt e h)
  | _, _, .dic q h => .dic (e _ _ (by simp) q) (dqKv_nt e h)
theorem dqAll_nt {K : PySem.W.Frag} {H H' : Hp} (e : Nt H H') : ∀ {vs : List V} {ds : List PyData}, DqAll K H vs ds → DqAll K H' vs ds
  | _, _, .nil => .nil
  | _, _, .cons h t => .cons (dq_nt e h) (dqAll_nt e t)
theorem dqKv_nt {K : PySem.W.Frag} {H H' : Hp} (e : Nt H H') : ∀ {vs : List (Key × V)} {ds : List (PyData × PyData)}, DqKv K H vs ds → DqKv K H' vs ds
  | _, _, .nil => .nil
  | _, _, .cons h t => .cons (dq_nt e h) (dqKv_nt e t)
end
theorem Wf.imp {N M : Addr → Prop} {H : Hp} {m : Nat} (hi : ∀ a, N a → M a) : ∀ {k : Nat} {v : V}, Wf N H m k v → Wf M H m k v
  | _, _, .non k => .non k
  | _, _, .bl b k => .bl b k
  | _, _, .int i h k => .int i h k
  | _, _, .str z g l k => .str z g l k
  | _, _, .dic a e k => .dic a e k
  | _, _, .lst a xs k e n l h => .lst a xs k e (hi a n) l fun x hx => (h x hx).imp hi
  | _, _, .tup a xs k e l h => .tup a xs k e l fun x hx => (h x hx).imp hi
theorem Kw.upd {N : Addr → Prop} {H : Hp} {D : Addr} {zs ws : List V} (h : H D = some (.lst zs)) (n : ¬ N D) : Kw N H (upd H D (.lst ws)) :=
  ⟨fun c xs m e => by rw [upd_ne (fun z => n (by rw [← z]; exact m))]; exact e, fun c xs e => by rw [upd_ne (ne_of e h (by simp))]; exact e, fun c xs e => by rw [upd_ne (ne_of e h (by simp))]; exact e⟩
theorem Wf.apart {N : Addr → Prop} {H : Hp} {m k0 : Nat} {a : Addr} (no : ∀ j, j < k0 → ¬ Wf N H m j (.ref a)) {k : Nat} {v : V} (hk : k < k0) (h : Wf N H m k v) : Wf (fun c => N c ∧ c ≠ a) H m k v := by
  induction h with
  | non k => exact .non k
  | bl b k => exact .bl b k
  | int i h k => exact .int i h k
  | str z g l k => exact .str z g l k
  | dic c e k => exact .dic c e k
  | lst c xs k e n l q ih => exact .lst c xs k e ⟨n, fun z => no _ hk (by rw [← z]; exact .lst c xs k e n l q)⟩ l fun x hx => ih x hx (by omega)
  | tup c xs k e l q ih => exact .tup c xs k e l fun x hx => ih x hx (by omega)
/-- a list with one thing more -/
theorem Wf.more {N : Addr → Prop} {H : Hp} {m k : Nat} {a : Addr} {xs : List V} {z : Str} (h : Wf N H m k (.ref a)) (ha : H a = some (.lst xs)) (g : Good z) (l : z.length ≤ 50) : Wf N (upd H a (.lst (xs ++ [.str z]))) (m + 1) k (.ref a) := by
  have low : ∃ j, j ≤ k ∧ Wf N H m j (.ref a) ∧ ∀ i, i < j → ¬ Wf N H m i (.ref a) := by
    clear l g
    induction k using Nat.strongRecOn with
    | ind k ih =>
      by_cases q : ∃ i, i < k ∧ Wf N H m i (.ref a)
      · obtain ⟨i, hi, w⟩ := q
        obtain ⟨j, h1, h2, h3⟩ := ih i hi w
        exact ⟨j, by omega, h2, h3⟩
      · exact ⟨k, Nat.le_refl _, h, fun i hi w => q ⟨i, hi, w⟩⟩
  obtain ⟨j, hj, w, no⟩ := low
  refine Wf.mono (Nat.le_refl _) hj ?_
  cases w with
  | dic c e k => rw [ha] at e; cases e
  | tup c ys k e l q => rw [ha] at e; cases e
  | lst c ys j' e n l' q =>
    rw [ha] at e
    cases e
    refine .lst a _ j' upd_same n (by rw [List.length_append, List.length_singleton]; omega) fun x hx => ?_
    rcases List.mem_append.mp hx with hx | hx
    · exact (((q x hx).apart no (by omega)).keep (Kw.upd ha fun z => z.2 rfl)).imp (fun c z => z.1) |>.mono (by omega) (Nat.le_refl _)
    · rw [List.mem_singleton.mp hx]
      exact .str z g l _
end My

set_option maxRecDepth 100000
set_option maxHeartbeats 1000000
/-! repr in the suite of a clause. -/
namespace My
open PySem PySem.Spec PyProof.Rows L2 GxR Gd TL
theorem call_reprH {X : Cx} (gd : X.A.guards = some []) (hun : X.A.units + 200 < cLine) : CallR X (.builtin "repr") (rRepr X.K) := by
  intro pins s σ H xs us Q I r h
  obtain ⟨v, d, rfl, dp, hs, hdep, hsz, q⟩ := h
  cases r with
  | cons rv rn =>
    cases rn
    cases dp with
    | non =>
      cases rv
      refine PySem.P.repr_of_none ⟨.str _, H, I.tok _, ⟨_, rfl⟩, ?_⟩
      simpa only [PyData.shown] using q
    | bl b =>
      cases rv
      refine PySem.P.repr_of_bool ⟨.str _, H, I.tok _, ⟨_, rfl⟩, ?_⟩
      simpa only [PyData.shown] using q
    | int i =>
      obtain ⟨t, rfl⟩ := rv
      refine PySem.P.repr_of_int (by simpa [PyData.showable] using hs) ⟨.str _, H, I.tok _, ⟨_, rfl⟩, ?_⟩
      simpa only [PyData.shown] using q
    | str z =>
      obtain ⟨t, rfl⟩ := rv
      refine PySem.P.repr_of_str ⟨.str _, H, I.tok _, ⟨_, rfl⟩, ?_⟩ (by simpa only [PyData.shown] using hsz)
      simpa only [PyData.shown] using q
    | lst hl ha =>
      cases rv
      obtain ⟨as, rd⟩ := Dp.reads I _ _ _ (.lst hl ha) rfl
      refine repr_of_reads' rd hs (PyData.noDict_hsm (dp_noDict (.lst hl ha))) gd (by omega) (fun _ _ z => z) (fun h' u tk hk => ?_) hsz
      exact ⟨.str _, H, I.kept hk, ⟨_, rfl⟩, q⟩
    | tup hl ha =>
      cases rv
      obtain ⟨as, rd⟩ := Dp.reads I _ _ _ (.tup hl ha) rfl
      refine repr_of_reads' rd hs (PyData.noDict_hsm (dp_noDict (.tup hl ha))) gd (by omega) (fun _ _ z => z) (fun h' u tk hk => ?_) hsz
      exact ⟨.str _, H, I.kept hk, ⟨_, rfl⟩, q⟩
theorem call_reprQH {X : Cx} (n : X.K.lookup sysModules = none) (gd : X.A.guards = some []) (hun : X.A.units + 200 < cLine) : CallR X (.builtin "repr") (rReprQ X.K) := by
  rintro pins s σ H xs us Q I r ⟨v, d, rfl, sm, dq, hs, hdep, hsz, q⟩
  have whole : ∀ {a : Addr} {as : List Addr}, Reads s.heap (.ref a) d as → sysModules ∉ as → wpAny (model X.prog X.w) X.A (call (.builtin "repr") [.ref a]) (EP X pins σ Q) X.xe s := by
    intro a as rd no
    exact repr_of_reads' rd hs (fun _ => no) gd (by omega) (fun _ _ z => z) (fun h' u tk hk => ⟨.str _, H, I.kept hk, ⟨_, rfl⟩, q⟩) hsz
  cases dq with
  | non => exact call_reprH gd hun pins s σ H _ us Q I r ⟨_, _, rfl, .non, hs, hdep, hsz, q⟩
  | bl b => exact call_reprH gd hun pins s σ H _ us Q I r ⟨_, _, rfl, .bl b, hs, hdep, hsz, q⟩
  | int i => exact call_reprH gd hun pins s σ H _ us Q I r ⟨_, _, rfl, .int i, hs, hdep, hsz, q⟩
  | str z => exact call_reprH gd hun pins s σ H _ us Q I r ⟨_, _, rfl, .str z, hs, hdep, hsz, q⟩
  | lst e h =>
    obtain ⟨as, rd, no⟩ := Dq.reads n sm I _ _ us.head! (.lst e h) (by cases r with | cons a b => cases b; exact a)
    cases r with
    | cons a b => cases b; cases a; exact whole rd no
  | tup e h =>
    obtain ⟨as, rd, no⟩ := Dq.reads n sm I _ _ us.head! (.tup e h) (by cases r with | cons a b => cases b; exact a)
    cases r with
    | cons a b => cases b; cases a; exact whole rd no
  | dic e h =>
    obtain ⟨as, rd, no⟩ := Dq.reads n sm I _ _ us.head! (.dic e h) (by cases r with | cons a b => cases b; exact a)
    cases r with
    | cons a b => cases b; cases a; exact whole rd no
theorem call_reprK {X : Cx} {K : PySem.W.Frag} (e : X.K = K) (n : K.lookup sysModules = none) (gd : X.A.guards = some []) (hun : X.A.units + 200 < cLine) : CallR X (.builtin "repr") (rReprQ K) := by
  subst e
  exact call_reprQH n gd hun
theorem isiK {X : Cx} {K : PySem.W.Frag} (h : X.K = K) : CallR X (.builtin "isinstance") (rIsi K) := h ▸ call_isi
end My

set_option maxRecDepth 100000
set_option maxHeartbeats 400000
/-! Shw: what data shows is short. -/
namespace My
open PySem PySem.Spec PyProof.Rows L2 GxR Gd TL
structure Shw (d : PyData) (k m : Nat) : Prop where
  sh : d.showable = true
  dep : d.depth ≤ k
  len : d.shown.length ≤ m
theorem Shw.mono {d : PyData} {k m k' m' : Nat} (h : Shw d k m) (hk : k ≤ k') (hm : m ≤ m') : Shw d k' m' := ⟨h.sh, Nat.le_trans h.dep hk, Nat.le_trans h.len hm⟩
theorem shw_str {z : Str} {n : Nat} (g : Good z) (h : z.length ≤ n) : Shw (.str z) 0 (10 * n + 2) := by
  refine ⟨rfl, Nat.le_refl 0, ?_⟩
  have e := StrLaws.reprText_len z fun c hc => Nat.lt_trans (g c hc) (by decide)
  show (reprText z).length ≤ _
  omega
theorem shw_int {i : Int} {k : Nat} (hk : 0 < k) (h9 : k ≤ 30) (h : i.natAbs < 10 ^ k) : Shw (.int i) 0 (k + 1) := by
  have h31 : i.natAbs < 10 ^ 31 := Nat.lt_of_lt_of_le h (Nat.pow_le_pow_right (by decide) (by omega))
  refine ⟨(sb_int h31).sh, Nat.le_refl 0, ?_⟩
  show (Str.ofString (toString i)).length ≤ _
  rw [PySem.ofString_length]
  exact int_text_length_le10 hk h
theorem shw_all {k m : Nat} : ∀ {ds : List PyData}, (∀ d ∈ ds, Shw d k m) → PyData.showableAll ds = true ∧ PyData.depthAll ds ≤ k ∧ ((PyData.shownAll ds).map (·.length)).sum ≤ ds.length * m ∧ (PyData.shownAll ds).length = ds.length
  | [], _ => ⟨rfl, Nat.zero_le _, Nat.zero_le _, rfl⟩
  | d :: r, h => by
    obtain ⟨a1, a2, a3, a4⟩ := shw_all (ds := r) fun x hx => h x (List.mem_cons_of_mem _ hx)
    have b := h d List.mem_cons_self
    refine ⟨?_, ?_, ?_, ?_⟩
    · unfold PyData.showableAll; rw [b.sh, a1]; rfl
    · unfold PyData.depthAll; exact Nat.max_le.mpr ⟨b.dep, a2⟩
    · unfold PyData.shownAll
      have := b.len
      rw [List.length_cons, Nat.succ_mul, List.map_cons, List.sum_cons]
      omega
    · unfold PyData.shownAll
      rw [List.length_cons, List.length_cons, a4]
theorem shw_list {k m : Nat} {ds : List PyData} (h : ∀ d ∈ ds, Shw d k m) : Shw (.list ds) (k + 1) (ds.length * (m + 2) + 3) := by
  obtain ⟨a1, a2, a3, a4⟩ := shw_all h
  refine ⟨by unfold PyData.showable; exact a1, by unfold PyData.depth; omega, ?_⟩
  have e := listText_len_le (PyData.shownAll ds)
  show (listText (PyData.shownAll ds)).length ≤ _
  rw [a4] at e
  rw [Nat.mul_add]
  omega
theorem shw_tuple {k m : Nat} {ds : List PyData} (h : ∀ d ∈ ds, Shw d k m) : Shw (.tuple ds) (k + 1) (ds.length * (m + 2) + 3) := by
  obtain ⟨a1, a2, a3, a4⟩ := shw_all h
  refine ⟨by unfold PyData.showable; exact a1, by unfold PyData.depth; omega, ?_⟩
  have e := tupleText_len_le (PyData.shownAll ds)
  show (tupleText (PyData.shownAll ds)).length ≤ _
  rw [a4] at e
  rw [Nat.mul_add]
  omega
/-- a pair of unlike things -/
theorem shw_pair {k m n : Nat} {a b : PyData} (ha : Shw a k m) (hb : Shw b k n) : Shw (.tuple [a, b]) (k + 1) (m + n + 7) := by
  refine ⟨?_, ?_, ?_⟩
  · unfold PyData.showable PyData.showableAll PyData.showableAll PyData.showableAll; rw [ha.sh, hb.sh]; rfl
  · unfold PyData.depth PyData.depthAll PyData.depthAll PyData.depthAll
    have := ha.dep
    have := hb.dep
    omega
  · have e := tupleText_len_le (PyData.shownAll [a, b])
    show (tupleText (PyData.shownAll [a, b])).length ≤ _
    have e1 : PyData.shownAll [a, b] = [a.shown, b.shown] := by unfold PyData.shownAll PyData.shownAll PyData.shownAll; rfl
    rw [e1] at e ⊢
    simp only [List.map_cons, List.map_nil, List.sum_cons, List.sum_nil, List.length_cons, List.length_nil] at e
    have := ha.len
    have := hb.len
    omega

end My

set_option maxRecDepth 100000
set_option maxHeartbeats 3200000
namespace F4
open PySem PySem.Spec PyProof.Rows L2 GxR Gd TL My
/-! ### deeds as data -/
def ddD (d : Dd) : PyData := .tuple (.str (Str.ofString d.1.1) :: d.2.map Pa.d)
theorem pas_dp {K : PySem.W.Frag} {H : Hp} : ∀ ps : List Pa, DpAll K H (ps.map Pa.v) (ps.map Pa.d)
  | [] => .nil
  | .s z :: r => .cons (.str z) (pas_dp r)
  | .n i :: r => .cons (.int i) (pas_dp r)
theorem dd_dp {K : PySem.W.Frag} {H : Hp} {c : Addr} {d : Dd} (h : H c = some (.tup (dvD d))) : Dp K H (.ref c) (ddD d) := .tup (SqT.of h) (.cons (.str _) (pas_dp d.2))
theorem pa_shw {x : So} {p : Pa} (h : x.ok p) : Shw p.d 0 72 := by
  have w := pa_wok h
  cases p with
  | n i =>
    have hi : 0 ≤ i ∧ i ≤ 999999 := by cases x <;> first | exact False.elim h | exact h
    exact (shw_int (k := 6) (by decide) (by decide) (by omega)).mono (Nat.le_refl 0) (by decide)
  | s z =>
    have g : Good z := by
      have t := pa_th (H := fun _ => none) h
      cases t with
      | str _ _ g => exact g
    exact shw_str g w.2.1
theorem fit_ok {f : List Fw} {ps : List Pa} (h : Fit f ps) : ∀ p ∈ ps, ∃ x : So, x.ok p := by
  induction h with
  | nil => intro p hp; cases hp
  | lit _ ih => exact ih
  | so hx _ ih =>
    intro p hp
    rcases List.mem_cons.mp hp with rfl | hp
    · exact ⟨_, hx⟩
    · exact ih p hp
theorem forms_word : ∀ f ∈ forms, (Str.ofString f.1).length ≤ 7 := by decide +kernel
theorem dd_shw {d : Dd} (h : okD d) : Shw (ddD d) 1 600 := by
  have l6 := forms_len d.1 h.1
  have e1 := fit_len h.2
  have e2 := sorts_le d.1.2.2
  have s := shw_tuple (k := 0) (m := 72) (ds := .str (Str.ofString d.1.1) :: d.2.map Pa.d) (fun x hd => by
    rcases List.mem_cons.mp hd with rfl | hd
    · exact shw_str (good_of _) (forms_word d.1 h.1)
    · obtain ⟨p, hp, rfl⟩ := List.mem_map.mp hd
      obtain ⟨y, hx⟩ := fit_ok h.2 p hp
      exact pa_shw hx)
  refine s.mono (Nat.le_refl 1) ?_
  rw [List.length_cons, List.length_map]
  omega
theorem shw_fin {d : PyData} {k m : Nat} (h : Shw d k m) (hk : k ≤ 100) (hm : m ≤ 16700000) : d.showable = true ∧ d.depth ≤ 100 ∧ d.shown.length ≤ sizeLine := ⟨h.sh, Nat.le_trans h.dep hk, Nat.le_trans h.len (Nat.le_trans hm (by rw [sizeLine_eq]; decide))⟩
/-- what a thing reads as -/
def readD : V → Option Dd
  | .str z => deedOf z
  | _ => none
theorem sm_nt {H H' : Hp} (h : SmAt H) (s : Nt H H') : SmAt H' := let ⟨o, e⟩ := h; ⟨o, s _ _ (by simp) e⟩
section
variable {P : Program} {w : World} {K : PySem.W.Frag} {mg : Str → Option Value} {base : Heap} {CS CT CN fS fT fN : Addr} {fdS fdT fdN : FuncData}
abbrev s_deed_in : Stmt := top 27
theorem sc_deed_in : FnScope ["text", "deed"] ["text"] (defScope s_deed_in) := ⟨rfl, rfl, rfl, by decide +kernel, rfl, by decide +kernel, by decide +kernel⟩
def spDeedIn (T : List Addr) (CT : Addr) : Sp := fun vs H Q E => ∃ (v : V), vs = [v] ∧ Th H v ∧ (∀ z, v = .str z → WOk z) ∧ Tabs T H ∧
  (readD v = none → ∀ H' e, KM T H H' → H' e = none → E (.ref CT) (some e) (upd H' e (.xd [("row", .int 0)]))) ∧
  (∀ d, readD v = some d → ∀ t H', H t = none → KM T H H' → H' t = some (.tup (dvD d)) → Q (.ref t) H')
theorem ok_deed_in {T0 : List Addr} {f f1 : Addr} {fd fd1 : FuncData} (F : Fun K "deed_in" "deed_in" s_deed_in f fd) (T : Txt mg) (ES : SeT K mg CS fS fdS sSE) (ENoText : ExR K mg "NoText" "NoText.__init__" sNoText CT fT fdT)
    (Ndeed_of_row : Fn K mg "deed_of_row" s_deed_of_row ["row"] f1 fd1) (Gdeed_of_row : FnOk P w K mg base CX0 8 f1 fd1 ["row"] (spDeedRow T0)) :
    FnOk P w K mg base (CX P w) 9 f fd ["text"] (spDeedIn T0 CT) := by
  refine F.okX sc_deed_in (fun vs H Q E h => ?_) (fun cdv A outer s H vs Q E hr h => ?_)
  · obtain ⟨v, rfl, _⟩ := h
    rfl
  · obtain ⟨v, rfl, th, wk, tb, kn, kd⟩ := h
    refine ⟨_, pss_cons (ps_set (i := 1) sc_deed_in.nd rfl (Or.inl rfl) (pe_ifExp (pt_val (pe_callB call_isi (by rfl) T.isinstance_ (by decide +kernel) (pa_cons (pv 0) (pa_cons (pe_bltn (v := .ty "str") (by rfl) T.str_ (by decide +kernel) rfl) pa_nil)))) (pe_call Gdeed_of_row (hr.mono (by decide)) (by rfl) Ndeed_of_row.g Ndeed_of_row.kp Ndeed_of_row.b .nil pass0 (pa_cons (pv 0) pa_nil)) pe_non))
      (pss_cons (ps_if (pt_cmpR op_isN (pv 1) pe_non (nomark _)) (pss_one (ps_raise rfl (takes_of rfl rfl rfl rfl) (pmk_oex ENoText.o ENoText.i ENoText.t (ok_NoText ES ENoText) (hr.mono (by decide)) ENoText.b .nil pass0 (by rfl) ENoText.g (pa_cons pe_int pa_nil)))) pss_nil)
      (pss_one (ps_ret (pv 1)))), ?_⟩
    have no : (∀ z, v ≠ .str z) → readD v = none := fun h => by
      cases v <;> first | rfl | exact absurd rfl (h _)
    have kv : (∀ z, v ≠ .str z) → ∀ e, H e = none → E (.ref CT) (some e) (upd H e (.xd [("row", .int 0)])) := fun h e he => kn (no h) H e (KM.refl tb) he
    cases th with
    | non => exact ⟨_, rfl, _, _, _, _, false, rfl, .ty "str", .base .non, (by rfl), _, rfl, iteF ⟨_, rfl, rfl, _, rfl, iteT (made_one fun e he => kv (fun z h => by cases h) e he)⟩⟩
    | bl b => exact ⟨_, rfl, _, _, _, _, false, rfl, .ty "str", .base (.bl b), (by rfl), _, rfl, iteF ⟨_, rfl, rfl, _, rfl, iteT (made_one fun e he => kv (fun z h => by cases h) e he)⟩⟩
    | int i => exact ⟨_, rfl, _, _, _, _, false, rfl, .ty "str", .base (.int i), (by rfl), _, rfl, iteF ⟨_, rfl, rfl, _, rfl, iteT (made_one fun e he => kv (fun z h => by cases h) e he)⟩⟩
    | lst a xs hx => exact ⟨_, rfl, _, _, _, _, false, rfl, .ty "str", .base (.lst hx), (by rfl), _, rfl, iteF ⟨_, rfl, rfl, _, rfl, iteT (made_one fun e he => kv (fun z h => by cases h) e he)⟩⟩
    | tup a xs hx => exact ⟨_, rfl, _, _, _, _, false, rfl, .ty "str", .base (.tup hx), (by rfl), _, rfl, iteF ⟨_, rfl, rfl, _, rfl, iteT (made_one fun e he => kv (fun z h => by cases h) e he)⟩⟩
    | dic a hx => exact ⟨_, rfl, _, _, _, _, false, rfl, .ty "str", .base (.dK hx), (by rfl), _, rfl, iteF ⟨_, rfl, rfl, _, rfl, iteT (made_one fun e he => kv (fun z h => by cases h) e he)⟩⟩
    | str z _ _ =>
      have wz := wk z rfl
      refine ⟨_, rfl, _, _, _, _, true, rfl, .ty "str", .base (.str z), (by rfl), _, rfl, iteT ⟨_, rfl, z, rfl, wz, tb, fun hn H1 km => ?_, fun d hd t H1 ht km et => ?_⟩⟩
      · exact ⟨_, rfl, rfl, _, rfl, iteT (made_one fun e he => kn hn H1 e km he)⟩
      · exact ⟨_, rfl, rfl, _, rfl, iteF ⟨_, rfl, kd d hd t H1 ht km et⟩⟩
/-- what _law_read_right says of a thing -/
abbrev s_law_read_right : Stmt := top 48
theorem sc_law_read_right : FnScope ["_law_row", "_law_due", "_law_told", "e"] ["_law_row"] (defScope s_law_read_right) := ⟨rfl, rfl, rfl, by decide +kernel, rfl, by decide +kernel, by decide +kernel⟩
def spReadRight (T : List Addr) : Sp := fun vs H Q _ => ∃ (v : V), vs = [v] ∧ Th H v ∧ (∀ z, v = .str z → WOk z) ∧ Tabs T H ∧ SmAt H ∧ ∀ H', KM T H H' → Q (.bl true) H'
theorem ok_law_read_right {T0 : List Addr} {f f1 f2 : Addr} {fd fd1 fd2 : FuncData} (ns : K.lookup sysModules = none) (F : Fun K "_law_read_right" "_law_read_right" s_law_read_right f fd) (T : Txt mg) (ES : SeT K mg CS fS fdS sSE) (ENoText : ExR K mg "NoText" "NoText.__init__" sNoText CT fT fdT)
    (Nlaw_deed_read : Fn K mg "_law_deed_read" s_law_deed_read ["_law_row"] f1 fd1) (Glaw_deed_read : FnOk P w K mg base CX0 4 f1 fd1 ["_law_row"] spLawRead)
    (Ndeed_in : Fn K mg "deed_in" s_deed_in ["text"] f2 fd2) (Gdeed_in : FnOk P w K mg base (CX P w) 9 f2 fd2 ["text"] (spDeedIn T0 CT)) :
    GOk P w K mg base CX0 10 f fd ["_law_row"] (spReadRight T0) := by
  refine gok F sc_law_read_right (fun vs H Q E h => ?_) (fun cdv A outer s H vs Q E gd hr h => ?_)
  · obtain ⟨v, rfl, _⟩ := h
    rfl
  · obtain ⟨v, rfl, th, wk, tb, sm, k⟩ := h
    have hU := Nat.lt_of_le_of_lt (Nat.add_le_add_right (Nat.le_add_right _ (16 * 9)) 200) hr.un
    refine ⟨_, pss_cons (ps_set (i := 1) sc_law_read_right.nd rfl (Or.inl rfl) (pe_ifExp (pt_val (pe_callB call_isi (by rfl) T.isinstance_ (by decide +kernel) (pa_cons (pv 0) (pa_cons (pe_bltn (v := .ty "str") (by rfl) T.str_ (by decide +kernel) rfl) pa_nil)))) (pe_call Glaw_deed_read (hr.mono (by decide)) (by rfl) Nlaw_deed_read.g Nlaw_deed_read.kp Nlaw_deed_read.b .nil pass0 (pa_cons (pv 0) pa_nil)) pe_non))
      (pss_cons (ps_set (i := 2) sc_law_read_right.nd rfl (Or.inl rfl) pe_non)
      (pss_cons (ps_try_cl rfl rfl sc_law_read_right.nd takes_never (.named (i := 3) (ts := fun a cls d => _) ⟨by rfl, by decide, .inl ENoText.g⟩ rfl (by rfl) (fun a oe cls d pn hz hf => (pss_one (ps_ret (pe_and (pe_cmpR op_isN (pv 1) pe_non (nomark _)) (pe_one (pe_cmpR op_eq (pe_callB (call_reprK (K := K) rfl ns gd hU) (by rfl) T.repr_ (by decide +kernel) (pa_cons (pe_xf ENoText.x ENoText.n hz hf (pv 3)) pa_nil)) pe_str (nomark _))))))) (.plain (ts := fun a cls d => _) ⟨by rfl, by decide, .inl ES.g⟩ (fun a oe cls d pn hz hf => (pss_one (ps_ret pe_bl))) .nil)) (fun W pn xe tk _ => (pss_one (ps_set (i := 2) sc_law_read_right.nd rfl (Or.inl rfl) (pe_callS Gdeed_in (hr.mono (by decide)) (by rfl) Ndeed_in.g Ndeed_in.kp Ndeed_in.b (fun σ => passAt tk σ) (pa_cons (pv 0) pa_nil))))))
      (pss_one (ps_ret (pe_and (pe_cmpR op_notN (pv 1) pe_non (nomark _)) (pe_one (pe_cmpR op_eq (pe_callB (call_reprK (K := K) rfl ns gd hU) (by rfl) T.repr_ (by decide +kernel) (pa_cons (pv 2) pa_nil)) (pe_callB (call_reprK (K := K) rfl ns gd hU) (by rfl) T.repr_ (by decide +kernel) (pa_cons (pv 1) pa_nil)) (nomark _)))))))), ?_⟩
    generalize hσ : L2.start _ _ = σ0
    obtain rfl : σ0 = [some v, none, none, none] := hσ.symm.trans rfl
    have nt := fun {H' : Hp} (km : KM T0 H H') => KM.nt tb km
    have s0 : (Str.ofString "0") = (PyData.int 0).shown := by decide +kernel
    have no : (∀ z, v ≠ .str z) → readD v = none := fun h => by
      cases v <;> first | rfl | exact absurd rfl (h _)
    have non : ∀ {H1 : Hp}, readD v = none → KM T0 H H1 → (∀ u1, u1 = V.non → tSeq (tAsg (tC V.non) (gName 2)) (tSeq (fun D σ H_1 => tAsg (tCallS (spDeedIn T0 CT) (WE (wCl K (fun x x_1 x_2 x_3 => False) D [(Value.ref CT, some 3, fun a cls d => tRet (tAndV (tOp (fun x y H Q => y = V.non ∧ Q (V.bl (decide (x = V.non))) H) (tVar 1) (tC V.non)) (tOp rEq (tCB (rReprQ K) (tCons (tXf a cls d CT (Str.ofString "row") (tVar 3)) tNil)) (tC (V.str (Str.ofString "0")))))), (Value.ref CS, none, fun a cls d => tRet (tC (V.bl false)))])) (tCons (tVar 0) tNil)) (gName 2) D σ H_1) (tRet (tAndV (tOp (fun x y H Q => y = V.non ∧ Q (V.bl !decide (x = V.non)) H) (tVar 1) (tC V.non)) (tOp rEq (tCB (rReprQ K) (tCons (tVar 2) tNil)) (tCB (rReprQ K) (tCons (tVar 1) tNil)))))) { nx := fun x H' => Q V.non H', rt := Q } [some v, some u1, none, none] H1) := by
      rintro H1 hn k1 _ rfl
      have th1 := th_nt (nt k1) th
      refine ⟨_, rfl, v, rfl, th1, wk, k1.tab, fun _ H2 e k2 he => ⟨true, ENoText.e, fun _ y hy => ?_, nofun⟩, fun d hd => absurd (hn.symm.trans hd) (by simp)⟩
      have k3 := k1.trans (k2.trans (KM.alloc (o := .xd [("row", .int 0)]) k2.tab he))
      have q := k _ k3
      refine ⟨_, rfl, rfl, _, rfl, ?_⟩
      rw [if_pos (decide_eq_true rfl)]
      refine ⟨_, rfl, rfl, rfl, e, _, _, rfl, upd_same, rfl, .int 0, .int 0, rfl, (sm_nt sm (nt k3)), .int 0, by decide +kernel, by decide +kernel, by decide +kernel, rfl, ?_⟩
      rw [s0, decide_eq_true rfl]
      exact q
    cases th with
    | non => exact ⟨_, rfl, _, _, _, _, false, rfl, .ty "str", .base .non, (by rfl), _, rfl, iteF (non (no fun z h => by cases h) (KM.refl tb) _ rfl)⟩
    | bl b => exact ⟨_, rfl, _, _, _, _, false, rfl, .ty "str", .base (.bl b), (by rfl), _, rfl, iteF (non (no fun z h => by cases h) (KM.refl tb) _ rfl)⟩
    | int i => exact ⟨_, rfl, _, _, _, _, false, rfl, .ty "str", .base (.int i), (by rfl), _, rfl, iteF (non (no fun z h => by cases h) (KM.refl tb) _ rfl)⟩
    | lst a xs hx => exact ⟨_, rfl, _, _, _, _, false, rfl, .ty "str", .base (.lst hx), (by rfl), _, rfl, iteF (non (no fun z h => by cases h) (KM.refl tb) _ rfl)⟩
    | tup a xs hx => exact ⟨_, rfl, _, _, _, _, false, rfl, .ty "str", .base (.tup hx), (by rfl), _, rfl, iteF (non (no fun z h => by cases h) (KM.refl tb) _ rfl)⟩
    | dic a hx => exact ⟨_, rfl, _, _, _, _, false, rfl, .ty "str", .base (.dK hx), (by rfl), _, rfl, iteF (non (no fun z h => by cases h) (KM.refl tb) _ rfl)⟩
    | str z l g =>
      have wz := wk z rfl
      refine ⟨_, rfl, _, _, _, _, true, rfl, .ty "str", .base (.str z), (by rfl), _, rfl, iteT ⟨_, rfl, z, rfl, wz, fun hn H1 s1 => non hn (KM.same tb s1) _ rfl, fun d hd t H1 ht s1 et => ?_⟩⟩
      have k1 := KM.same tb s1
      refine ⟨_, rfl, .str z, rfl, .str z l g, wk, k1.tab, fun hn => absurd (hn.symm.trans hd) (by simp), fun d2 hd2 t2 H2 ht2 k2 et2 => ?_⟩
      obtain rfl := Option.some.inj (hd.symm.trans hd2)
      have ok := deedOf_fit hd
      obtain ⟨m1, m2, m3⟩ := shw_fin (dd_shw ok) (by decide) (by decide)
      have k3 := k1.trans k2
      have q := k _ k3
      have et' := KM.nt k1.tab k2 _ _ (by simp) et
      refine ⟨_, rfl, rfl, _, rfl, ?_⟩
      rw [if_pos (by simp)]
      refine ⟨_, rfl, _, _, rfl, (sm_nt sm (nt k3)), Dq.of (dd_dp et2), m1, m2, m3, _, rfl, _, _, rfl, (sm_nt sm (nt k3)), Dq.of (dd_dp et'), m1, m2, m3, rfl, ?_⟩
      rw [decide_eq_true rfl]
      exact q
end
end F4

set_option maxRecDepth 100000
set_option maxHeartbeats 3200000
namespace F4
open PySem PySem.Spec PyProof.Rows L2 GxR Gd TL My
/-- H' is H with more, but for the tables and the list v is -/
structure KV (T : List Addr) (v : V) (H H' : Hp) : Prop where
  keep : ∀ c o, c ∉ T → (v ≠ .ref c ∨ ∀ ys, o ≠ .lst ys) → H c = some o → H' c = some o
  tab : Tabs T H'
theorem KV.km {T : List Addr} {v : V} {H H' : Hp} (k : KM T H H') : KV T v H H' := ⟨fun c o n _ h => k.keep c o n h, k.tab⟩
theorem none_of {N : Addr → Prop} {H : Hp} {m k : Nat} {v : V} (w : Wf N H m (k + 1) v) (no : ¬ ∃ fm ps, Deed H v fm ps) : None_ H v := by
  refine ⟨w.th, fun d xs e h => ⟨fun x hx => ?_, fun fm ps hf ft q => ?_⟩⟩
  · subst e
    exact ((w.tkid h).2 x hx).th
  · subst e q
    exact no ⟨fm, ps, hf, ft, d, rfl, h⟩
section
variable {P : Program} {w : World} {K : PySem.W.Frag} {mg : Str → Option Value} {base : Heap} {CS CT CN fS fT fN : Addr} {fdS fdT fdN : FuncData}
abbrev s_law_deed_right : Stmt := top 47
theorem sc_law_deed_right : FnScope ["_law_thing", "_law_due", "_law_kept", "_law_told", "e"] ["_law_thing"] (defScope s_law_deed_right) := ⟨rfl, rfl, rfl, by decide +kernel, rfl, by decide +kernel, by decide +kernel⟩
def spDeedRight (T : List Addr) : Sp := fun vs H Q _ => ∃ (v : V) (N : Addr → Prop), vs = [v] ∧ Wf N H 8 2 v ∧ Tabs T H ∧ SmAt H ∧ ∀ H', KV T v H H' → Q (.bl true) H'
theorem ok_law_deed_right {T0 : List Addr} {f f1 f2 : Addr} {fd fd1 fd2 : FuncData} (ns : K.lookup sysModules = none) (F : Fun K "_law_deed_right" "_law_deed_right" s_law_deed_right f fd) (T : Txt mg) (ES : SeT K mg CS fS fdS sSE) (ENoDeed : ExC K mg "NoDeed" "NoDeed.__init__" sNoDeed CN fN fdN)
    (Nlaw_row_due : Fn K mg "_law_row_due" s_law_row_due ["_law_deed_here"] f1 fd1) (Glaw_row_due : FnOk P w K mg base CX0 4 f1 fd1 ["_law_deed_here"] spDue)
    (Ndeed_text : Fn K mg "deed_text" s_deed_text ["deed"] f2 fd2) (Gdeed_text : FnOk P w K mg base (CX P w) 8 f2 fd2 ["deed"] (spDeedText T0 CN)) :
    GOk P w K mg base CX0 10 f fd ["_law_thing"] (spDeedRight T0) := by
  refine gok F sc_law_deed_right (fun vs H Q E h => ?_) (fun cdv A outer s H vs Q E gd hr h => ?_)
  · obtain ⟨v, N, rfl, _⟩ := h
    rfl
  · obtain ⟨v, N, rfl, wf, tb, sm, k⟩ := h
    have hU := Nat.lt_of_le_of_lt (Nat.add_le_add_right (Nat.le_add_right _ (16 * 9)) 200) hr.un
    refine ⟨_, pss_cons (ps_set (i := 1) sc_law_deed_right.nd rfl (Or.inl rfl) (pe_call Glaw_row_due (hr.mono (by decide)) (by rfl) Nlaw_row_due.g Nlaw_row_due.kp Nlaw_row_due.b .nil pass0 (pa_cons (pv 0) pa_nil)))
      (pss_cons (ps_set (i := 2) sc_law_deed_right.nd rfl (Or.inl rfl) (pe_callB (call_reprK (K := K) rfl ns gd hU) (by rfl) T.repr_ (by decide +kernel) (pa_cons (pv 0) pa_nil)))
      (pss_cons (ps_try_cl rfl rfl sc_law_deed_right.nd takes_never (.named (i := 4) (ts := fun a cls d => _) ⟨by rfl, by decide, .inl ENoDeed.g⟩ rfl (by rfl) (fun a oe cls d pn hz hf => (pss_cons (ps_if (pt_cmpR op_ne (pe_callB (call_reprK (K := K) rfl ns gd hU) (by rfl) T.repr_ (by decide +kernel) (pa_cons (pv 0) pa_nil)) (pv 2) (nomark _)) (pss_one (ps_ret pe_bl)) pss_nil)
            (pss_cons (ps_if (pt_val (pe_callB (isiK (K := K) rfl) (by rfl) T.isinstance_ (by decide +kernel) (pa_cons (pv 0) (pa_cons (pe_bltn (v := .ty "list") (by rfl) T.list_ (by decide +kernel) rfl) pa_nil)))) (pss_one (ps_expr (pe_bmK (K := K) rfl PySem.F.plainAttrs_list PySem.F.slot_list_append PySem.F.type_list_append mt_append (pv 0) (pa_cons pe_str pa_nil)))) pss_nil)
            (pss_one (ps_ret (pe_and (pe_cmpR op_isN (pv 1) pe_non (nomark _)) (pe_one (pe_cmpR op_eq (pe_callB (call_reprK (K := K) rfl ns gd hU) (by rfl) T.repr_ (by decide +kernel) (pa_cons (pe_xf ENoDeed.x ENoDeed.n hz hf (pv 4)) pa_nil)) (pe_callB (call_reprK (K := K) rfl ns gd hU) (by rfl) T.repr_ (by decide +kernel) (pa_cons (pv 0) pa_nil)) (nomark _))))))))) (.plain (ts := fun a cls d => _) ⟨by rfl, by decide, .inl ES.g⟩ (fun a oe cls d pn hz hf => (pss_one (ps_ret pe_bl))) .nil)) (fun W pn xe tk _ => (pss_one (ps_set (i := 3) sc_law_deed_right.nd rfl (Or.inl rfl) (pe_callS Gdeed_text (hr.mono (by decide)) (by rfl) Ndeed_text.g Ndeed_text.kp Ndeed_text.b (fun σ => passAt tk σ) (pa_cons (pv 0) pa_nil))))))
      (pss_one (ps_ret (pe_and (pe_cmpR op_notN (pv 1) pe_non (nomark _)) (pe_and (pe_cmpR op_eq (pv 3) (pv 1) (nomark _)) (pe_one (pe_cmpR op_eq (pe_callB (call_reprK (K := K) rfl ns gd hU) (by rfl) T.repr_ (by decide +kernel) (pa_cons (pv 0) pa_nil)) (pv 2) (nomark _))))))))), ?_⟩
    generalize hσ : L2.start _ _ = σ0
    obtain rfl : σ0 = [some v, none, none, none, none] := hσ.symm.trans rfl
    have nt := fun {H' : Hp} (km : KM T0 H H') => KM.nt tb km
    obtain ⟨d, dq, sb⟩ := wf.dq (K := K) (by decide)
    obtain ⟨m1, m2, m3⟩ := sb.rep (by decide) (by decide)
    by_cases no : ∃ fm ps, Deed H v fm ps
    · obtain ⟨fm, ps, dd⟩ := no
      refine ⟨_, rfl, v, rfl, wf.th, .inl ⟨fm, ps, dd, fun H1 s1 => ?_⟩⟩
      have k1 := KM.same tb s1
      refine ⟨_, rfl, _, _, rfl, sm_nt sm (nt k1), dq_nt (nt k1) dq, m1, m2, m3, ?_⟩
      refine ⟨_, rfl, v, rfl, k1.tab, .inl ⟨fm, ps, dd.nt (nt k1), fun H2 k2 => ?_⟩⟩
      have k3 := k1.trans k2
      have q := k _ (KV.km k3)
      refine ⟨_, rfl, rfl, _, rfl, ?_⟩
      rw [if_pos (by simp)]
      refine ⟨_, rfl, _, rfl, rfl, _, rfl, ?_⟩
      rw [if_pos (decide_eq_true rfl)]
      refine ⟨_, rfl, _, _, rfl, sm_nt sm (nt k3), dq_nt (nt k3) dq, m1, m2, m3, _, rfl, rfl, ?_⟩
      rw [decide_eq_true rfl]
      exact q
    · have nn := none_of wf no
      refine ⟨_, rfl, v, rfl, wf.th, .inr ⟨nn, fun H1 s1 => ?_⟩⟩
      have k1 := KM.same tb s1
      refine ⟨_, rfl, _, _, rfl, sm_nt sm (nt k1), dq_nt (nt k1) dq, m1, m2, m3, ?_⟩
      refine ⟨_, rfl, v, rfl, k1.tab, .inr ⟨nn.nt (nt k1), fun H2 e k2 he => ⟨true, ENoDeed.e, fun _ y hy => ?_, nofun⟩⟩⟩
      have k3 := k1.trans (k2.trans (KM.alloc (o := .xd [("found", v)]) k2.tab he))
      have ex : upd H2 e (.xd [("found", v)]) e = some (.xd [("found", v)]) := upd_same
      generalize upd H2 e (.xd [("found", v)]) = H3 at k3 ex hy ⊢
      have sm3 := sm_nt sm (nt k3)
      have wf3 := wf.keep (Kw.nt (nt k3))
      have fin : ∀ {H4 : Hp} {d4 : PyData}, Dq K H4 v d4 → (d4.showable = true ∧ d4.depth ≤ 100 ∧ d4.shown.length ≤ sizeLine) → SmAt H4 → H4 e = some (.xd [("found", v)]) → KV T0 v H H4 →
          tAndV (tOp (fun x y H Q => y = V.non ∧ Q (V.bl (decide (x = V.non))) H) (tVar 1) (tC V.non)) (tOp rEq (tCB (rReprQ K) (tCons (tXf y (Value.ref CN) (some e) CN (Str.ofString "found") (tVar 4)) tNil)) (tCB (rReprQ K) (tCons (tVar 0) tNil))) [some v, some .non, some (.str d.shown), none, some (.ref y)] H4 Q := by
        rintro H4 d4 q4 ⟨r1, r2, r3⟩ sm4 e4 kv
        have q := k _ kv
        refine ⟨_, rfl, rfl, _, rfl, ?_⟩
        rw [if_pos (decide_eq_true rfl)]
        refine ⟨_, rfl, rfl, rfl, e, _, _, rfl, e4, rfl, _, _, rfl, sm4, q4, r1, r2, r3, _, rfl, _, _, rfl, sm4, q4, r1, r2, r3, rfl, ?_⟩
        rw [decide_eq_true rfl]
        exact q
      refine ⟨_, rfl, _, _, rfl, sm3, dq_nt (nt k3) dq, m1, m2, m3, _, rfl, rfl, _, rfl, iteNS rfl ?_⟩
      have same := fin (dq_nt (nt k3) dq) ⟨m1, m2, m3⟩ sm3 ex (KV.km k3)
      cases wf3 with
      | non => exact ⟨_, rfl, _, _, _, _, false, rfl, .ty "list", .base .non, (by rfl), _, rfl, iteF same⟩
      | bl b => exact ⟨_, rfl, _, _, _, _, false, rfl, .ty "list", .base (.bl b), (by rfl), _, rfl, iteF same⟩
      | int i => exact ⟨_, rfl, _, _, _, _, false, rfl, .ty "list", .base (.int i), (by rfl), _, rfl, iteF same⟩
      | str z => exact ⟨_, rfl, _, _, _, _, false, rfl, .ty "list", .base (.str z), (by rfl), _, rfl, iteF same⟩
      | tup a xs j h => exact ⟨_, rfl, _, _, _, _, false, rfl, .ty "list", .base (.tup h), (by rfl), _, rfl, iteF same⟩
      | dic a h => exact ⟨_, rfl, _, _, _, _, false, rfl, .ty "list", .base (.dK h), (by rfl), _, rfl, iteF same⟩
      | lst a xs j ea na la hx =>
        have w10 := (Wf.lst a xs 1 ea na la hx).more ea (good_of "more") (by decide +kernel)
        obtain ⟨d', dq', sb'⟩ := w10.dq (K := K) (by decide)
        refine ⟨_, rfl, _, _, _, _, true, rfl, .ty "list", .base (.lst ea), (by rfl), _, rfl, iteT ⟨_, rfl, .inl ⟨rfl, _, SqL.of ea⟩, a, xs, _, rfl, rfl, ea, lt_line _ (by omega), ?_⟩⟩
        refine fin dq' (sb'.rep (by decide) (by decide)) ?_ ?_ ?_
        · obtain ⟨o, es⟩ := sm3
          exact ⟨o, by rw [upd_ne (ne_of es ea (by simp))]; exact es⟩
        · rw [upd_ne (ne_of ex ea (by simp))]
          exact ex
        · refine ⟨fun c o nT h1 h2 => ?_, fun p hp => ?_⟩
          · have e3 := k3.keep c o nT h2
            rw [upd_ne (fun z => ?_)]
            · exact e3
            · subst z
              rw [ea] at e3
              rcases h1 with h1 | h1
              · exact h1 rfl
              · exact h1 _ (Option.some.inj e3).symm
          · obtain ⟨ps, e5, r⟩ := k3.tab p hp
            exact ⟨ps, by rw [upd_ne (ne_of e5 ea (by simp))]; exact e5, r⟩
end
end F4

set_option maxRecDepth 100000
set_option maxHeartbeats 3200000
namespace F4
open PySem PySem.Spec PyProof.Rows L2 GxR Gd TL My
/-- H' is H with more, but for the tables and the box -/
structure KX (T : List Addr) (b : Addr) (H H' : Hp) : Prop where
  keep : ∀ c o, c ∉ T → c ≠ b → H c = some o → H' c = some o
  tab : Tabs T H'
theorem KX.refl {T : List Addr} {b : Addr} {H : Hp} (t : Tabs T H) : KX T b H H := ⟨fun _ _ _ _ h => h, t⟩
theorem KX.trans {T : List Addr} {b : Addr} {H H1 H2 : Hp} (a : KX T b H H1) (c : KX T b H1 H2) : KX T b H H2 := ⟨fun x o n m h => c.keep x o n m (a.keep x o n m h), c.tab⟩
theorem KX.km {T : List Addr} {b : Addr} {H H' : Hp} (k : KM T H H') : KX T b H H' := ⟨fun x o n _ h => k.keep x o n h, k.tab⟩
theorem KX.kb {T : List Addr} {b : Addr} {n : Int} {H H' : Hp} (t : Tabs T H) (B : Bx b n H) (k : KB b H H') : KX T b H H' := by
  refine ⟨fun c o _ nb h => k c o nb h, fun p hp => ?_⟩
  obtain ⟨ps, e, r⟩ := t p hp
  refine ⟨ps, k _ _ (fun z => ?_) e, r⟩
  subst z
  obtain ⟨x, y, z, h1, _⟩ := B
  rw [e] at h1; cases h1
theorem KX.at {T : List Addr} {b : Addr} {H H' : Hp} (t : Tabs T H) (k : KX T b H H') {c : Addr} {o : HO} (h : H c = some o) (n : ∀ ps, o ≠ .tbl ps) (nb : c ≠ b) : H' c = some o := k.keep c o (tabs_ne t h n) nb h
theorem _root_.My.Bx.ne {b c : Addr} {n : Int} {H : Hp} {o : HO} (B : Bx b n H) (h : H c = some o) (no : ∀ xs, o ≠ .lst xs) : c ≠ b := fun z => by
  subst z
  obtain ⟨x, y, z, h1, _⟩ := B
  rw [h] at h1
  exact no _ (Option.some.inj h1)
theorem _root_.My.Bx.km {T : List Addr} {b : Addr} {n : Int} {H H' : Hp} (t : Tabs T H) (k : KM T H H') (B : Bx b n H) : Bx b n H' := by
  obtain ⟨x, y, z, h1, r⟩ := B
  exact ⟨x, y, z, KM.nt t k _ _ (by simp) h1, r⟩
theorem KX.tup {T : List Addr} {b c : Addr} {n : Int} {H H' : Hp} {xs : List V} (t : Tabs T H) (k : KX T b H H') (B : Bx b n H) (h : H c = some (.tup xs)) : H' c = some (.tup xs) := k.at t h (by simp) (B.ne h (by simp))
theorem KX.sm {T : List Addr} {b : Addr} {n : Int} {H H' : Hp} (t : Tabs T H) (k : KX T b H H') (B : Bx b n H) (s : SmAt H) : SmAt H' := by
  obtain ⟨o, e⟩ := s
  exact ⟨o, k.at t e (by simp) (B.ne e (by simp))⟩
theorem KX.put {T : List Addr} {b : Addr} {H H' : Hp} {c : Addr} {o : HO} (t : Tabs T H) (k : KX T b H H') (h : H c = none) : KX T b H (upd H' c o) := by
  have nT : c ∉ T := fun hm => by
    obtain ⟨ps, e, _⟩ := t c hm
    rw [h] at e; cases e
  refine ⟨fun x u n m e => ?_, fun p hp => ?_⟩
  · rw [upd_ne (fun z => by rw [z, h] at e; cases e)]
    exact k.keep x u n m e
  · obtain ⟨ps, e, r⟩ := k.tab p hp
    exact ⟨ps, by rw [upd_ne (fun z : p = c => nT (by rw [← z]; exact hp))]; exact e, r⟩
theorem KX.fresh {T : List Addr} {b c : Addr} {n : Int} {H H' : Hp} (k : KX T b H H') (B : Bx b n H') (h : H' c = Option.none) : H c = Option.none := by
  cases e : H c with
  | none => rfl
  | some o =>
    have nT : c ∉ T := fun hm => by
      obtain ⟨ps, q, _⟩ := k.tab c hm
      rw [h] at q; cases q
    have nb : c ≠ b := B.fresh h
    rw [k.keep c o nT nb e] at h
    cases h
theorem KV.kx {T : List Addr} {b : Addr} {v : V} {H0 H H' : Hp} (x : KX T b H0 H) (fr : ∀ c ys, v = .ref c → H c = some (.lst ys) → H0 c = none) (k : KV T v H H') : KX T b H0 H' := by
  refine ⟨fun c o nT nb e => ?_, k.tab⟩
  have e1 := x.keep c o nT nb e
  refine k.keep c o nT ?_ e1
  by_cases q : v = .ref c
  · refine .inr fun ys z => ?_
    subst z
    rw [fr c ys q e1] at e
    cases e
  · exact .inl q
theorem KV.bx {T : List Addr} {b : Addr} {n : Int} {v : V} {H H' : Hp} (t : Tabs T H) (k : KV T v H H') (nv : v ≠ .ref b) (B : Bx b n H) : Bx b n H' := by
  obtain ⟨x, y, z, h1, r⟩ := B
  refine ⟨x, y, z, k.keep b _ (fun hm => ?_) (.inl nv) h1, r⟩
  obtain ⟨ps, e, _⟩ := t b hm
  rw [h1] at e
  cases e
theorem wf_nb {b : Addr} {n : Int} {H : Hp} {m k : Nat} {v : V} (w : Wf (· ≠ b) H m (k + 1) v) (B : Bx b n H) : v ≠ .ref b := fun z => by
  subst z
  obtain ⟨x, y, z, h1, _⟩ := B
  exact (w.lkid h1).1 rfl
theorem good_app {x y : Str} (h : Good x) (g : Good y) : Good (x ++ y) := fun c hc => by
  have e : (x ++ y).cps.toList = x.cps.toList ++ y.cps.toList := by
    show (x.cps ++ y.cps).toList = _
    rw [Array.toList_append]
  rw [e] at hc
  rcases List.mem_append.mp hc with hc | hc
  · exact h c hc
  · exact g c hc
section
variable {P : Program} {w : World} {K : PySem.W.Frag} {mg : Str → Option Value} {base : Heap}
abbrev s_law : Stmt := top 49
theorem sc_law : FnScope ["_law_script", "_law_k", "_law_box_here", "_law_deed_here", "_law_row", "_law_some"] ["_law_script"] (defScope s_law) := ⟨rfl, rfl, rfl, by decide +kernel, rfl, by decide +kernel, by decide +kernel⟩
def spLaw (K : PySem.W.Frag) (T : List Addr) : Sp := fun vs H Q _ => ∃ (a : Addr) (ns : List Int), vs = [.ref a] ∧ SqL K H a (ns.map V.int) ∧ ns.length ≤ 63 ∧ Tabs T H ∧ SmAt H ∧ ∀ H', Q (.bl true) H'
theorem ok_law {T0 : List Addr} {f fC fB fT fD f1 f2 f3 f4 f5 : Addr} {fd fdC fdB fdT fdD fd1 fd2 fd3 fd4 fd5 : FuncData} (F : Fun K "law" "law" s_law f fd) (T : Txt mg)
    (Nlaw_cell : Fn K mg "_law_cell" sCell ["_law_script", "_law_k"] fC fdC) (Glaw_cell : FnOk P w K mg base CX0 1 fC fdC ["_law_script", "_law_k"] (spCell K))
    (Nlaw_box : Fn K mg "_law_box" sBox ["_law_cell_here"] fB fdB) (Glaw_box : FnOk P w K mg base CX0 1 fB fdB ["_law_cell_here"] spBox)
    (Nlaw_take : Fn K mg "_law_take" sTake ["_law_box_here", "_law_many"] fT fdT) (Glaw_take : FnOk P w K mg base CX0 1 fT fdT ["_law_box_here", "_law_many"] spTake)
    (Nlaw_deed : Fn K mg "_law_deed" s_law_deed ["_law_box_here"] fD fdD) (Glaw_deed : FnOk P w K mg base CX0 4 fD fdD ["_law_box_here"] spLawDeed)
    (Nlaw_odd : Fn K mg "_law_odd" s_law_odd ["_law_box_here"] f1 fd1) (Glaw_odd : FnOk P w K mg base CX0 2 f1 fd1 ["_law_box_here"] spOdd)
    (Nlaw_bad_deed : Fn K mg "_law_bad_deed" s_law_bad_deed ["_law_box_here", "_law_deed_here"] f2 fd2) (Glaw_bad_deed : FnOk P w K mg base CX0 3 f2 fd2 ["_law_box_here", "_law_deed_here"] spBadDeed)
    (Nlaw_bad_row : Fn K mg "_law_bad_row" s_law_bad_row ["_law_box_here", "_law_row"] f3 fd3) (Glaw_bad_row : FnOk P w K mg base CX0 3 f3 fd3 ["_law_box_here", "_law_row"] spBadRow)
    (Nlaw_deed_right : Fn K mg "_law_deed_right" s_law_deed_right ["_law_thing"] f4 fd4) (Glaw_deed_right : GOk P w K mg base CX0 10 f4 fd4 ["_law_thing"] (spDeedRight T0))
    (Nlaw_read_right : Fn K mg "_law_read_right" s_law_read_right ["_law_row"] f5 fd5) (Glaw_read_right : GOk P w K mg base CX0 10 f5 fd5 ["_law_row"] (spReadRight T0)) :
    GOk P w K mg base CX0 11 f fd ["_law_script"] (spLaw K T0) := by
  refine gok F sc_law (fun vs H Q E h => ?_) (fun cdv A outer s H vs Q E gd hr h => ?_)
  · obtain ⟨a, ns, rfl, _⟩ := h
    rfl
  · obtain ⟨a, ns, rfl, hS, hlen, hT, sm, k⟩ := h
    refine ⟨_, pss_cons (ps_for PassesOwn.never rfl (pi_range1 (by rfl) T.range_ (pa_cons (pe_callB (call_max2 rfl) (by rfl) T.max_ (by decide +kernel) (pa_cons pe_int (pa_cons (pe_callB (call_min2 rfl) (by rfl) T.min_ (by decide +kernel) (pa_cons pe_int (pa_cons (pe_callB call_len_seq (by rfl) T.len_ PySem.boot_len (pa_cons (pv 0) pa_nil)) pa_nil))) pa_nil))) pa_nil)) (pg_name (i := 1) sc_law.nd rfl (Or.inl rfl)) (pss_cons (ps_set (i := 2) sc_law.nd rfl (Or.inl rfl) (pe_call Glaw_box (hr.mono (by decide)) (by rfl) Nlaw_box.g Nlaw_box.kp Nlaw_box.b .nil pass0 (pa_cons (pe_call Glaw_cell (hr.mono (by decide)) (by rfl) Nlaw_cell.g Nlaw_cell.kp Nlaw_cell.b .nil pass0 (pa_cons (pv 0) (pa_cons (pv 1) pa_nil))) pa_nil)))
          (pss_cons (ps_asg (pe_call Glaw_deed (hr.mono (by decide)) (by rfl) Nlaw_deed.g Nlaw_deed.kp Nlaw_deed.b .nil pass0 (pa_cons (pv 2) pa_nil)) (pg_unl (by rfl) (pgs_cons (pg_name (i := 3) sc_law.nd rfl (Or.inl rfl)) (pgs_cons (pg_name (i := 4) sc_law.nd rfl (Or.inl rfl)) pgs_nil))))
          (pss_cons (ps_if (PW.pt (pw_or (pt_not (pt_val (pe_gcall gd Glaw_deed_right (hr.mono (by decide)) (by rfl) Nlaw_deed_right.g Nlaw_deed_right.kp Nlaw_deed_right.b .nil pass0 (pa_cons (pe_call Glaw_bad_deed (hr.mono (by decide)) (by rfl) Nlaw_bad_deed.g Nlaw_bad_deed.kp Nlaw_bad_deed.b .nil pass0 (pa_cons (pv 2) (pa_cons (pv 3) pa_nil))) pa_nil)))) (pw_or1 (pt_not (pt_val (pe_gcall gd Glaw_deed_right (hr.mono (by decide)) (by rfl) Nlaw_deed_right.g Nlaw_deed_right.kp Nlaw_deed_right.b .nil pass0 (pa_cons (pv 3) pa_nil))))))) (pss_one (ps_ret pe_bl)) pss_nil)
          (pss_one (ps_for PassesOwn.never rfl (pi_list (pe_lst (pa_cons (pe_call Glaw_bad_row (hr.mono (by decide)) (by rfl) Nlaw_bad_row.g Nlaw_bad_row.kp Nlaw_bad_row.b .nil pass0 (pa_cons (pv 2) (pa_cons (pv 4) pa_nil))) (pa_cons (pv 4) (pa_cons (pe_op op_add_str (pv 4) (pe_ix ix_list (pe_lst (pa_cons pe_str (pa_cons pe_str pa_nil))) (pe_call Glaw_take (hr.mono (by decide)) (by rfl) Nlaw_take.g Nlaw_take.kp Nlaw_take.b .nil pass0 (pa_cons (pv 2) (pa_cons pe_int pa_nil))) (fun _ _ => rfl))) (pa_cons (pe_call Glaw_odd (hr.mono (by decide)) (by rfl) Nlaw_odd.g Nlaw_odd.kp Nlaw_odd.b .nil pass0 (pa_cons (pv 2) pa_nil)) pa_nil)))))) (pg_name (i := 5) sc_law.nd rfl (Or.inl rfl)) (pss_one (ps_if (pt_not (pt_val (pe_gcall gd Glaw_read_right (hr.mono (by decide)) (by rfl) Nlaw_read_right.g Nlaw_read_right.kp Nlaw_read_right.b .nil pass0 (pa_cons (pv 5) pa_nil)))) (pss_one (ps_ret pe_bl)) pss_nil))))))))
      (pss_one (ps_ret pe_bl)), ?_⟩
    generalize hσ : L2.start _ _ = σ0
    obtain rfl : σ0 = [some (.ref a), none, none, none, none, none] := hσ.symm.trans rfl
    refine ⟨_, rfl, a, _, rfl, .inl hS, _, _, rfl, _, _, rfl, ?_⟩
    obtain ⟨N, hN, N2, N8⟩ : ∃ N : Nat, (if (if (((ns.map V.int).length : Nat) : Int) < 30 then (((ns.map V.int).length : Nat) : Int) else 30) > 2 then (if (((ns.map V.int).length : Nat) : Int) < 30 then (((ns.map V.int).length : Nat) : Int) else 30) else 2) = (N : Int) ∧ 2 ≤ N ∧ N ≤ 30 := by
      rw [List.length_map]
      refine ⟨max 2 (min 30 ns.length), ?_, by omega, by omega⟩
      split <;> split <;> omega
    rw [hN]
    refine ⟨_, rfl, by omega, by omega, ?_⟩
    rw [Int.toNat_natCast]
    refine for_range (lo := 0) (n := N) (fun i σ H' => ∃ v1 v2 v3 v4 v5 : Option V, σ = [some (.ref a), v1, v2, v3, v4, v5] ∧ KM T0 H H') ⟨_, _, _, _, _, rfl, KM.refl hT⟩ ?_ ?_
    · rintro i σ H1 hi ⟨v1, v2, v3, v4, v5, rfl, k1⟩
      have hS1 := (KM.nt hT k1).seq hS
      have sm1 := sm_nt sm (KM.nt hT k1)
      simp only [List.set_cons_succ, List.set_cons_zero]
      refine ⟨_, rfl, _, rfl, a, ns, i, ?_, hS1, fun c => ?_⟩
      · show [V.ref a, V.int (0 + (i : Int))] = [V.ref a, V.int i]
        rw [Int.zero_add]
      refine ⟨c, rfl, fun b H2 fb off2 B2 => ?_⟩
      have s12 : Same H1 H2 := fun c o e => (off2 c (ne_of_none e fb)).trans e
      have k2 := k1.trans (KM.same k1.tab s12)
      have sm2 := sm_nt sm (KM.nt hT k2)
      have fin : ∀ {H' : Hp}, KX T0 b H2 H' → KM T0 H H' := fun {H'} kx => k1.trans ⟨fun c o nT e => kx.keep c o nT (ne_of_none e fb) (s12 _ _ e), kx.tab⟩
      simp only [List.set_cons_succ, List.set_cons_zero]
      dsimp only [gName, List.set_cons_succ, List.set_cons_zero]
      refine ⟨_, rfl, b, 0, rfl, B2, by decide, by decide, fun fm ps r d H3 hfm fit kb3 B3 hr3 er ed => ⟨r, _, rfl, SqL.of er, rfl, _, _, rfl, _, _, rfl, rfl, ?_⟩⟩
      have x3 : KX T0 b H2 H3 := KX.kb k2.tab B2 kb3
      have xr : KX T0 b H3 H3 := KX.refl x3.tab
      have nrb : r ≠ b := B2.fresh hr3
      simp only [List.set_cons_succ, List.set_cons_zero]
      refine ⟨_, rfl, _, rfl, b, d, 0 + 50, fm, ps, rfl, B3, by decide, by decide, ed, hfm, fit, fun v H4 wv fv kb4 B4 => ?_⟩
      have x4 : KX T0 b H3 H4 := KX.kb x3.tab B3 kb4
      have sm4 := x4.sm x3.tab B3 (x3.sm k2.tab B2 sm2)
      refine ⟨v, (· ≠ b), rfl, wv, x4.tab, sm4, fun H5 kv5 => ?_⟩
      have x5 : KX T0 b H3 H5 := kv5.kx x4 fv
      have B5 := kv5.bx x4.tab (wf_nb wv B4) B4
      have ed5 : H5 d = some (.tup (dv fm ps)) := x5.tup x3.tab B3 ed
      obtain ⟨dw, dl1, dl7⟩ := dv_wf (N := (· ≠ b)) (H := H5) hfm fit
      have wd : Wf (· ≠ b) H5 8 2 (.ref d) := .tup d _ 1 ed5 (by omega) fun x hx => (dw x hx).mono (Nat.le_refl 8) (by decide)
      refine ⟨_, rfl, iteF ⟨_, rfl, .ref d, (· ≠ b), rfl, wd, x5.tab, x5.sm x3.tab B3 (x3.sm k2.tab B2 sm2), fun H6 kv6 => ⟨_, rfl, iteF ?_⟩⟩⟩
      have x6 : KX T0 b H3 H6 := kv6.kx x5 fun c ys e q => by cases e; rw [ed5] at q; cases q
      have B6 : Bx b 55 H6 := kv6.bx x5.tab (wf_nb wd B5) B5
      clear x4 sm4 kv5 x5 B5 ed5 wd kv6 wv fv kb4 B4 dw
      have rl := rowT_len hfm fit
      have ra := rowT_asc hfm fit
      generalize rowT fm ps = row at rl ra
      refine ⟨_, rfl, _, rfl, b, 55, row, rfl, B6, by decide, by decide, ra, by omega, fun y H7 ay ly kb7 B7 => ?_⟩
      have x7 : KX T0 b H3 H7 := x6.trans (KX.kb x6.tab B6 kb7)
      refine ⟨_, rfl, _, rfl, two_line, fun L hL => ?_⟩
      have nLb : L ≠ b := B7.fresh hL
      have x8 : KX T0 b H3 (upd H7 L (.lst ([" ", "\n"].map fun x => V.str (Str.ofString x)))) := x7.trans (KX.km (KM.alloc x7.tab hL))
      have B8 := B7.alloc (o := .lst ([" ", "\n"].map fun x => V.str (Str.ofString x))) hL
      have eL : upd H7 L (.lst ([" ", "\n"].map fun x => V.str (Str.ofString x))) L = some (.lst ([" ", "\n"].map fun x => V.str (Str.ofString x))) := upd_same
      refine ⟨_, rfl, b, 2, 61, rfl, B8, by decide, by decide, by decide, fun m H9 m0 m1 off9 B9 => ?_⟩
      have x9 : KX T0 b H3 H9 := x8.trans (KX.kb x8.tab B8 (KB.off off9))
      have eL9 : H9 L = some (.lst ([" ", "\n"].map fun x => V.str (Str.ofString x))) := by rw [off9 L nLb]; exact eL
      obtain ⟨u, eu, gu, lu⟩ : ∃ u, atI ([" ", "\n"].map fun x => V.str (Str.ofString x)) m = some (.str u) ∧ Good u ∧ u.length ≤ 1 := by
        have : m = 0 ∨ m = 1 := by omega
        rcases this with rfl | rfl
        · exact ⟨_, rfl, good_of _, by decide +kernel⟩
        · exact ⟨_, rfl, good_of _, by decide +kernel⟩
      refine ⟨L, _, m, _, rfl, rfl, SqL.of eL9, eu, _, _, rfl, rfl, small_line (by omega), ?_⟩
      have x10 := fin (x3.trans x9)
      refine ⟨_, rfl, b, 62, rfl, B9, by decide, by decide, fun o HA ow fo kbA BA => ⟨by show 4 ≤ sizeLine; decide, fun p hp => ?_⟩⟩
      have xA : KX T0 b H3 HA := x9.trans (KX.kb x9.tab B9 kbA)
      have xB : KX T0 b H3 (upd HA p (.lst [.str y, .str row, .str (row ++ u), o])) := xA.trans (KX.km (KM.alloc xA.tab hp))
      have eB : upd HA p (.lst [.str y, .str row, .str (row ++ u), o]) p = some (.lst [.str y, .str row, .str (row ++ u), o]) := upd_same
      have thB : Th (upd HA p (.lst [.str y, .str row, .str (row ++ u), o])) o := th_nt (Nt.alloc hp) ow.th
      generalize upd HA p (.lst [.str y, .str row, .str (row ++ u), o]) = HB at xB eB thB ⊢
      have smB := xB.sm x3.tab B3 (x3.sm k2.tab B2 sm2)
      have kB := fin (x3.trans xB)
      have wB : ∀ z, o = .str z → WOk z := fun z e => by
        subst e
        cases ow with
        | str z g l => exact ⟨by omega, g⟩
      clear B8 B9 BA off9 kbA eL eL9 x10 eu
      refine ⟨p, rfl, ⟨_, SqL.of eB⟩, for_it (D := ⟨_, _, _, _⟩) (walk_list (K := K) (xs := [.str y, .str row, .str (row ++ u), o])) (fun j σ H' => ∃ u5 : Option V, σ = [some (.ref a), some (V.int (0 + (i : Int))), some (.ref b), some (.ref d), some (.str row), u5] ∧ KM T0 HB H') ⟨_, rfl, KM.refl kB.tab⟩ (fun i σ H' _ h => by obtain ⟨_, _, km⟩ := h; exact (KM.nt kB.tab km).seq (SqL.of eB)) ?_ ?_⟩
      · rintro j x σ HC HC' hj ⟨u5, rfl, km⟩ ⟨rfl, hx⟩
        have nC := KM.nt kB.tab km
        obtain ⟨thx, wx⟩ : Th HC' x ∧ ∀ z, x = .str z → WOk z := by
          have wy : WOk y := ⟨by omega, ay.good⟩
          have wr : WOk row := ⟨by omega, ra.good⟩
          have wu : WOk (row ++ u) := ⟨by rw [Str.length_append]; omega, good_app ra.good gu⟩
          have : j = 0 ∨ j = 1 ∨ j = 2 ∨ j = 3 := by
            have : j < 4 := hj
            omega
          rcases this with rfl | rfl | rfl | rfl
          · obtain rfl : V.str y = x := by simpa using hx
            exact ⟨wy.th, fun z h => by cases h; exact wy⟩
          · obtain rfl : V.str row = x := by simpa using hx
            exact ⟨wr.th, fun z h => by cases h; exact wr⟩
          · obtain rfl : V.str (row ++ u) = x := by simpa using hx
            exact ⟨wu.th, fun z h => by cases h; exact wu⟩
          · obtain rfl : o = x := by simpa using hx
            exact ⟨th_nt nC thB, wB⟩
        refine ⟨_, rfl, x, rfl, thx, wx, km.tab, sm_nt smB nC, fun HD kD => ⟨_, rfl, iteF ⟨_, rfl, km.trans kD⟩⟩⟩
      · rintro σ HC ⟨u5, rfl, km⟩
        exact ⟨_, _, _, _, _, rfl, kB.trans km⟩
    · rintro σ H1 ⟨v1, v2, v3, v4, v5, rfl, k1⟩
      exact k H1
end
end F4

set_option maxRecDepth 100000
set_option maxHeartbeats 800000
namespace F4
open PySem PySem.Spec L2 My
theorem cst3 {K : PySem.W.Frag} {a : Addr} {o : Obj} {z0 z1 z2 : Str} {t0 t1 t2 : Tok} {n : Nat} {zs : List Str} (l : K.lookup a = some o) (c : o.cls = .type "tuple") (d : o.dict = none) (e : o.data = .seq #[.str z0 t0, .str z1 t1, .str z2 t2] n) (h : [z0, z1, z2] = zs) : Cst K a zs := by
  subst h
  exact ⟨fun H => .inr ⟨o, _, n, l, c, e, fit (by simp), .cons ⟨_, rfl⟩ (.cons ⟨_, rfl⟩ (.cons ⟨_, rfl⟩ .nil))⟩, o, l, c, d⟩
theorem cst4 {K : PySem.W.Frag} {a : Addr} {o : Obj} {z0 z1 z2 z3 : Str} {t0 t1 t2 t3 : Tok} {n : Nat} {zs : List Str} (l : K.lookup a = some o) (c : o.cls = .type "tuple") (d : o.dict = none) (e : o.data = .seq #[.str z0 t0, .str z1 t1, .str z2 t2, .str z3 t3] n) (h : [z0, z1, z2, z3] = zs) : Cst K a zs := by
  subst h
  exact ⟨fun H => .inr ⟨o, _, n, l, c, e, fit (by simp), .cons ⟨_, rfl⟩ (.cons ⟨_, rfl⟩ (.cons ⟨_, rfl⟩ (.cons ⟨_, rfl⟩ .nil)))⟩, o, l, c, d⟩
def fsOf (a b c d : Addr) : So → Addr
  | .name => a
  | .number => b
  | .thing => c
  | .kind => d
theorem sod_mk {K : PySem.W.Frag} {w : World} {A a b c d : Addr} {es : Array DictEntry} {n : Nat} (D : KDict K w A es n)
    (n0 : PySem.W.nsIn K A "leave" = some none) (n1 : PySem.W.nsIn K A "to" = some none) (n2 : PySem.W.nsIn K A "by" = some none) (n3 : PySem.W.nsIn K A "come" = some none) (n4 : PySem.W.nsIn K A "lock" = some none) (n5 : PySem.W.nsIn K A "for" = some none) (n6 : PySem.W.nsIn K A "pilot" = some none) (n7 : PySem.W.nsIn K A "unlock" = some none) (n8 : PySem.W.nsIn K A "give" = some none) (n9 : PySem.W.nsIn K A "take" = some none) (n10 : PySem.W.nsIn K A "box" = some none) (n11 : PySem.W.nsIn K A "walk" = some none) (n12 : PySem.W.nsIn K A "help" = some none) (n13 : PySem.W.nsIn K A "bring" = some none) (n14 : PySem.W.nsIn K A "again" = some none) (n15 : PySem.W.nsIn K A "get" = some none) (n16 : PySem.W.nsIn K A "lose" = some none)
    (y0 : PySem.W.nsIn K A "NAME" = some (some (.ref a))) (y1 : PySem.W.nsIn K A "NUMBER" = some (some (.ref b))) (y2 : PySem.W.nsIn K A "THING" = some (some (.ref c))) (y3 : PySem.W.nsIn K A "KIND" = some (some (.ref d))) : SoD K w A (fsOf a b c d) es n := by
  refine ⟨D, fun z hz => ?_, fun x => ?_⟩
  · simp only [lits, List.map_cons, List.map_nil, List.mem_cons, List.not_mem_nil, or_false] at hz
    rcases hz with rfl | rfl | rfl | rfl | rfl | rfl | rfl | rfl | rfl | rfl | rfl | rfl | rfl | rfl | rfl | rfl | rfl
    · exact n0
    · exact n1
    · exact n2
    · exact n3
    · exact n4
    · exact n5
    · exact n6
    · exact n7
    · exact n8
    · exact n9
    · exact n10
    · exact n11
    · exact n12
    · exact n13
    · exact n14
    · exact n15
    · exact n16
  · cases x
    · exact y0
    · exact y1
    · exact y2
    · exact y3
theorem fod_mk {K : PySem.W.Frag} {w : World} {A : Addr} {es : Array DictEntry} {n : Nat} (D : KDict K w A es n) {z0 z1 z2 z3 z4 z5 z6 z7 z8 z9 z10 z11 z12 z13 : Str} {t0 t1 t2 t3 t4 t5 t6 t7 t8 t9 t10 t11 t12 t13 : Tok}
    (h0 : PySem.W.nsIn K A "leave" = some (some (.str z0 t0))) (h1 : PySem.W.nsIn K A "come" = some (some (.str z1 t1))) (h2 : PySem.W.nsIn K A "lock" = some (some (.str z2 t2))) (h3 : PySem.W.nsIn K A "pilot" = some (some (.str z3 t3))) (h4 : PySem.W.nsIn K A "unlock" = some (some (.str z4 t4))) (h5 : PySem.W.nsIn K A "give" = some (some (.str z5 t5))) (h6 : PySem.W.nsIn K A "take" = some (some (.str z6 t6))) (h7 : PySem.W.nsIn K A "box" = some (some (.str z7 t7))) (h8 : PySem.W.nsIn K A "walk" = some (some (.str z8 t8))) (h9 : PySem.W.nsIn K A "help" = some (some (.str z9 t9))) (h10 : PySem.W.nsIn K A "bring" = some (some (.str z10 t10))) (h11 : PySem.W.nsIn K A "again" = some (some (.str z11 t11))) (h12 : PySem.W.nsIn K A "get" = some (some (.str z12 t12))) (h13 : PySem.W.nsIn K A "lose" = some (some (.str z13 t13)))
    (e0 : z0 = Str.ofString "leave NAME to NAME by THING") (e1 : z1 = Str.ofString "come NAME") (e2 : z2 = Str.ofString "lock NAME NUMBER for NAME") (e3 : z3 = Str.ofString "pilot NAME NUMBER") (e4 : z4 = Str.ofString "unlock NAME NUMBER") (e5 : z5 = Str.ofString "give NAME NUMBER") (e6 : z6 = Str.ofString "take NAME NUMBER") (e7 : z7 = Str.ofString "box NAME NUMBER") (e8 : z8 = Str.ofString "walk NAME to NAME") (e9 : z9 = Str.ofString "help NAME NAME") (e10 : z10 = Str.ofString "bring NAME to NAME") (e11 : z11 = Str.ofString "again NAME KIND NUMBER") (e12 : z12 = Str.ofString "get NUMBER") (e13 : z13 = Str.ofString "lose NUMBER") (kk : es.toList.map keyN = formNames) : FoD K w A es n := by
  subst e0 e1 e2 e3 e4 e5 e6 e7 e8 e9 e10 e11 e12 e13
  refine ⟨D, fun f hf => ?_, fun z hz => ns_no D (by rw [kk]; exact hz)⟩
  simp only [forms, List.mem_cons, List.not_mem_nil, or_false] at hf
  rcases hf with rfl | rfl | rfl | rfl | rfl | rfl | rfl | rfl | rfl | rfl | rfl | rfl | rfl | rfl
  · exact ⟨_, h0⟩
  · exact ⟨_, h1⟩
  · exact ⟨_, h2⟩
  · exact ⟨_, h3⟩
  · exact ⟨_, h4⟩
  · exact ⟨_, h5⟩
  · exact ⟨_, h6⟩
  · exact ⟨_, h7⟩
  · exact ⟨_, h8⟩
  · exact ⟨_, h9⟩
  · exact ⟨_, h10⟩
  · exact ⟨_, h11⟩
  · exact ⟨_, h12⟩
  · exact ⟨_, h13⟩
end F4

set_option maxRecDepth 100000
set_option maxHeartbeats 4000000
/-! The end of a law with tables whose own def shows dicts. -/
namespace Gd
open PySem PySem.Spec PyProof.Rows L2 GxR
open Classical in
noncomputable def hm0 (K : PySem.W.Frag) (a : Addr) (vs : List Value) (ns : List Int) (T : List Addr) (o1 : Obj) : Hp := fun b => if b = sysModules then some (.frz o1 smU) else h0 K a vs ns T b
theorem hm0_inv {K : PySem.W.Frag} {a b : Addr} {vs : List Value} {ns : List Int} {T : List Addr} {o1 : Obj} {u : HO} (h : hm0 K a vs ns T o1 b = some u) :
    (b = sysModules ∧ u = .frz o1 smU) ∨ (b = a ∧ K.lookup a = none ∧ u = .frz (scriptO vs) (.lst (ns.map V.int))) ∨ (b ∈ T ∧ u = .tbl #[]) := by
  unfold hm0 at h
  split at h
  · rename_i c
    exact .inl ⟨c, (Option.some.inj h).symm⟩
  · exact .inr (h0_inv h)
section
variable {P : Program} {w : World} {K : PySem.W.Frag} {mg mb : Str → Option Value} {CX : CXT} {k : Nat} {fa a : Addr} {cs : List (Addr × Addr)} {fd : FuncData} {x : Str} {sp : Sp} {s1 : Shared} {vs : List Value} {ns : List Int}
theorem law_mcall (KX : K.In s1.heap) (nsG : s1.heap.Ns mainGlobals mg) (nsB : s1.heap.Ns builtinsNs mb) (isB : ∀ x : Str, x ≠ "__name__" → mb x = bootBuiltins x) (lim : s1.heap.NoLimit) (gens : s1.gens = #[])
    (tabs : ∀ p ∈ cs, s1.heap.get? p.2 = some tabO) (tabK : ∀ p ∈ cs, K.lookup p.2 = none) (codes : ∀ p ∈ cs, PySem.W.CodeHd s1.heap p.1 p.2)
    (bmain : ∃ (bm : Addr) (ob : Obj), mg "__builtins__" = some (.ref bm) ∧ bm ≠ builtinsNs ∧ s1.heap.get? bm = some ob ∧ ob.cls = .type "module" ∧ ob.dict = some builtinsNs ∧ ob.data = .plain)
    (hsm : ∃ o es ep, s1.heap.get? sysModules = some o ∧ o.data = .dict es ep) (k1 : K.lookup sysModules = none) (na : a ≠ sysModules)
    (ha : s1.heap.get? a = some (scriptO vs)) (hi : IntsAre vs ns) (hl : ns.length ≤ sizeLine) (hr : Room k callerA)
    (F : ∀ base : Heap, K.In base → base.Ns mainGlobals mg → (∀ p ∈ cs, TabB base mg p.1 p.2) → GOk P w K mg base CX k fa fd [x] sp)
    (hbind : ∀ (s : Shared) (u : Value), BindsTo s fd ⟨[u], []⟩ [(x, u)])
    (hsp : ∀ H : Hp, SmAt H → (∀ p ∈ cs, H p.2 = some (.tbl #[])) → SqL K H a (ns.map V.int) → sp [.ref a] H (fun v _ => v = .bl true) fun _ _ _ => False)
    (hCX : ∀ H e s', CX [] H s1 (fun _ _ _ => False) e s' → False) :
    codeAny (model P w) callerA (.call (.ref fa) ⟨[.ref a], []⟩) (fun r s' => r = .ok (.ret (.bool true)) ∧ OldK s1.heap s'.heap ∧ s'.os = s1.os ∧ AllBare s'.gens) s1 := by
  have rv := vals_ints hi
  have hlen := hi.length
  obtain ⟨o1, es1, ep1, ho1, hd1⟩ := hsm
  let T := cs.map Prod.snd
  have inT : ∀ p ∈ cs, p.2 ∈ T := fun p hp => List.mem_map.mpr ⟨p, hp, rfl⟩
  have ofT : ∀ b ∈ T, s1.heap.get? b = some tabO ∧ K.lookup b = none := by
    intro b hb
    obtain ⟨p, hp, rfl⟩ := List.mem_map.mp hb
    exact ⟨tabs p hp, tabK p hp⟩
  have neT : a ∉ T := fun z => by
    have q := (ofT a z).1
    rw [ha] at q
    cases q
  have smT : sysModules ∉ T := fun z => by
    have q := (ofT _ z).1
    rw [ho1] at q
    rw [Option.some.inj q] at hd1
    cases hd1
  let H := hm0 K a vs ns T o1
  have notsm : ∀ {b : Addr} {o : Obj}, s1.heap.get? b = some o → (∀ es ep, o.data ≠ .dict es ep) → b ≠ sysModules := fun e n z => by
    subst z
    rw [ho1] at e
    rw [Option.some.inj e] at hd1
    exact n _ _ hd1
  have seen : ∀ {b : Addr} {o : Obj}, s1.heap.get? b = some o → (∀ us n, o.data ≠ .seq us n) → o.data ≠ .fields #[] → b ≠ sysModules → H b = none := by
    intro b o e n1 n2 n3
    cases q : H b with
    | none => rfl
    | some u =>
      exfalso
      rcases hm0_inv q with ⟨z, _⟩ | ⟨rfl, _, _⟩ | ⟨hb, _⟩
      · exact n3 z
      · rw [ha] at e
        cases e
        exact n1 _ _ rfl
      · rw [(ofT b hb).1] at e
        cases e
        exact n2 rfl
  have keepHid : ∀ {b : Addr} {o : Obj}, s1.heap.get? b = some o → H b = none → (hidT s1.heap H).get? b = some o := fun e n => hidT_get e n
  have nsHid : ∀ {b : Addr} {m : Str → Option Value}, b ≠ sysModules → s1.heap.Ns b m → (hidT s1.heap H).Ns b m := by
    rintro b m n ⟨o, es, ep, e, d, rest⟩
    refine ⟨o, es, ep, keepHid e (seen e (fun us n z => ?_) (fun z => ?_) n), d, rest⟩ <;> (rw [d] at z; cases z)
  have KH : K.In (hidT s1.heap H) := by
    intro b o e
    refine keepHid (KX b o e) ?_
    cases q : H b with
    | none => rfl
    | some u =>
      exfalso
      rcases hm0_inv q with ⟨rfl, _⟩ | ⟨rfl, z, _⟩ | ⟨hb, _⟩
      · rw [k1] at e
        cases e
      · rw [z] at e
        cases e
      · rw [(ofT b hb).2] at e
        cases e
  have limH : (hidT s1.heap H).NoLimit := by
    obtain ⟨mc, h1, h2⟩ := lim
    exact ⟨mc, nsHid (by decide) h1, h2⟩
  have M : L2.Mod K mg (hidT s1.heap H) := ⟨KH, nsHid (by decide) nsG, ⟨mb, nsHid (by decide) nsB, isB⟩, limH⟩
  have TB : ∀ p ∈ cs, TabB (hidT s1.heap H) mg p.1 p.2 := by
    intro p hp
    have tp := tabs p hp
    refine ⟨?_, ?_, ?_⟩
    · obtain ⟨o, us, file, tf, flags, tg, inF, text, tt, e1, r1, r2, r3, rest⟩ := codes p hp
      refine ⟨o, us, file, tf, flags, tg, inF, text, tt, keepHid e1 (seen e1 (fun vs n z => ?_) (fun z => ?_) (notsm e1 fun es ep z => ?_)), r1, r2, r3, rest⟩
      · rw [r2] at z
        cases z
      · rw [r2] at z
        cases z
        simp at r3
      · rw [r2] at z
        cases z
    · obtain ⟨bm, ob, b1, b2, b3, b4, b5, b6⟩ := bmain
      have g1 : bm ≠ mainGlobals := by
        rintro rfl
        obtain ⟨o, es, ep, e, d, _⟩ := nsG
        rw [b3] at e
        cases e
        rw [b6] at d
        cases d
      have g2 : bm ≠ p.2 := by
        rintro rfl
        rw [tp] at b3
        cases b3
        cases b6
      refine ⟨bm, ob, b1, b2, g1, g2, keepHid b3 (seen b3 (fun vs n z => ?_) (fun z => ?_) (notsm b3 fun es ep z => ?_)), b4, b5, b6⟩ <;> (rw [b6] at z; cases z)
    · intro z
      obtain ⟨o, es, ep, e, d, _⟩ := nsG
      rw [z, tp] at e
      cases e
      cases d
  have hH : ∀ p ∈ cs, H p.2 = some (.tbl #[]) := by
    intro p hp
    have n0 : ¬ p.2 = sysModules := fun z => smT (z ▸ inT p hp)
    have n1 : ¬ (p.2 = a ∧ K.lookup a = none) := fun z => neT (z.1 ▸ inT p hp)
    exact (if_neg n0).trans ((if_neg n1).trans (if_pos (inT p hp)))
  have hS : SqL K H a (ns.map V.int) := by
    cases q : K.lookup a with
    | none => exact .inl (.inr ⟨scriptO vs, (if_neg na).trans (if_pos ⟨rfl, q⟩)⟩)
    | some o =>
      have e := KX a o q
      rw [ha] at e
      cases e
      exact .inr ⟨_, vs.toArray, _, q, rfl, rfl, rfl, by rw [List.size_toArray, hlen]; exact hl, by simpa using rv⟩
  have hok : HOk P w H s1.heap := by
    intro b u q
    rcases hm0_inv q with ⟨rfl, rfl⟩ | ⟨rfl, _, rfl⟩ | ⟨hb, rfl⟩
    · exact ⟨ho1, ⟨_, ho1⟩, ⟨_, ho1⟩, fun h1 h2 ⟨o, z⟩ k => ⟨o, k _ z⟩⟩
    · exact ⟨ha, by rw [List.length_map]; exact hl, vs, _, rv, ha⟩
    · exact (ofT b hb).1
  have e0 : Env0 P w K mg (hidT s1.heap H) callerA [] s1 H :=
    ⟨rfl, M, fun b o e => of_hidT e, Nat.le_of_eq (hidT_size _ _), trivial, (fun b hb => by cases (show b ∈ ([] : List Addr) from hb)), hok, .of_eq gens⟩
  have run := (F _ KH (nsHid (by decide) nsG) TB).go callerA [] s1 H ⟨[.ref a], []⟩ [.ref a] [.ref a] (fun v _ => v = .bl true) (fun _ _ _ => False) rfl hr e0 (hbind s1 (.ref a)) (.cons rfl .nil) (hsp H ⟨o1, if_pos rfl⟩ hH hS)
  refine codeAny_mono run ?_
  intro r s' h
  match r, h with
  | .error e, h => exact (hCX H e s' h).elim
  | .ok .next, h => exact h.elim
  | .ok .brk, h => exact h.elim
  | .ok .cont, h => exact h.elim
  | .ok (.ret u), h =>
    obtain ⟨v, H', os, bare, un, hok', r', q⟩ := h
    obtain rfl : v = .bl true := q
    obtain rfl : u = Value.bool true := r'
    have plain : ∀ b o, b ∉ T → s1.heap.get? b = some o → s'.heap.get? b = some o := by
      intro b o nb e
      cases q : H b with
      | none => exact un.keep b o e q (fun z => by cases (show b ∈ ([] : List Addr) from z)) (by simp)
      | some y =>
        rcases hm0_inv q with ⟨rfl, rfl⟩ | ⟨rfl, _, rfl⟩ | ⟨hb, _⟩
        · obtain ⟨e2, _⟩ := hok' sysModules _ (un.frzs _ _ _ q)
          rw [ho1] at e
          exact Option.some.inj e ▸ e2
        · obtain ⟨e2, _⟩ := hok' b _ (un.frzs b _ _ q)
          rw [ha] at e
          cases e
          exact e2
        · exact absurd hb nb
    have grown : ∀ p ∈ cs, ∃ more : Array Value, s'.heap.get? p.2 = some { cls := .none, data := .fields more } := by
      intro p hp
      obtain ⟨more, z⟩ := un.tbls p.2 #[] (hH p hp)
      exact ⟨_, hok' p.2 _ z⟩
    refine ⟨rfl, ⟨fun b o e => ?_, fun b o e => ?_⟩, os, bare⟩ <;> by_cases hb : b ∈ T
    · obtain ⟨p, hp, rfl⟩ := List.mem_map.mp hb
      obtain ⟨more, hm⟩ := grown p hp
      rw [tabs p hp] at e
      cases e
      exact .inr (.inl ⟨((codes p hp).tab (tabs p hp)).isCodeTable, rfl, #[], more, rfl, by rw [Array.empty_append]; exact hm⟩)
    · exact .inl (plain b o hb e)
    · obtain ⟨p, hp, rfl⟩ := List.mem_map.mp hb
      obtain ⟨more, hm⟩ := grown p hp
      exact ⟨_, hm⟩
    · exact ⟨o, plain b o hb e⟩
end
/-- what is to be known of such a law -/
def GLawM (l : PySem.W.OpenLaw) (w : World) (K : PySem.W.Frag) (CX : CXT) (k n : Nat) (x : Str) (mg : Str → Option Value) (fa : Addr) (h : Heap) : Prop :=
  ∃ (fd : FuncData) (cs : List (Addr × Addr)) (sp : Sp), K.lookup sysModules = none ∧ (∀ p ∈ cs, h.get? p.2 = some tabO) ∧ (∀ p ∈ cs, K.lookup p.2 = none) ∧ (∀ p ∈ cs, PySem.W.CodeHd h p.1 p.2) ∧
    (∀ (s : Shared) (u : Value), BindsTo s fd ⟨[u], []⟩ [(x, u)]) ∧
    (∀ (H : Hp) (a : Addr) (ns : List Int), ns.length ≤ n → SmAt H → (∀ p ∈ cs, H p.2 = some (.tbl #[])) → SqL K H a (ns.map V.int) →
      sp [.ref a] H (fun v _ => v = .bl true) fun _ _ _ => False) ∧
    ∀ base : Heap, K.In base → base.Ns mainGlobals mg → (∀ p ∈ cs, TabB base mg p.1 p.2) → GOk l.prog w K mg base CX k fa fd [x] sp
open PySem.W in
theorem walk_m {l : PySem.W.OpenLaw} {n k : Nat} {q : Program} {loose : List Str} {XP : (Str → Option Value) → Heap → Prop} {YP : World → Heap → Prop} {d : DefRec} {K : Params → PySem.W.Frag} {CX : World → CXT} {x : Str}
    (no : importsNone q = true) (hn : l.most = some n) (small : n ≤ sizeLine) (hdf : d.params.defaults = []) (hr : Room k callerA) (hY : ∀ (w : World) (h : Heap), YP w h → (K w.params).In h)
    (F : ∀ (w : World) (mg : Str → Option Value) (fa : Addr) (h : Heap), YP w h → (K w.params).In h → h.Ns mainGlobals mg → mg d.name = some (.ref fa) → Empt q (K w.params) h → GLawM l w (K w.params) (CX w) k n x mg fa h)
    (hCX : ∀ (w : World) (H : Hp) (s : Shared) (e : Value) (s' : Shared), CX w [] H s (fun _ _ _ => False) e s' → False) :
    PySem.W.WalkO q loose XP YP l.row.toRowW d [] (fun f vs => PySem.call f vs) := by
  intro w s0 s1 mg mb G Y fa o pm cd doc dV kV ho hd hcd hD hmg hg args vals as pre lay rd well low
  obtain ⟨a, vs, ns, rfl, rfl, hobj, hints, hlen⟩ := Att.script_of hn pre well
  have na : a ≠ sysModules := by
    cases rd with
    | cons r1 r2 =>
      cases r1 with
      | list _ _ _ _ => exact beq_eq_false_iff_ne.mp (low a (by simp))
  have KX := hY w _ Y
  have em : Empt q (K w.params) s1.heap := by
    intro x f c t o1 fd1 e dd us sl hx k1 k2 k3 k4 k5 k6
    obtain ⟨r, hr1, hr2⟩ := List.any_eq_true.mp hx
    have hn1 : r.name = x := beq_iff_eq.mp hr2
    obtain ⟨a1, o2, fd2, c2, t2, y1, y2, y3, y4, y5, y6⟩ := G.T.tab r hr1
    have z1 := PySem.W.mg_of KX G.T.g k1
    rw [hn1, z1] at y1
    cases y1
    have z2 := KX _ _ k2
    rw [z2] at y2
    cases y2
    rw [k3] at y3
    cases y3
    rw [k4] at y4
    cases y4
    have y6b := y6
    obtain ⟨⟨oc, vc, e1, e2, e3, e4⟩, hP⟩ := y6b
    have z5 := KX _ _ k5
    rw [z5] at e1
    cases e1
    cases e3
    rw [k6] at e4
    cases e4
    exact ⟨PySem.W.CodeHd.of y5 y6, hP⟩
  obtain ⟨fd, cs, sp, k1, t1, t2, t3, hb, hsp, hF⟩ := F w mg fa _ Y KX G.T.g hmg em
  have run := law_mcall KX G.T.g G.T.b G.T.builtins G.T.nolimit hg t1 t2 t3 G.T.bmain (let ⟨_, ⟨o, es, ep, e, d, _⟩, _⟩ := (G.T.seer no).mods; ⟨o, es, ep, e, d⟩) k1 na hobj hints (Nat.le_trans hlen small) hr hF hb (fun H a1 a2 a3 => hsp H a ns hlen a1 a2 a3) (fun H e s' => hCX w H s1 e s')
  refine enter_call (codeAny_mono run ?_)
  rintro r z ⟨rfl, old, os, bare⟩
  exact ⟨.inl ⟨.bool true, .bool true, [], rfl, fun _ => rfl, .bool true, Att.post_true l _, fun _ => ⟨List.Pairwise.nil, fun _ m => (nomatch m)⟩⟩, old, os, bare⟩
end Gd

set_option maxRecDepth 100000
set_option maxHeartbeats 4000000
namespace F4
open PySem PySem.Spec PyProof.Rows L2 GxR Gd TL My
theorem all_mk {l : PySem.W.OpenLaw} {q : Program} {w : World} {K : PySem.W.Frag} {h : Heap} {mg : Str → Option Value} {fa CY CN CS aSO aFO aTH aKI f1 f2 f3 f4 f5 f6 f7 f8 f9 f10 f11 f12 f13 f14 f15 f16 f17 f18 f19 f20 f21 f22 f23 f24 f25 f26 f27 f28 f29 f30 f31 f32 f33 f34 f35 f36 f37 f38 co0 tb0 co1 tb1 co2 tb2 : Addr} {eo0 : Value} {eoD0 : Option Addr} {us0 : Array Value} {usl0 : Array (Option Value)} {eo1 : Value} {eoD1 : Option Addr} {us1 : Array Value} {usl1 : Array (Option Value)} {eo2 : Value} {eoD2 : Option Addr} {us2 : Array Value} {usl2 : Array (Option Value)}
    (X : K.In h) (G : h.Ns mainGlobals mg) (hfa : mg "law" = some (.ref fa)) (em : Empt q K h)
     {nmCY qCY : Str} {NCY : Addr} {bsCY : List Value} {snCY : List Str} {subCY : List Value} {abCY : Bool} {colCY : Option Bool} {ddCY : Option Addr} {m0CY m1CY m2CY m3CY m5CY : Option Value} {nmCN qCN : Str} {NCN : Addr} {bsCN : List Value} {snCN : List Str} {subCN : List Value} {abCN : Bool} {colCN : Option Bool} {ddCN : Option Addr} {m0CN m1CN m2CN m3CN m5CN : Option Value} {oTH oKI : Obj} {zt0 zt1 zt2 zt3 zk0 zk1 zk2 : Str} {kt0 kt1 kt2 kt3 kk0 kk1 kk2 tM : Tok} {nTH nKI nSO nFO : Nat} {esO efO : Array DictEntry} {zf0 zf1 zf2 zf3 zf4 zf5 zf6 zf7 zf8 zf9 zf10 zf11 zf12 zf13 : Str} {kf0 kf1 kf2 kf3 kf4 kf5 kf6 kf7 kf8 kf9 kf10 kf11 kf12 kf13 : Tok} {od1 an1 : Option Addr} {sl1 : Array (Option Value)} {oc1 kV1 dc1 pm1 cd1 ct1 : Value} {od2 an2 : Option Addr} {sl2 : Array (Option Value)} {oc2 kV2 dc2 pm2 cd2 ct2 : Value} {od3 an3 : Option Addr} {sl3 : Array (Option Value)} {oc3 kV3 dc3 pm3 cd3 ct3 : Value} {od4 an4 : Option Addr} {sl4 : Array (Option Value)} {oc4 kV4 dc4 pm4 cd4 ct4 : Value} {od5 an5 : Option Addr} {sl5 : Array (Option Value)} {oc5 kV5 dc5 pm5 ct5 : Value} {od6 an6 : Option Addr} {sl6 : Array (Option Value)} {oc6 kV6 dc6 pm6 cd6 ct6 : Value} {od7 an7 : Option Addr} {sl7 : Array (Option Value)} {oc7 kV7 dc7 pm7 cd7 ct7 : Value} {od8 an8 : Option Addr} {sl8 : Array (Option Value)} {oc8 kV8 dc8 pm8 cd8 ct8 : Value} {od9 an9 : Option Addr} {sl9 : Array (Option Value)} {oc9 kV9 dc9 pm9 cd9 ct9 : Value} {od10 an10 : Option Addr} {sl10 : Array (Option Value)} {oc10 kV10 dc10 pm10 cd10 ct10 : Value} {od11 an11 : Option Addr} {sl11 : Array (Option Value)} {oc11 kV11 dc11 pm11 ct11 : Value} {od12 an12 : Option Addr} {sl12 : Array (Option Value)} {oc12 kV12 dc12 pm12 cd12 ct12 : Value} {od13 an13 : Option Addr} {sl13 : Array (Option Value)} {oc13 kV13 dc13 pm13 ct13 : Value} {od14 an14 : Option Addr} {sl14 : Array (Option Value)} {oc14 kV14 dc14 pm14 cd14 ct14 : Value} {od15 an15 : Option Addr} {sl15 : Array (Option Value)} {oc15 kV15 dc15 pm15 cd15 ct15 : Value} {od16 an16 : Option Addr} {sl16 : Array (Option Value)} {oc16 kV16 dc16 pm16 cd16 ct16 : Value} {od17 an17 : Option Addr} {sl17 : Array (Option Value)} {oc17 kV17 dc17 pm17 cd17 ct17 : Value} {od18 an18 : Option Addr} {sl18 : Array (Option Value)} {oc18 kV18 dc18 pm18 cd18 ct18 : Value} {od19 an19 : Option Addr} {sl19 : Array (Option Value)} {oc19 kV19 dc19 pm19 cd19 ct19 : Value} {od20 an20 : Option Addr} {sl20 : Array (Option Value)} {oc20 kV20 dc20 pm20 cd20 ct20 : Value} {od21 an21 : Option Addr} {sl21 : Array (Option Value)} {oc21 kV21 dc21 pm21 cd21 ct21 : Value} {od22 an22 : Option Addr} {sl22 : Array (Option Value)} {oc22 kV22 dc22 pm22 cd22 ct22 : Value} {od23 an23 : Option Addr} {sl23 : Array (Option Value)} {oc23 kV23 dc23 pm23 cd23 ct23 : Value} {od24 an24 : Option Addr} {sl24 : Array (Option Value)} {oc24 kV24 dc24 pm24 cd24 ct24 : Value} {od25 an25 : Option Addr} {sl25 : Array (Option Value)} {oc25 kV25 dc25 pm25 cd25 ct25 : Value} {od26 an26 : Option Addr} {sl26 : Array (Option Value)} {oc26 kV26 dc26 pm26 cd26 ct26 : Value} {od27 an27 : Option Addr} {sl27 : Array (Option Value)} {oc27 kV27 dc27 pm27 cd27 ct27 : Value} {od28 an28 : Option Addr} {sl28 : Array (Option Value)} {oc28 kV28 dc28 pm28 cd28 ct28 : Value} {od29 an29 : Option Addr} {sl29 : Array (Option Value)} {oc29 kV29 dc29 pm29 cd29 ct29 : Value} {od30 an30 : Option Addr} {sl30 : Array (Option Value)} {oc30 kV30 dc30 pm30 cd30 ct30 : Value} {od31 an31 : Option Addr} {sl31 : Array (Option Value)} {oc31 kV31 dc31 pm31 cd31 ct31 : Value} {od32 an32 : Option Addr} {sl32 : Array (Option Value)} {oc32 kV32 dc32 pm32 cd32 ct32 : Value} {od33 an33 : Option Addr} {sl33 : Array (Option Value)} {oc33 kV33 dc33 pm33 cd33 ct33 : Value} {od34 an34 : Option Addr} {sl34 : Array (Option Value)} {oc34 kV34 dc34 pm34 cd34 ct34 : Value} {od35 an35 : Option Addr} {sl35 : Array (Option Value)} {oc35 kV35 dc35 pm35 cd35 ct35 : Value} {od36 an36 : Option Addr} {sl36 : Array (Option Value)} {oc36 kV36 dc36 pm36 cd36 ct36 : Value} {od37 an37 : Option Addr} {sl37 : Array (Option Value)} {oc37 kV37 dc37 pm37 cd37 ct37 : Value} {od38 an38 : Option Addr} {sl38 : Array (Option Value)} {oc38 kV38 dc38 pm38 cd38 ct38 : Value}
    (aCY : PySem.W.nsIn K mainGlobals "NoText" = some (some (.ref CY))) (xlCY : K.lookup CY = some (excClassObj nmCY qCY CY NCY bsCY [.ref CS, .type "ValueError", .type "Exception", .type "BaseException", .type "object"] true snCY subCY abCY colCY ddCY m0CY m1CY m2CY m3CY m5CY "ValueError.__new__")) (saCY : PySem.W.findIn K (.ref CY) "__setattr__" = some (some (.builtin "object.__setattr__"))) (gaCY : PySem.W.findIn K (.ref CY) "__getattribute__" = some (some (.builtin "BaseException.__getattribute__"))) (ggCY : PySem.W.findIn K (.ref CY) "__getattr__" = some none) (kcCY : PySem.W.keepIn K (.ref CY) = true) (exCY : PySem.W.subIn K (.ref CY) (.type "BaseException") = some true) (tyCY : PySem.W.typeIn K (.ref CY) = some (.type "type")) (hdCY : PySem.W.hasDictIn K CY = true) (icCY : PySem.W.isClsIn K CY = true) (coCY : PySem.W.findIn K (.ref CY) "__class__" = some (some (.builtin "object.__class__"))) (moCY : PySem.W.mroIn K CY (.type "object") = some true) (n0CY : PySem.W.findIn K (.ref CY) "row" = some none) (aCN : PySem.W.nsIn K mainGlobals "NoDeed" = some (some (.ref CN))) (xlCN : K.lookup CN = some (excClassObj nmCN qCN CN NCN bsCN [.ref CS, .type "ValueError", .type "Exception", .type "BaseException", .type "object"] true snCN subCN abCN colCN ddCN m0CN m1CN m2CN m3CN m5CN "ValueError.__new__")) (saCN : PySem.W.findIn K (.ref CN) "__setattr__" = some (some (.builtin "object.__setattr__"))) (gaCN : PySem.W.findIn K (.ref CN) "__getattribute__" = some (some (.builtin "BaseException.__getattribute__"))) (ggCN : PySem.W.findIn K (.ref CN) "__getattr__" = some none) (kcCN : PySem.W.keepIn K (.ref CN) = true) (exCN : PySem.W.subIn K (.ref CN) (.type "BaseException") = some true) (tyCN : PySem.W.typeIn K (.ref CN) = some (.type "type")) (hdCN : PySem.W.hasDictIn K CN = true) (icCN : PySem.W.isClsIn K CN = true) (coCN : PySem.W.findIn K (.ref CN) "__class__" = some (some (.builtin "object.__class__"))) (moCN : PySem.W.mroIn K CN (.type "object") = some true) (n0CN : PySem.W.findIn K (.ref CN) "found" = some none) (a1 : PySem.W.findIn K (.ref CS) "__init__" = some (some (.ref f1))) (i1 : PySem.W.isFn K (.ref f1) = true) (l1 : K.lookup f1 = some ⟨oc1, od1, .func (PySem.W.fnOf "__init__" "StaffError.__init__" (defArgs sSE) (defBody sSE) (defScope sSE) .none kV1 dc1 pm1 an1 cd1 ct1), sl1⟩) (c1 : PySem.W.codeIn K cd1 "StaffError.__init__" = true) (k1 : PySem.W.keepIn K (.ref f1) = true) (a2 : PySem.W.findIn K (.ref CY) "__init__" = some (some (.ref f2))) (i2 : PySem.W.isFn K (.ref f2) = true) (l2 : K.lookup f2 = some ⟨oc2, od2, .func (PySem.W.fnOf "__init__" "NoText.__init__" (defArgs sNoText) (defBody sNoText) (defScope sNoText) .none kV2 dc2 pm2 an2 cd2 ct2), sl2⟩) (c2 : PySem.W.codeIn K cd2 "NoText.__init__" = true) (k2 : PySem.W.keepIn K (.ref f2) = true) (a3 : PySem.W.findIn K (.ref CN) "__init__" = some (some (.ref f3))) (i3 : PySem.W.isFn K (.ref f3) = true) (l3 : K.lookup f3 = some ⟨oc3, od3, .func (PySem.W.fnOf "__init__" "NoDeed.__init__" (defArgs sNoDeed) (defBody sNoDeed) (defScope sNoDeed) .none kV3 dc3 pm3 an3 cd3 ct3), sl3⟩) (c3 : PySem.W.codeIn K cd3 "NoDeed.__init__" = true) (k3 : PySem.W.keepIn K (.ref f3) = true) (a4 : PySem.W.nsIn K mainGlobals "is_whole" = some (some (.ref f4))) (l4 : K.lookup f4 = some ⟨oc4, od4, .func (PySem.W.fnOf "is_whole" "is_whole" (defArgs sWhole) (defBody sWhole) (defScope sWhole) .none kV4 dc4 pm4 an4 cd4 ct4), sl4⟩) (c4 : PySem.W.codeIn K cd4 "is_whole" = true) (k4 : PySem.W.keepIn K (.ref f4) = true) (a5 : PySem.W.nsIn K mainGlobals "is_name" = some (some (.ref f5))) (l5 : K.lookup f5 = some ⟨oc5, od5, .func (PySem.W.fnOf "is_name" "is_name" (defArgs sName) (defBody sName) (defScope sName) .none kV5 dc5 pm5 an5 (.ref co0) ct5), sl5⟩) (c5 : PySem.W.codeIn K (.ref co0) "is_name" = true) (k5 : PySem.W.keepIn K (.ref f5) = true) (a6 : PySem.W.nsIn K mainGlobals "_is_name" = some (some (.ref f6))) (l6 : K.lookup f6 = some ⟨oc6, od6, .func (PySem.W.fnOf "_is_name" "_is_name" (defArgs s_is_name) (defBody s_is_name) (defScope s_is_name) .none kV6 dc6 pm6 an6 cd6 ct6), sl6⟩) (c6 : PySem.W.codeIn K cd6 "_is_name" = true) (k6 : PySem.W.keepIn K (.ref f6) = true) (a7 : PySem.W.nsIn K mainGlobals "_is_number" = some (some (.ref f7))) (l7 : K.lookup f7 = some ⟨oc7, od7, .func (PySem.W.fnOf "_is_number" "_is_number" (defArgs s_is_number) (defBody s_is_number) (defScope s_is_number) .none kV7 dc7 pm7 an7 cd7 ct7), sl7⟩) (c7 : PySem.W.codeIn K cd7 "_is_number" = true) (k7 : PySem.W.keepIn K (.ref f7) = true) (a8 : PySem.W.nsIn K mainGlobals "_is_thing" = some (some (.ref f8))) (l8 : K.lookup f8 = some ⟨oc8, od8, .func (PySem.W.fnOf "_is_thing" "_is_thing" (defArgs s_is_thing) (defBody s_is_thing) (defScope s_is_thing) .none kV8 dc8 pm8 an8 cd8 ct8), sl8⟩) (c8 : PySem.W.codeIn K cd8 "_is_thing" = true) (k8 : PySem.W.keepIn K (.ref f8) = true) (a9 : PySem.W.nsIn K mainGlobals "_is_kind" = some (some (.ref f9))) (l9 : K.lookup f9 = some ⟨oc9, od9, .func (PySem.W.fnOf "_is_kind" "_is_kind" (defArgs s_is_kind) (defBody s_is_kind) (defScope s_is_kind) .none kV9 dc9 pm9 an9 cd9 ct9), sl9⟩) (c9 : PySem.W.codeIn K cd9 "_is_kind" = true) (k9 : PySem.W.keepIn K (.ref f9) = true) (a10 : PySem.W.nsIn K mainGlobals "_is_of" = some (some (.ref f10))) (l10 : K.lookup f10 = some ⟨oc10, od10, .func (PySem.W.fnOf "_is_of" "_is_of" (defArgs s_is_of) (defBody s_is_of) (defScope s_is_of) .none kV10 dc10 pm10 an10 cd10 ct10), sl10⟩) (c10 : PySem.W.codeIn K cd10 "_is_of" = true) (k10 : PySem.W.keepIn K (.ref f10) = true) (a11 : PySem.W.nsIn K mainGlobals "fits" = some (some (.ref f11))) (l11 : K.lookup f11 = some ⟨oc11, od11, .func (PySem.W.fnOf "fits" "fits" (defArgs s_fits) (defBody s_fits) (defScope s_fits) .none kV11 dc11 pm11 an11 (.ref co2) ct11), sl11⟩) (c11 : PySem.W.codeIn K (.ref co2) "fits" = true) (k11 : PySem.W.keepIn K (.ref f11) = true) (a12 : PySem.W.nsIn K mainGlobals "write_row" = some (some (.ref f12))) (l12 : K.lookup f12 = some ⟨oc12, od12, .func (PySem.W.fnOf "write_row" "write_row" (defArgs s_write_row) (defBody s_write_row) (defScope s_write_row) .none kV12 dc12 pm12 an12 cd12 ct12), sl12⟩) (c12 : PySem.W.codeIn K cd12 "write_row" = true) (k12 : PySem.W.keepIn K (.ref f12) = true) (a13 : PySem.W.nsIn K mainGlobals "_part_of" = some (some (.ref f13))) (l13 : K.lookup f13 = some ⟨oc13, od13, .func (PySem.W.fnOf "_part_of" "_part_of" (defArgs s_part_of) (defBody s_part_of) (defScope s_part_of) .none kV13 dc13 pm13 an13 (.ref co1) ct13), sl13⟩) (c13 : PySem.W.codeIn K (.ref co1) "_part_of" = true) (k13 : PySem.W.keepIn K (.ref f13) = true) (a14 : PySem.W.nsIn K mainGlobals "read_row" = some (some (.ref f14))) (l14 : K.lookup f14 = some ⟨oc14, od14, .func (PySem.W.fnOf "read_row" "read_row" (defArgs s_read_row) (defBody s_read_row) (defScope s_read_row) .none kV14 dc14 pm14 an14 cd14 ct14), sl14⟩) (c14 : PySem.W.codeIn K cd14 "read_row" = true) (k14 : PySem.W.keepIn K (.ref f14) = true) (a15 : PySem.W.nsIn K mainGlobals "_is_deed" = some (some (.ref f15))) (l15 : K.lookup f15 = some ⟨oc15, od15, .func (PySem.W.fnOf "_is_deed" "_is_deed" (defArgs s_is_deed) (defBody s_is_deed) (defScope s_is_deed) .none kV15 dc15 pm15 an15 cd15 ct15), sl15⟩) (c15 : PySem.W.codeIn K cd15 "_is_deed" = true) (k15 : PySem.W.keepIn K (.ref f15) = true) (a16 : PySem.W.nsIn K mainGlobals "deed_text" = some (some (.ref f16))) (l16 : K.lookup f16 = some ⟨oc16, od16, .func (PySem.W.fnOf "deed_text" "deed_text" (defArgs s_deed_text) (defBody s_deed_text) (defScope s_deed_text) .none kV16 dc16 pm16 an16 cd16 ct16), sl16⟩) (c16 : PySem.W.codeIn K cd16 "deed_text" = true) (k16 : PySem.W.keepIn K (.ref f16) = true) (a17 : PySem.W.nsIn K mainGlobals "deed_of_row" = some (some (.ref f17))) (l17 : K.lookup f17 = some ⟨oc17, od17, .func (PySem.W.fnOf "deed_of_row" "deed_of_row" (defArgs s_deed_of_row) (defBody s_deed_of_row) (defScope s_deed_of_row) .none kV17 dc17 pm17 an17 cd17 ct17), sl17⟩) (c17 : PySem.W.codeIn K cd17 "deed_of_row" = true) (k17 : PySem.W.keepIn K (.ref f17) = true) (a18 : PySem.W.nsIn K mainGlobals "deed_in" = some (some (.ref f18))) (l18 : K.lookup f18 = some ⟨oc18, od18, .func (PySem.W.fnOf "deed_in" "deed_in" (defArgs s_deed_in) (defBody s_deed_in) (defScope s_deed_in) .none kV18 dc18 pm18 an18 cd18 ct18), sl18⟩) (c18 : PySem.W.codeIn K cd18 "deed_in" = true) (k18 : PySem.W.keepIn K (.ref f18) = true) (a19 : PySem.W.nsIn K mainGlobals "_law_cell" = some (some (.ref f19))) (l19 : K.lookup f19 = some ⟨oc19, od19, .func (PySem.W.fnOf "_law_cell" "_law_cell" (defArgs sCell) (defBody sCell) (defScope sCell) .none kV19 dc19 pm19 an19 cd19 ct19), sl19⟩) (c19 : PySem.W.codeIn K cd19 "_law_cell" = true) (k19 : PySem.W.keepIn K (.ref f19) = true) (a20 : PySem.W.nsIn K mainGlobals "_law_box" = some (some (.ref f20))) (l20 : K.lookup f20 = some ⟨oc20, od20, .func (PySem.W.fnOf "_law_box" "_law_box" (defArgs sBox) (defBody sBox) (defScope sBox) .none kV20 dc20 pm20 an20 cd20 ct20), sl20⟩) (c20 : PySem.W.codeIn K cd20 "_law_box" = true) (k20 : PySem.W.keepIn K (.ref f20) = true) (a21 : PySem.W.nsIn K mainGlobals "_law_take" = some (some (.ref f21))) (l21 : K.lookup f21 = some ⟨oc21, od21, .func (PySem.W.fnOf "_law_take" "_law_take" (defArgs sTake) (defBody sTake) (defScope sTake) .none kV21 dc21 pm21 an21 cd21 ct21), sl21⟩) (c21 : PySem.W.codeIn K cd21 "_law_take" = true) (k21 : PySem.W.keepIn K (.ref f21) = true) (a22 : PySem.W.nsIn K mainGlobals "_law_name" = some (some (.ref f22))) (l22 : K.lookup f22 = some ⟨oc22, od22, .func (PySem.W.fnOf "_law_name" "_law_name" (defArgs s_law_name) (defBody s_law_name) (defScope s_law_name) .none kV22 dc22 pm22 an22 cd22 ct22), sl22⟩) (c22 : PySem.W.codeIn K cd22 "_law_name" = true) (k22 : PySem.W.keepIn K (.ref f22) = true) (a23 : PySem.W.nsIn K mainGlobals "_law_number" = some (some (.ref f23))) (l23 : K.lookup f23 = some ⟨oc23, od23, .func (PySem.W.fnOf "_law_number" "_law_number" (defArgs s_law_number) (defBody s_law_number) (defScope s_law_number) .none kV23 dc23 pm23 an23 cd23 ct23), sl23⟩) (c23 : PySem.W.codeIn K cd23 "_law_number" = true) (k23 : PySem.W.keepIn K (.ref f23) = true) (a24 : PySem.W.nsIn K mainGlobals "_law_forms" = some (some (.ref f24))) (l24 : K.lookup f24 = some ⟨oc24, od24, .func (PySem.W.fnOf "_law_forms" "_law_forms" (defArgs s_law_forms) (defBody s_law_forms) (defScope s_law_forms) .none kV24 dc24 pm24 an24 cd24 ct24), sl24⟩) (c24 : PySem.W.codeIn K cd24 "_law_forms" = true) (k24 : PySem.W.keepIn K (.ref f24) = true) (a25 : PySem.W.nsIn K mainGlobals "_law_part" = some (some (.ref f25))) (l25 : K.lookup f25 = some ⟨oc25, od25, .func (PySem.W.fnOf "_law_part" "_law_part" (defArgs s_law_part) (defBody s_law_part) (defScope s_law_part) .none kV25 dc25 pm25 an25 cd25 ct25), sl25⟩) (c25 : PySem.W.codeIn K cd25 "_law_part" = true) (k25 : PySem.W.keepIn K (.ref f25) = true) (a26 : PySem.W.nsIn K mainGlobals "_law_deed" = some (some (.ref f26))) (l26 : K.lookup f26 = some ⟨oc26, od26, .func (PySem.W.fnOf "_law_deed" "_law_deed" (defArgs s_law_deed) (defBody s_law_deed) (defScope s_law_deed) .none kV26 dc26 pm26 an26 cd26 ct26), sl26⟩) (c26 : PySem.W.codeIn K cd26 "_law_deed" = true) (k26 : PySem.W.keepIn K (.ref f26) = true) (a27 : PySem.W.nsIn K mainGlobals "_law_is_name" = some (some (.ref f27))) (l27 : K.lookup f27 = some ⟨oc27, od27, .func (PySem.W.fnOf "_law_is_name" "_law_is_name" (defArgs s_law_is_name) (defBody s_law_is_name) (defScope s_law_is_name) .none kV27 dc27 pm27 an27 cd27 ct27), sl27⟩) (c27 : PySem.W.codeIn K cd27 "_law_is_name" = true) (k27 : PySem.W.keepIn K (.ref f27) = true) (a28 : PySem.W.nsIn K mainGlobals "_law_number_read" = some (some (.ref f28))) (l28 : K.lookup f28 = some ⟨oc28, od28, .func (PySem.W.fnOf "_law_number_read" "_law_number_read" (defArgs s_law_number_read) (defBody s_law_number_read) (defScope s_law_number_read) .none kV28 dc28 pm28 an28 cd28 ct28), sl28⟩) (c28 : PySem.W.codeIn K cd28 "_law_number_read" = true) (k28 : PySem.W.keepIn K (.ref f28) = true) (a29 : PySem.W.nsIn K mainGlobals "_law_is_part" = some (some (.ref f29))) (l29 : K.lookup f29 = some ⟨oc29, od29, .func (PySem.W.fnOf "_law_is_part" "_law_is_part" (defArgs s_law_is_part) (defBody s_law_is_part) (defScope s_law_is_part) .none kV29 dc29 pm29 an29 cd29 ct29), sl29⟩) (c29 : PySem.W.codeIn K cd29 "_law_is_part" = true) (k29 : PySem.W.keepIn K (.ref f29) = true) (a30 : PySem.W.nsIn K mainGlobals "_law_deed_read" = some (some (.ref f30))) (l30 : K.lookup f30 = some ⟨oc30, od30, .func (PySem.W.fnOf "_law_deed_read" "_law_deed_read" (defArgs s_law_deed_read) (defBody s_law_deed_read) (defScope s_law_deed_read) .none kV30 dc30 pm30 an30 cd30 ct30), sl30⟩) (c30 : PySem.W.codeIn K cd30 "_law_deed_read" = true) (k30 : PySem.W.keepIn K (.ref f30) = true) (a31 : PySem.W.nsIn K mainGlobals "_law_row_due" = some (some (.ref f31))) (l31 : K.lookup f31 = some ⟨oc31, od31, .func (PySem.W.fnOf "_law_row_due" "_law_row_due" (defArgs s_law_row_due) (defBody s_law_row_due) (defScope s_law_row_due) .none kV31 dc31 pm31 an31 cd31 ct31), sl31⟩) (c31 : PySem.W.codeIn K cd31 "_law_row_due" = true) (k31 : PySem.W.keepIn K (.ref f31) = true) (a32 : PySem.W.nsIn K mainGlobals "_law_odd" = some (some (.ref f32))) (l32 : K.lookup f32 = some ⟨oc32, od32, .func (PySem.W.fnOf "_law_odd" "_law_odd" (defArgs s_law_odd) (defBody s_law_odd) (defScope s_law_odd) .none kV32 dc32 pm32 an32 cd32 ct32), sl32⟩) (c32 : PySem.W.codeIn K cd32 "_law_odd" = true) (k32 : PySem.W.keepIn K (.ref f32) = true) (a33 : PySem.W.nsIn K mainGlobals "_law_bad_deed" = some (some (.ref f33))) (l33 : K.lookup f33 = some ⟨oc33, od33, .func (PySem.W.fnOf "_law_bad_deed" "_law_bad_deed" (defArgs s_law_bad_deed) (defBody s_law_bad_deed) (defScope s_law_bad_deed) .none kV33 dc33 pm33 an33 cd33 ct33), sl33⟩) (c33 : PySem.W.codeIn K cd33 "_law_bad_deed" = true) (k33 : PySem.W.keepIn K (.ref f33) = true) (a34 : PySem.W.nsIn K mainGlobals "_law_bad_word" = some (some (.ref f34))) (l34 : K.lookup f34 = some ⟨oc34, od34, .func (PySem.W.fnOf "_law_bad_word" "_law_bad_word" (defArgs s_law_bad_word) (defBody s_law_bad_word) (defScope s_law_bad_word) .none kV34 dc34 pm34 an34 cd34 ct34), sl34⟩) (c34 : PySem.W.codeIn K cd34 "_law_bad_word" = true) (k34 : PySem.W.keepIn K (.ref f34) = true) (a35 : PySem.W.nsIn K mainGlobals "_law_bad_row" = some (some (.ref f35))) (l35 : K.lookup f35 = some ⟨oc35, od35, .func (PySem.W.fnOf "_law_bad_row" "_law_bad_row" (defArgs s_law_bad_row) (defBody s_law_bad_row) (defScope s_law_bad_row) .none kV35 dc35 pm35 an35 cd35 ct35), sl35⟩) (c35 : PySem.W.codeIn K cd35 "_law_bad_row" = true) (k35 : PySem.W.keepIn K (.ref f35) = true) (a36 : PySem.W.nsIn K mainGlobals "_law_deed_right" = some (some (.ref f36))) (l36 : K.lookup f36 = some ⟨oc36, od36, .func (PySem.W.fnOf "_law_deed_right" "_law_deed_right" (defArgs s_law_deed_right) (defBody s_law_deed_right) (defScope s_law_deed_right) .none kV36 dc36 pm36 an36 cd36 ct36), sl36⟩) (c36 : PySem.W.codeIn K cd36 "_law_deed_right" = true) (k36 : PySem.W.keepIn K (.ref f36) = true) (a37 : PySem.W.nsIn K mainGlobals "_law_read_right" = some (some (.ref f37))) (l37 : K.lookup f37 = some ⟨oc37, od37, .func (PySem.W.fnOf "_law_read_right" "_law_read_right" (defArgs s_law_read_right) (defBody s_law_read_right) (defScope s_law_read_right) .none kV37 dc37 pm37 an37 cd37 ct37), sl37⟩) (c37 : PySem.W.codeIn K cd37 "_law_read_right" = true) (k37 : PySem.W.keepIn K (.ref f37) = true) (a38 : PySem.W.nsIn K mainGlobals "law" = some (some (.ref f38))) (l38 : K.lookup f38 = some ⟨oc38, od38, .func (PySem.W.fnOf "law" "law" (defArgs s_law) (defBody s_law) (defScope s_law) .none kV38 dc38 pm38 an38 cd38 ct38), sl38⟩) (c38 : PySem.W.codeIn K cd38 "law" = true) (k38 : PySem.W.keepIn K (.ref f38) = true) (lco0 : K.lookup co0 = some ⟨eo0, eoD0, .fields us0, usl0⟩) (uel0 : us0[11]? = some (.ref tb0)) (ntb0 : K.lookup tb0 = none) (hrec0 : ((PyProof.Rows.recsOf q).any fun r => r.name == "is_name") = true) (lco1 : K.lookup co1 = some ⟨eo1, eoD1, .fields us1, usl1⟩) (uel1 : us1[11]? = some (.ref tb1)) (ntb1 : K.lookup tb1 = none) (hrec1 : ((PyProof.Rows.recsOf q).any fun r => r.name == "_part_of") = true) (lco2 : K.lookup co2 = some ⟨eo2, eoD2, .fields us2, usl2⟩) (uel2 : us2[11]? = some (.ref tb2)) (ntb2 : K.lookup tb2 = none) (hrec2 : ((PyProof.Rows.recsOf q).any fun r => r.name == "fits") = true) (z0 : PySem.W.nsIn K mainGlobals "isinstance" = some none) (z1 : PySem.W.nsIn K mainGlobals "int" = some none) (z2 : PySem.W.nsIn K mainGlobals "bool" = some none) (z3 : PySem.W.nsIn K mainGlobals "str" = some none) (z4 : PySem.W.nsIn K mainGlobals "len" = some none) (z5 : PySem.W.nsIn K mainGlobals "all" = some none) (z6 : PySem.W.nsIn K mainGlobals "max" = some none) (z7 : PySem.W.nsIn K mainGlobals "min" = some none) (z8 : PySem.W.nsIn K mainGlobals "range" = some none) (z9 : PySem.W.nsIn K mainGlobals "repr" = some none) (z10 : PySem.W.nsIn K mainGlobals "list" = some none) (z11 : PySem.W.nsIn K mainGlobals "tuple" = some none) (z12 : PySem.W.nsIn K mainGlobals "enumerate" = some none) (z13 : PySem.W.nsIn K mainGlobals "sorted" = some none) (z14 : PySem.W.nsIn K mainGlobals "zip" = some none) (z15 : PySem.W.nsIn K mainGlobals "ValueError" = some none) (gTH : PySem.W.nsIn K mainGlobals "THINGS" = some (some (.ref aTH))) (lTH : K.lookup aTH = some oTH) (cTH : oTH.cls = .type "tuple") (hTH : oTH.dict = none) (dTH : oTH.data = .seq #[.str zt0 kt0, .str zt1 kt1, .str zt2 kt2, .str zt3 kt3] nTH) (zTH : [zt0, zt1, zt2, zt3] = F4.things) (gKI : PySem.W.nsIn K mainGlobals "KINDS" = some (some (.ref aKI))) (lKI : K.lookup aKI = some oKI) (cKI : oKI.cls = .type "tuple") (hKI : oKI.dict = none) (dKI : oKI.data = .seq #[.str zk0 kk0, .str zk1 kk1, .str zk2 kk2] nKI) (zKI : [zk0, zk1, zk2] = F4.kinds) (gMO : PySem.W.nsIn K mainGlobals "MOST_NUMBER" = some (some (.int 999999 tM))) (gSO : PySem.W.nsIn K mainGlobals "SORTS" = some (some (.ref aSO))) (lSO : K.lookup aSO = some ⟨.type "dict", none, .dict esO nSO, #[]⟩) (tSO : PySem.W.KeysLit w.params esO.toList) (wSO : (aSO == sysModules) = false) (gFO : PySem.W.nsIn K mainGlobals "FORMS" = some (some (.ref aFO))) (lFO : K.lookup aFO = some ⟨.type "dict", none, .dict efO nFO, #[]⟩) (tFO : PySem.W.KeysLit w.params efO.toList) (wFO : (aFO == sysModules) = false) (no0 : PySem.W.nsIn K aSO "leave" = some none) (no1 : PySem.W.nsIn K aSO "to" = some none) (no2 : PySem.W.nsIn K aSO "by" = some none) (no3 : PySem.W.nsIn K aSO "come" = some none) (no4 : PySem.W.nsIn K aSO "lock" = some none) (no5 : PySem.W.nsIn K aSO "for" = some none) (no6 : PySem.W.nsIn K aSO "pilot" = some none) (no7 : PySem.W.nsIn K aSO "unlock" = some none) (no8 : PySem.W.nsIn K aSO "give" = some none) (no9 : PySem.W.nsIn K aSO "take" = some none) (no10 : PySem.W.nsIn K aSO "box" = some none) (no11 : PySem.W.nsIn K aSO "walk" = some none) (no12 : PySem.W.nsIn K aSO "help" = some none) (no13 : PySem.W.nsIn K aSO "bring" = some none) (no14 : PySem.W.nsIn K aSO "again" = some none) (no15 : PySem.W.nsIn K aSO "get" = some none) (no16 : PySem.W.nsIn K aSO "lose" = some none) (ys0 : PySem.W.nsIn K aSO "NAME" = some (some (.ref f6))) (ys1 : PySem.W.nsIn K aSO "NUMBER" = some (some (.ref f7))) (ys2 : PySem.W.nsIn K aSO "THING" = some (some (.ref f8))) (ys3 : PySem.W.nsIn K aSO "KIND" = some (some (.ref f9))) (fo0 : PySem.W.nsIn K aFO "leave" = some (some (.str zf0 kf0))) (fo1 : PySem.W.nsIn K aFO "come" = some (some (.str zf1 kf1))) (fo2 : PySem.W.nsIn K aFO "lock" = some (some (.str zf2 kf2))) (fo3 : PySem.W.nsIn K aFO "pilot" = some (some (.str zf3 kf3))) (fo4 : PySem.W.nsIn K aFO "unlock" = some (some (.str zf4 kf4))) (fo5 : PySem.W.nsIn K aFO "give" = some (some (.str zf5 kf5))) (fo6 : PySem.W.nsIn K aFO "take" = some (some (.str zf6 kf6))) (fo7 : PySem.W.nsIn K aFO "box" = some (some (.str zf7 kf7))) (fo8 : PySem.W.nsIn K aFO "walk" = some (some (.str zf8 kf8))) (fo9 : PySem.W.nsIn K aFO "help" = some (some (.str zf9 kf9))) (fo10 : PySem.W.nsIn K aFO "bring" = some (some (.str zf10 kf10))) (fo11 : PySem.W.nsIn K aFO "again" = some (some (.str zf11 kf11))) (fo12 : PySem.W.nsIn K aFO "get" = some (some (.str zf12 kf12))) (fo13 : PySem.W.nsIn K aFO "lose" = some (some (.str zf13 kf13))) (fe0 : zf0 = Str.ofString "leave NAME to NAME by THING") (fe1 : zf1 = Str.ofString "come NAME") (fe2 : zf2 = Str.ofString "lock NAME NUMBER for NAME") (fe3 : zf3 = Str.ofString "pilot NAME NUMBER") (fe4 : zf4 = Str.ofString "unlock NAME NUMBER") (fe5 : zf5 = Str.ofString "give NAME NUMBER") (fe6 : zf6 = Str.ofString "take NAME NUMBER") (fe7 : zf7 = Str.ofString "box NAME NUMBER") (fe8 : zf8 = Str.ofString "walk NAME to NAME") (fe9 : zf9 = Str.ofString "help NAME NAME") (fe10 : zf10 = Str.ofString "bring NAME to NAME") (fe11 : zf11 = Str.ofString "again NAME KIND NUMBER") (fe12 : zf12 = Str.ofString "get NUMBER") (fe13 : zf13 = Str.ofString "lose NUMBER") (kFO : efO.toList.map F4.keyN = F4.formNames) (cg : PySem.W.specialIn K (.builtin "object.__class__") "__get__" = some (some (.builtin "getset_descriptor.__get__"))) (ct : PySem.W.takesIn K (.builtin "object.__class__") = some true) (aCS : PySem.W.nsIn K mainGlobals "StaffError" = some (some (.ref CS))) (gaCS : PySem.W.specialIn K (.ref CS) "__getattribute__" = some (some (.builtin "type.__getattribute__"))) (rdCS : PySem.W.readsIn K CS (.type "type") = true) (atCS : PySem.W.findCls K (.ref CS) (.type "type") "__init__" = some (.val (.ref f1))) (vi : PySem.W.findCls K (.type "ValueError") (.type "type") "__init__" = some (.val (.builtin "ValueError.__init__"))) (smN : K.lookup sysModules = none) :
    GLawM l w K CX0 11 63 "_law_script" mg fa h := by
  have e := hfa.symm.trans (PySem.W.mg_of X G a38)
  cases e
  have T : Txt mg := ⟨PySem.W.mg_none_of X G z0, PySem.W.mg_none_of X G z1, PySem.W.mg_none_of X G z2, PySem.W.mg_none_of X G z3, PySem.W.mg_none_of X G z4, PySem.W.mg_none_of X G z5, PySem.W.mg_none_of X G z6, PySem.W.mg_none_of X G z7, PySem.W.mg_none_of X G z8, PySem.W.mg_none_of X G z9, PySem.W.mg_none_of X G z10, PySem.W.mg_none_of X G z11, PySem.W.mg_none_of X G z12, PySem.W.mg_none_of X G z13, PySem.W.mg_none_of X G z14⟩
  have seCY : PySem.W.subIn K (.ref CY) (.ref CY) = some true := My.sub_self (by unfold PySem.W.clsIn; rw [xlCY] <;> rfl) rfl
  have seCN : PySem.W.subIn K (.ref CN) (.ref CN) = some true := My.sub_self (by unfold PySem.W.clsIn; rw [xlCN] <;> rfl) rfl
  have F1 := fun_mk (st := sSE) l1 c1 k1
  have b1 := F1.binds (ps := ["self", "text"]) fun _ _ _ _ _ _ us hl => match us, hl with | [_, _], _ => rfl
  have F2 := fun_mk (st := sNoText) l2 c2 k2
  have b2 := F2.binds (ps := ["self", "row"]) fun _ _ _ _ _ _ us hl => match us, hl with | [_, _], _ => rfl
  have F3 := fun_mk (st := sNoDeed) l3 c3 k3
  have b3 := F3.binds (ps := ["self", "found"]) fun _ _ _ _ _ _ us hl => match us, hl with | [_, _], _ => rfl
  have F4 := fun_mk (st := sWhole) l4 c4 k4
  have b4 := F4.binds (ps := ["thing", "low", "high"]) fun _ _ _ _ _ _ us hl => match us, hl with | [_, _, _], _ => rfl
  have F5 := fun_mk (st := sName) l5 c5 k5
  have b5 := F5.binds (ps := ["thing"]) fun _ _ _ _ _ _ us hl => match us, hl with | [_], _ => rfl
  have F6 := fun_mk (st := s_is_name) l6 c6 k6
  have b6 := F6.binds (ps := ["thing"]) fun _ _ _ _ _ _ us hl => match us, hl with | [_], _ => rfl
  have F7 := fun_mk (st := s_is_number) l7 c7 k7
  have b7 := F7.binds (ps := ["thing"]) fun _ _ _ _ _ _ us hl => match us, hl with | [_], _ => rfl
  have F8 := fun_mk (st := s_is_thing) l8 c8 k8
  have b8 := F8.binds (ps := ["thing"]) fun _ _ _ _ _ _ us hl => match us, hl with | [_], _ => rfl
  have F9 := fun_mk (st := s_is_kind) l9 c9 k9
  have b9 := F9.binds (ps := ["thing"]) fun _ _ _ _ _ _ us hl => match us, hl with | [_], _ => rfl
  have F10 := fun_mk (st := s_is_of) l10 c10 k10
  have b10 := F10.binds (ps := ["sort", "part"]) fun _ _ _ _ _ _ us hl => match us, hl with | [_, _], _ => rfl
  have F11 := fun_mk (st := s_fits) l11 c11 k11
  have b11 := F11.binds (ps := ["form", "parts"]) fun _ _ _ _ _ _ us hl => match us, hl with | [_, _], _ => rfl
  have F12 := fun_mk (st := s_write_row) l12 c12 k12
  have b12 := F12.binds (ps := ["form", "parts"]) fun _ _ _ _ _ _ us hl => match us, hl with | [_, _], _ => rfl
  have F13 := fun_mk (st := s_part_of) l13 c13 k13
  have b13 := F13.binds (ps := ["word"]) fun _ _ _ _ _ _ us hl => match us, hl with | [_], _ => rfl
  have F14 := fun_mk (st := s_read_row) l14 c14 k14
  have b14 := F14.binds (ps := ["form", "row"]) fun _ _ _ _ _ _ us hl => match us, hl with | [_, _], _ => rfl
  have F15 := fun_mk (st := s_is_deed) l15 c15 k15
  have b15 := F15.binds (ps := ["thing"]) fun _ _ _ _ _ _ us hl => match us, hl with | [_], _ => rfl
  have F16 := fun_mk (st := s_deed_text) l16 c16 k16
  have b16 := F16.binds (ps := ["deed"]) fun _ _ _ _ _ _ us hl => match us, hl with | [_], _ => rfl
  have F17 := fun_mk (st := s_deed_of_row) l17 c17 k17
  have b17 := F17.binds (ps := ["row"]) fun _ _ _ _ _ _ us hl => match us, hl with | [_], _ => rfl
  have F18 := fun_mk (st := s_deed_in) l18 c18 k18
  have b18 := F18.binds (ps := ["text"]) fun _ _ _ _ _ _ us hl => match us, hl with | [_], _ => rfl
  have F19 := fun_mk (st := sCell) l19 c19 k19
  have b19 := F19.binds (ps := ["_law_script", "_law_k"]) fun _ _ _ _ _ _ us hl => match us, hl with | [_, _], _ => rfl
  have F20 := fun_mk (st := sBox) l20 c20 k20
  have b20 := F20.binds (ps := ["_law_cell_here"]) fun _ _ _ _ _ _ us hl => match us, hl with | [_], _ => rfl
  have F21 := fun_mk (st := sTake) l21 c21 k21
  have b21 := F21.binds (ps := ["_law_box_here", "_law_many"]) fun _ _ _ _ _ _ us hl => match us, hl with | [_, _], _ => rfl
  have F22 := fun_mk (st := s_law_name) l22 c22 k22
  have b22 := F22.binds (ps := ["_law_box_here"]) fun _ _ _ _ _ _ us hl => match us, hl with | [_], _ => rfl
  have F23 := fun_mk (st := s_law_number) l23 c23 k23
  have b23 := F23.binds (ps := ["_law_box_here"]) fun _ _ _ _ _ _ us hl => match us, hl with | [_], _ => rfl
  have F24 := fun_mk (st := s_law_forms) l24 c24 k24
  have b24 := F24.binds (ps := []) fun _ _ _ _ _ _ us hl => match us, hl with | [], _ => rfl
  have F25 := fun_mk (st := s_law_part) l25 c25 k25
  have b25 := F25.binds (ps := ["_law_box_here", "_law_sign"]) fun _ _ _ _ _ _ us hl => match us, hl with | [_, _], _ => rfl
  have F26 := fun_mk (st := s_law_deed) l26 c26 k26
  have b26 := F26.binds (ps := ["_law_box_here"]) fun _ _ _ _ _ _ us hl => match us, hl with | [_], _ => rfl
  have F27 := fun_mk (st := s_law_is_name) l27 c27 k27
  have b27 := F27.binds (ps := ["_law_thing"]) fun _ _ _ _ _ _ us hl => match us, hl with | [_], _ => rfl
  have F28 := fun_mk (st := s_law_number_read) l28 c28 k28
  have b28 := F28.binds (ps := ["_law_word"]) fun _ _ _ _ _ _ us hl => match us, hl with | [_], _ => rfl
  have F29 := fun_mk (st := s_law_is_part) l29 c29 k29
  have b29 := F29.binds (ps := ["_law_sign", "_law_thing"]) fun _ _ _ _ _ _ us hl => match us, hl with | [_, _], _ => rfl
  have F30 := fun_mk (st := s_law_deed_read) l30 c30 k30
  have b30 := F30.binds (ps := ["_law_row"]) fun _ _ _ _ _ _ us hl => match us, hl with | [_], _ => rfl
  have F31 := fun_mk (st := s_law_row_due) l31 c31 k31
  have b31 := F31.binds (ps := ["_law_deed_here"]) fun _ _ _ _ _ _ us hl => match us, hl with | [_], _ => rfl
  have F32 := fun_mk (st := s_law_odd) l32 c32 k32
  have b32 := F32.binds (ps := ["_law_box_here"]) fun _ _ _ _ _ _ us hl => match us, hl with | [_], _ => rfl
  have F33 := fun_mk (st := s_law_bad_deed) l33 c33 k33
  have b33 := F33.binds (ps := ["_law_box_here", "_law_deed_here"]) fun _ _ _ _ _ _ us hl => match us, hl with | [_, _], _ => rfl
  have F34 := fun_mk (st := s_law_bad_word) l34 c34 k34
  have b34 := F34.binds (ps := ["_law_box_here", "_law_word"]) fun _ _ _ _ _ _ us hl => match us, hl with | [_, _], _ => rfl
  have F35 := fun_mk (st := s_law_bad_row) l35 c35 k35
  have b35 := F35.binds (ps := ["_law_box_here", "_law_row"]) fun _ _ _ _ _ _ us hl => match us, hl with | [_, _], _ => rfl
  have F36 := fun_mk (st := s_law_deed_right) l36 c36 k36
  have b36 := F36.binds (ps := ["_law_thing"]) fun _ _ _ _ _ _ us hl => match us, hl with | [_], _ => rfl
  have F37 := fun_mk (st := s_law_read_right) l37 c37 k37
  have b37 := F37.binds (ps := ["_law_row"]) fun _ _ _ _ _ _ us hl => match us, hl with | [_], _ => rfl
  have F38 := fun_mk (st := s_law) l38 c38 k38
  have ES : SeT K mg CS f1 _ sSE := ⟨PySem.W.mg_none_of X G z15, vi, PySem.W.mg_of X G aCS, ⟨gaCS, rdCS, atCS⟩, k1, F1, b1⟩
  have ECY : ExR K mg "NoText" "NoText.__init__" sNoText CY f2 _ := ⟨PySem.W.mg_of X G aCY, F2, b2, ⟨⟨nmCY, qCY, NCY, bsCY, _, snCY, subCY, abCY, colCY, ddCY, m0CY, m1CY, m2CY, m3CY, m5CY, xlCY, rfl⟩, saCY, exCY, tyCY, kcCY⟩, a2, (beq_iff_eq.mp i2), n0CY, PySem.W.exm_ref exCY hdCY tyCY seCY, ⟨gaCY, ggCY, exCY, hdCY⟩, ⟨icCY, gaCY, ggCY, exCY, coCY, cg, ct, moCY⟩⟩
  have ECN : ExC K mg "NoDeed" "NoDeed.__init__" sNoDeed CN f3 _ := ⟨PySem.W.mg_of X G aCN, F3, b3, ⟨⟨nmCN, qCN, NCN, bsCN, _, snCN, subCN, abCN, colCN, ddCN, m0CN, m1CN, m2CN, m3CN, m5CN, xlCN, rfl⟩, saCN, exCN, tyCN, kcCN⟩, a3, (beq_iff_eq.mp i3), n0CN, PySem.W.exm_ref exCN hdCN tyCN seCN, ⟨gaCN, ggCN, exCN, hdCN⟩, ⟨icCN, gaCN, ggCN, exCN, coCN, cg, ct, moCN⟩⟩
  have CTH : Cst K aTH things := cst4 lTH cTH hTH dTH zTH
  have CKI : Cst K aKI kinds := cst3 lKI cKI hKI dKI zKI
  have DSO : KDict K w aSO esO nSO := ⟨lSO, tSO, wSO⟩
  have DFO : KDict K w aFO efO nFO := ⟨lFO, tFO, wFO⟩
  have SD : SoD K w aSO (fsOf f6 f7 f8 f9) esO nSO := sod_mk DSO no0 no1 no2 no3 no4 no5 no6 no7 no8 no9 no10 no11 no12 no13 no14 no15 no16 ys0 ys1 ys2 ys3
  have FD : FoD K w aFO efO nFO := fod_mk DFO fo0 fo1 fo2 fo3 fo4 fo5 fo6 fo7 fo8 fo9 fo10 fo11 fo12 fo13 fe0 fe1 fe2 fe3 fe4 fe5 fe6 fe7 fe8 fe9 fe10 fe11 fe12 fe13 kFO
  obtain ⟨ch0, tabh0⟩ := em "is_name" f5 co0 tb0 _ _ eo0 eoD0 us0 usl0 hrec0 a5 l5 rfl rfl lco0 uel0
  obtain ⟨ch1, tabh1⟩ := em "_part_of" f13 co1 tb1 _ _ eo1 eoD1 us1 usl1 hrec1 a13 l13 rfl rfl lco1 uel1
  obtain ⟨ch2, tabh2⟩ := em "fits" f11 co2 tb2 _ _ eo2 eoD2 us2 usl2 hrec2 a11 l11 rfl rfl lco2 uel2
  refine ⟨PySem.W.fnOf "law" "law" (defArgs s_law) (defBody s_law) (defScope s_law) .none kV38 dc38 pm38 an38 cd38 ct38, [(co0, tb0), (co1, tb1), (co2, tb2)], spLaw K [tb0, tb1, tb2], smN, ?_, ?_, ?_, fun s v => .of_eq rfl, ?_, ?_⟩
  · intro p hp
    rcases List.mem_cons.mp hp with e0 | hp
    · rw [e0]; exact tabh0
    rcases List.mem_cons.mp hp with e0 | hp
    · rw [e0]; exact tabh1
    rcases List.mem_cons.mp hp with e0 | hp
    · rw [e0]; exact tabh2
    cases hp
  · intro p hp
    rcases List.mem_cons.mp hp with e0 | hp
    · rw [e0]; exact ntb0
    rcases List.mem_cons.mp hp with e0 | hp
    · rw [e0]; exact ntb1
    rcases List.mem_cons.mp hp with e0 | hp
    · rw [e0]; exact ntb2
    cases hp
  · intro p hp
    rcases List.mem_cons.mp hp with e0 | hp
    · rw [e0]; exact ch0
    rcases List.mem_cons.mp hp with e0 | hp
    · rw [e0]; exact ch1
    rcases List.mem_cons.mp hp with e0 | hp
    · rw [e0]; exact ch2
    cases hp
  · intro H a ns hn sm hT hS
    refine ⟨a, ns, rfl, hS, hn, ?_, sm, fun _ => rfl⟩
    intro p hp
    rcases List.mem_cons.mp hp with e0 | hp
    · rw [e0]; exact ⟨#[], hT (co0, tb0) (List.mem_cons_self ..), trivial⟩
    rcases List.mem_cons.mp hp with e0 | hp
    · rw [e0]; exact ⟨#[], hT (co1, tb1) (List.mem_cons_of_mem _ (List.mem_cons_self ..)), trivial⟩
    rcases List.mem_cons.mp hp with e0 | hp
    · rw [e0]; exact ⟨#[], hT (co2, tb2) (List.mem_cons_of_mem _ (List.mem_cons_of_mem _ (List.mem_cons_self ..))), trivial⟩
    cases hp
  · intro base kb nb TB
    have gis_whole : FnOk l.prog w K mg base CX0 _ f4 _ _ _ := ok_whole F4 T
    have gis_name := ok_name (P := l.prog) (w := w) l5 c5 T (TB (co0, tb0) (List.mem_cons_self ..))
    have gchk_name : FnOk l.prog w K mg base CX0 _ f6 _ _ _ := ok_chk_name (List.mem_cons_self ..) (T := [tb0, tb1, tb2]) F6 ⟨F5, PySem.W.mg_of X G a5, b5⟩ gis_name
    have gchk_number : FnOk l.prog w K mg base CX0 _ f7 _ _ _ := ok_chk_number (T := [tb0, tb1, tb2]) F7 (PySem.W.mg_of X G gMO) ⟨F4, PySem.W.mg_of X G a4, b4⟩ gis_whole
    have gchk_thing : FnOk l.prog w K mg base CX0 _ f8 _ _ _ := ok_chk_thing (T := [tb0, tb1, tb2]) F8 (PySem.W.mg_of X G gTH) CTH
    have gchk_kind : FnOk l.prog w K mg base CX0 _ f9 _ _ _ := ok_chk_kind (T := [tb0, tb1, tb2]) F9 (PySem.W.mg_of X G gKI) CKI
    have HA : ∀ x, Held l.prog w K mg base 3 (fsOf f6 f7 f8 f9 x) (spChk [tb0, tb1, tb2] x) := fun x => match x with
      | .name => ⟨⟨_, _, gchk_name, k6, b6⟩⟩
      | .number => ⟨⟨_, _, gchk_number, k7, b7⟩⟩
      | .thing => ⟨⟨_, _, gchk_thing, k8, b8⟩⟩
      | .kind => ⟨⟨_, _, gchk_kind, k9, b9⟩⟩
    have gis_of : FnOk l.prog w K mg base CX0 _ f10 _ _ _ := ok_is_of F10 (PySem.W.mg_of X G gSO) (fun x => SD.item x) HA
    have gfits := ok_fits (P := l.prog) (w := w) (show tb2 ∈ [tb0, tb1, tb2] from (List.mem_cons_of_mem _ (List.mem_cons_of_mem _ (List.mem_cons_self ..)))) l11 c11 T (TB (co2, tb2) (List.mem_cons_of_mem _ (List.mem_cons_of_mem _ (List.mem_cons_self ..)))) (PySem.W.mg_of X G gSO) SD ⟨F10, PySem.W.mg_of X G a10, b10⟩ gis_of
    have gwrite_row : FnOk l.prog w K mg base CX0 _ f12 _ _ _ := ok_write_row F12 T (PySem.W.mg_of X G gSO) SD
    have gpart_of := ok_part_of (P := l.prog) (w := w) l13 c13 (show tb1 ∈ [tb0, tb1, tb2] from (List.mem_cons_of_mem _ (List.mem_cons_self ..))) T (TB (co1, tb1) (List.mem_cons_of_mem _ (List.mem_cons_self ..))) (PySem.W.mg_of X G gMO)
    have gread_row : FnOk l.prog w K mg base CX0 _ f14 _ _ _ := ok_read_row F14 T (PySem.W.mg_of X G gSO) SD ⟨F11, PySem.W.mg_of X G a11, b11⟩ gfits ⟨F13, PySem.W.mg_of X G a13, b13⟩ gpart_of
    have gis_deed : FnOk l.prog w K mg base CX0 _ f15 _ _ _ := ok_is_deed F15 T (PySem.W.mg_of X G gFO) FD ⟨F11, PySem.W.mg_of X G a11, b11⟩ gfits
    have gdeed_text : FnOk l.prog w K mg base (CX l.prog w) _ f16 _ _ _ := ok_deed_text F16 T (PySem.W.mg_of X G gFO) FD ES ECN ⟨F15, PySem.W.mg_of X G a15, b15⟩ gis_deed ⟨F12, PySem.W.mg_of X G a12, b12⟩ gwrite_row
    have gdeed_of_row : FnOk l.prog w K mg base CX0 _ f17 _ _ _ := ok_deed_of_row F17 T (PySem.W.mg_of X G gFO) FD ⟨F14, PySem.W.mg_of X G a14, b14⟩ gread_row
    have gdeed_in : FnOk l.prog w K mg base (CX l.prog w) _ f18 _ _ _ := ok_deed_in F18 T ES ECY ⟨F17, PySem.W.mg_of X G a17, b17⟩ gdeed_of_row
    have glaw_cell : FnOk l.prog w K mg base CX0 _ f19 _ _ _ := ok_cell F19 T
    have glaw_box : FnOk l.prog w K mg base CX0 _ f20 _ _ _ := ok_box F20 T
    have glaw_take : FnOk l.prog w K mg base CX0 _ f21 _ _ _ := ok_take F21
    have glaw_name : FnOk l.prog w K mg base CX0 _ f22 _ _ _ := ok_law_name F22 T ⟨F21, PySem.W.mg_of X G a21, b21⟩ glaw_take
    have glaw_number : FnOk l.prog w K mg base CX0 _ f23 _ _ _ := ok_law_number F23 T ⟨F21, PySem.W.mg_of X G a21, b21⟩ glaw_take
    have glaw_forms : FnOk l.prog w K mg base CX0 _ f24 _ _ _ := ok_law_forms F24
    have glaw_part : FnOk l.prog w K mg base CX0 _ f25 _ _ _ := ok_law_part F25 T ⟨F21, PySem.W.mg_of X G a21, b21⟩ glaw_take ⟨F22, PySem.W.mg_of X G a22, b22⟩ glaw_name ⟨F23, PySem.W.mg_of X G a23, b23⟩ glaw_number
    have glaw_deed : FnOk l.prog w K mg base CX0 _ f26 _ _ _ := ok_law_deed F26 T ⟨F21, PySem.W.mg_of X G a21, b21⟩ glaw_take ⟨F24, PySem.W.mg_of X G a24, b24⟩ glaw_forms ⟨F25, PySem.W.mg_of X G a25, b25⟩ glaw_part
    have glaw_is_name : FnOk l.prog w K mg base CX0 _ f27 _ _ _ := ok_law_is_name F27 T
    have glaw_number_read : FnOk l.prog w K mg base CX0 _ f28 _ _ _ := ok_law_number_read F28 T
    have glaw_is_part : FnOk l.prog w K mg base CX0 _ f29 _ _ _ := ok_law_is_part F29 T ⟨F27, PySem.W.mg_of X G a27, b27⟩ glaw_is_name
    have glaw_deed_read : FnOk l.prog w K mg base CX0 _ f30 _ _ _ := ok_law_deed_read F30 T ⟨F24, PySem.W.mg_of X G a24, b24⟩ glaw_forms ⟨F28, PySem.W.mg_of X G a28, b28⟩ glaw_number_read ⟨F29, PySem.W.mg_of X G a29, b29⟩ glaw_is_part
    have glaw_row_due : FnOk l.prog w K mg base CX0 _ f31 _ _ _ := ok_law_row_due F31 T ⟨F24, PySem.W.mg_of X G a24, b24⟩ glaw_forms ⟨F29, PySem.W.mg_of X G a29, b29⟩ glaw_is_part
    have glaw_odd : FnOk l.prog w K mg base CX0 _ f32 _ _ _ := ok_law_odd F32 T ⟨F21, PySem.W.mg_of X G a21, b21⟩ glaw_take
    have glaw_bad_deed : FnOk l.prog w K mg base CX0 _ f33 _ _ _ := ok_law_bad_deed F33 T ⟨F21, PySem.W.mg_of X G a21, b21⟩ glaw_take ⟨F24, PySem.W.mg_of X G a24, b24⟩ glaw_forms ⟨F32, PySem.W.mg_of X G a32, b32⟩ glaw_odd
    have glaw_bad_word : FnOk l.prog w K mg base CX0 _ f34 _ _ _ := ok_law_bad_word F34 T ⟨F21, PySem.W.mg_of X G a21, b21⟩ glaw_take
    have glaw_bad_row : FnOk l.prog w K mg base CX0 _ f35 _ _ _ := ok_law_bad_row F35 T ⟨F21, PySem.W.mg_of X G a21, b21⟩ glaw_take ⟨F34, PySem.W.mg_of X G a34, b34⟩ glaw_bad_word
    have glaw_deed_right : GOk l.prog w K mg base CX0 _ f36 _ _ _ := ok_law_deed_right smN F36 T ES ECN ⟨F31, PySem.W.mg_of X G a31, b31⟩ glaw_row_due ⟨F16, PySem.W.mg_of X G a16, b16⟩ gdeed_text
    have glaw_read_right : GOk l.prog w K mg base CX0 _ f37 _ _ _ := ok_law_read_right smN F37 T ES ECY ⟨F30, PySem.W.mg_of X G a30, b30⟩ glaw_deed_read ⟨F18, PySem.W.mg_of X G a18, b18⟩ gdeed_in
    exact (ok_law F38 T ⟨F19, PySem.W.mg_of X G a19, b19⟩ glaw_cell ⟨F20, PySem.W.mg_of X G a20, b20⟩ glaw_box ⟨F21, PySem.W.mg_of X G a21, b21⟩ glaw_take ⟨F26, PySem.W.mg_of X G a26, b26⟩ glaw_deed ⟨F32, PySem.W.mg_of X G a32, b32⟩ glaw_odd ⟨F33, PySem.W.mg_of X G a33, b33⟩ glaw_bad_deed ⟨F35, PySem.W.mg_of X G a35, b35⟩ glaw_bad_row ⟨F36, PySem.W.mg_of X G a36, b36⟩ glaw_deed_right ⟨F37, PySem.W.mg_of X G a37, b37⟩ glaw_read_right)
end F4

open PySem PySem.W PyProof.Rows in
set_option maxRecDepth 100000 in
set_option maxHeartbeats 0 in
theorem PySem.Challenge.cw_onestaff_k74_what_is_no_deed_holds : PySem.Challenge.rw_onestaff_k74_what_is_no_deed.Holds := by
  w_on; o_law; k_head; (case hw => w_witness2)
  k_fill
  refine Gd.walk_m (no := by first | rfl | decide +kernel) (l := PySem.Challenge.rw_onestaff_k74_what_is_no_deed) (n := 63) (k := 11) (x := "_law_script") (CX := fun _ => L2.CX0) rfl (by decide) rfl ⟨rfl, by decide, by decide⟩ (fun w h Y => PySem.W.kIn_of Y) ?F (fun _ _ _ _ _ z => z)
  case F =>
    intro w mg fa h Y KX G hmg em
    refine' F4.all_mk KX G hmg em ?QaCY ?QxlCY ?QsaCY ?QgaCY ?QggCY ?QkcCY ?QexCY ?QtyCY ?QhdCY ?QicCY ?QcoCY ?QmoCY ?Qn0CY ?QaCN ?QxlCN ?QsaCN ?QgaCN ?QggCN ?QkcCN ?QexCN ?QtyCN ?QhdCN ?QicCN ?QcoCN ?QmoCN ?Qn0CN ?Qa1 ?Qi1 ?Ql1 ?Qc1 ?Qk1 ?Qa2 ?Qi2 ?Ql2 ?Qc2 ?Qk2 ?Qa3 ?Qi3 ?Ql3 ?Qc3 ?Qk3 ?Qa4 ?Ql4 ?Qc4 ?Qk4 ?Qa5 ?Ql5 ?Qc5 ?Qk5 ?Qa6 ?Ql6 ?Qc6 ?Qk6 ?Qa7 ?Ql7 ?Qc7 ?Qk7 ?Qa8 ?Ql8 ?Qc8 ?Qk8 ?Qa9 ?Ql9 ?Qc9 ?Qk9 ?Qa10 ?Ql10 ?Qc10 ?Qk10 ?Qa11 ?Ql11 ?Qc11 ?Qk11 ?Qa12 ?Ql12 ?Qc12 ?Qk12 ?Qa13 ?Ql13 ?Qc13 ?Qk13 ?Qa14 ?Ql14 ?Qc14 ?Qk14 ?Qa15 ?Ql15 ?Qc15 ?Qk15 ?Qa16 ?Ql16 ?Qc16 ?Qk16 ?Qa17 ?Ql17 ?Qc17 ?Qk17 ?Qa18 ?Ql18 ?Qc18 ?Qk18 ?Qa19 ?Ql19 ?Qc19 ?Qk19 ?Qa20 ?Ql20 ?Qc20 ?Qk20 ?Qa21 ?Ql21 ?Qc21 ?Qk21 ?Qa22 ?Ql22 ?Qc22 ?Qk22 ?Qa23 ?Ql23 ?Qc23 ?Qk23 ?Qa24 ?Ql24 ?Qc24 ?Qk24 ?Qa25 ?Ql25 ?Qc25 ?Qk25 ?Qa26 ?Ql26 ?Qc26 ?Qk26 ?Qa27 ?Ql27 ?Qc27 ?Qk27 ?Qa28 ?Ql28 ?Qc28 ?Qk28 ?Qa29 ?Ql29 ?Qc29 ?Qk29 ?Qa30 ?Ql30 ?Qc30 ?Qk30 ?Qa31 ?Ql31 ?Qc31 ?Qk31 ?Qa32 ?Ql32 ?Qc32 ?Qk32 ?Qa33 ?Ql33 ?Qc33 ?Qk33 ?Qa34 ?Ql34 ?Qc34 ?Qk34 ?Qa35 ?Ql35 ?Qc35 ?Qk35 ?Qa36 ?Ql36 ?Qc36 ?Qk36 ?Qa37 ?Ql37 ?Qc37 ?Qk37 ?Qa38 ?Ql38 ?Qc38 ?Qk38 ?Qlco0 ?Quel0 ?Qntb0 ?Qhrec0 ?Qlco1 ?Quel1 ?Qntb1 ?Qhrec1 ?Qlco2 ?Quel2 ?Qntb2 ?Qhrec2 ?Qz0 ?Qz1 ?Qz2 ?Qz3 ?Qz4 ?Qz5 ?Qz6 ?Qz7 ?Qz8 ?Qz9 ?Qz10 ?Qz11 ?Qz12 ?Qz13 ?Qz14 ?Qz15 ?QgTH ?QlTH ?QcTH ?QhTH ?QdTH ?QzTH ?QgKI ?QlKI ?QcKI ?QhKI ?QdKI ?QzKI ?QgMO ?QgSO ?QlSO ?QtSO ?QwSO ?QgFO ?QlFO ?QtFO ?QwFO ?Qno0 ?Qno1 ?Qno2 ?Qno3 ?Qno4 ?Qno5 ?Qno6 ?Qno7 ?Qno8 ?Qno9 ?Qno10 ?Qno11 ?Qno12 ?Qno13 ?Qno14 ?Qno15 ?Qno16 ?Qys0 ?Qys1 ?Qys2 ?Qys3 ?Qfo0 ?Qfo1 ?Qfo2 ?Qfo3 ?Qfo4 ?Qfo5 ?Qfo6 ?Qfo7 ?Qfo8 ?Qfo9 ?Qfo10 ?Qfo11 ?Qfo12 ?Qfo13 ?Qfe0 ?Qfe1 ?Qfe2 ?Qfe3 ?Qfe4 ?Qfe5 ?Qfe6 ?Qfe7 ?Qfe8 ?Qfe9 ?Qfe10 ?Qfe11 ?Qfe12 ?Qfe13 ?QkFO ?Qcg ?Qct ?QaCS ?QgaCS ?QrdCS ?QatCS ?Qvi ?QsmN
    (case QaCY => k_is)
    (case QxlCY => k_is)
    (case QsaCY => k_is)
    (case QgaCY => k_is)
    (case QggCY => k_is)
    (case QkcCY => k_is)
    (case QexCY => k_is)
    (case QtyCY => k_is)
    (case QhdCY => k_is)
    (case QicCY => k_is)
    (case QcoCY => k_is)
    (case QmoCY => k_is)
    (case Qn0CY => k_is)
    (case QaCN => k_is)
    (case QxlCN => k_is)
    (case QsaCN => k_is)
    (case QgaCN => k_is)
    (case QggCN => k_is)
    (case QkcCN => k_is)
    (case QexCN => k_is)
    (case QtyCN => k_is)
    (case QhdCN => k_is)
    (case QicCN => k_is)
    (case QcoCN => k_is)
    (case QmoCN => k_is)
    (case Qn0CN => k_is)
    (case Qa1 => k_is)
    (case Qi1 => k_is)
    (case Ql1 => k_is)
    (case Qc1 => k_is)
    (case Qk1 => k_is)
    (case Qa2 => k_is)
    (case Qi2 => k_is)
    (case Ql2 => k_is)
    (case Qc2 => k_is)
    (case Qk2 => k_is)
    (case Qa3 => k_is)
    (case Qi3 => k_is)
    (case Ql3 => k_is)
    (case Qc3 => k_is)
    (case Qk3 => k_is)
    (case Qa4 => k_is)
    (case Ql4 => k_is)
    (case Qc4 => k_is)
    (case Qk4 => k_is)
    (case Qa5 => k_is)
    (case Ql5 => k_is)
    (case Qc5 => k_is)
    (case Qk5 => k_is)
    (case Qa6 => k_is)
    (case Ql6 => k_is)
    (case Qc6 => k_is)
    (case Qk6 => k_is)
    (case Qa7 => k_is)
    (case Ql7 => k_is)
    (case Qc7 => k_is)
    (case Qk7 => k_is)
    (case Qa8 => k_is)
    (case Ql8 => k_is)
    (case Qc8 => k_is)
    (case Qk8 => k_is)
    (case Qa9 => k_is)
    (case Ql9 => k_is)
    (case Qc9 => k_is)
    (case Qk9 => k_is)
    (case Qa10 => k_is)
    (case Ql10 => k_is)
    (case Qc10 => k_is)
    (case Qk10 => k_is)
    (case Qa11 => k_is)
    (case Ql11 => k_is)
    (case Qc11 => k_is)
    (case Qk11 => k_is)
    (case Qa12 => k_is)
    (case Ql12 => k_is)
    (case Qc12 => k_is)
    (case Qk12 => k_is)
    (case Qa13 => k_is)
    (case Ql13 => k_is)
    (case Qc13 => k_is)
    (case Qk13 => k_is)
    (case Qa14 => k_is)
    (case Ql14 => k_is)
    (case Qc14 => k_is)
    (case Qk14 => k_is)
    (case Qa15 => k_is)
    (case Ql15 => k_is)
    (case Qc15 => k_is)
    (case Qk15 => k_is)
    (case Qa16 => k_is)
    (case Ql16 => k_is)
    (case Qc16 => k_is)
    (case Qk16 => k_is)
    (case Qa17 => k_is)
    (case Ql17 => k_is)
    (case Qc17 => k_is)
    (case Qk17 => k_is)
    (case Qa18 => k_is)
    (case Ql18 => k_is)
    (case Qc18 => k_is)
    (case Qk18 => k_is)
    (case Qa19 => k_is)
    (case Ql19 => k_is)
    (case Qc19 => k_is)
    (case Qk19 => k_is)
    (case Qa20 => k_is)
    (case Ql20 => k_is)
    (case Qc20 => k_is)
    (case Qk20 => k_is)
    (case Qa21 => k_is)
    (case Ql21 => k_is)
    (case Qc21 => k_is)
    (case Qk21 => k_is)
    (case Qa22 => k_is)
    (case Ql22 => k_is)
    (case Qc22 => k_is)
    (case Qk22 => k_is)
    (case Qa23 => k_is)
    (case Ql23 => k_is)
    (case Qc23 => k_is)
    (case Qk23 => k_is)
    (case Qa24 => k_is)
    (case Ql24 => k_is)
    (case Qc24 => k_is)
    (case Qk24 => k_is)
    (case Qa25 => k_is)
    (case Ql25 => k_is)
    (case Qc25 => k_is)
    (case Qk25 => k_is)
    (case Qa26 => k_is)
    (case Ql26 => k_is)
    (case Qc26 => k_is)
    (case Qk26 => k_is)
    (case Qa27 => k_is)
    (case Ql27 => k_is)
    (case Qc27 => k_is)
    (case Qk27 => k_is)
    (case Qa28 => k_is)
    (case Ql28 => k_is)
    (case Qc28 => k_is)
    (case Qk28 => k_is)
    (case Qa29 => k_is)
    (case Ql29 => k_is)
    (case Qc29 => k_is)
    (case Qk29 => k_is)
    (case Qa30 => k_is)
    (case Ql30 => k_is)
    (case Qc30 => k_is)
    (case Qk30 => k_is)
    (case Qa31 => k_is)
    (case Ql31 => k_is)
    (case Qc31 => k_is)
    (case Qk31 => k_is)
    (case Qa32 => k_is)
    (case Ql32 => k_is)
    (case Qc32 => k_is)
    (case Qk32 => k_is)
    (case Qa33 => k_is)
    (case Ql33 => k_is)
    (case Qc33 => k_is)
    (case Qk33 => k_is)
    (case Qa34 => k_is)
    (case Ql34 => k_is)
    (case Qc34 => k_is)
    (case Qk34 => k_is)
    (case Qa35 => k_is)
    (case Ql35 => k_is)
    (case Qc35 => k_is)
    (case Qk35 => k_is)
    (case Qa36 => k_is)
    (case Ql36 => k_is)
    (case Qc36 => k_is)
    (case Qk36 => k_is)
    (case Qa37 => k_is)
    (case Ql37 => k_is)
    (case Qc37 => k_is)
    (case Qk37 => k_is)
    (case Qa38 => k_is)
    (case Ql38 => k_is)
    (case Qc38 => k_is)
    (case Qk38 => k_is)
    (case Qlco0 => k_is)
    (case Quel0 => rfl)
    (case Qntb0 => rfl)
    (case Qhrec0 => decide +kernel)
    (case Qlco1 => k_is)
    (case Quel1 => rfl)
    (case Qntb1 => rfl)
    (case Qhrec1 => decide +kernel)
    (case Qlco2 => k_is)
    (case Quel2 => rfl)
    (case Qntb2 => rfl)
    (case Qhrec2 => decide +kernel)
    (case Qz0 => k_is)
    (case Qz1 => k_is)
    (case Qz2 => k_is)
    (case Qz3 => k_is)
    (case Qz4 => k_is)
    (case Qz5 => k_is)
    (case Qz6 => k_is)
    (case Qz7 => k_is)
    (case Qz8 => k_is)
    (case Qz9 => k_is)
    (case Qz10 => k_is)
    (case Qz11 => k_is)
    (case Qz12 => k_is)
    (case Qz13 => k_is)
    (case Qz14 => k_is)
    (case Qz15 => k_is)
    (case QgTH => k_is)
    (case QlTH => k_is)
    (case QcTH => rfl)
    (case QhTH => rfl)
    (case QdTH => rfl)
    (case QzTH => first | rfl | kernel_rfl)
    (case QgKI => k_is)
    (case QlKI => k_is)
    (case QcKI => rfl)
    (case QhKI => rfl)
    (case QdKI => rfl)
    (case QzKI => first | rfl | kernel_rfl)
    (case QgMO => k_is)
    (case QgSO => k_is)
    (case QlSO => k_is)
    (case QtSO => exact ⟨⟨_, _, rfl, rfl⟩, ⟨_, _, rfl, rfl⟩, ⟨_, _, rfl, rfl⟩, ⟨_, _, rfl, rfl⟩, ⟨_, _, rfl, rfl⟩, trivial⟩)
    (case QwSO => first | rfl | decide | kernel_rfl)
    (case QgFO => k_is)
    (case QlFO => k_is)
    (case QtFO => exact ⟨⟨_, _, rfl, rfl⟩, ⟨_, _, rfl, rfl⟩, ⟨_, _, rfl, rfl⟩, ⟨_, _, rfl, rfl⟩, ⟨_, _, rfl, rfl⟩, ⟨_, _, rfl, rfl⟩, ⟨_, _, rfl, rfl⟩, ⟨_, _, rfl, rfl⟩, ⟨_, _, rfl, rfl⟩, ⟨_, _, rfl, rfl⟩, ⟨_, _, rfl, rfl⟩, ⟨_, _, rfl, rfl⟩, ⟨_, _, rfl, rfl⟩, ⟨_, _, rfl, rfl⟩, trivial⟩)
    (case QwFO => first | rfl | decide | kernel_rfl)
    (case Qno0 => k_is)
    (case Qno1 => k_is)
    (case Qno2 => k_is)
    (case Qno3 => k_is)
    (case Qno4 => k_is)
    (case Qno5 => k_is)
    (case Qno6 => k_is)
    (case Qno7 => k_is)
    (case Qno8 => k_is)
    (case Qno9 => k_is)
    (case Qno10 => k_is)
    (case Qno11 => k_is)
    (case Qno12 => k_is)
    (case Qno13 => k_is)
    (case Qno14 => k_is)
    (case Qno15 => k_is)
    (case Qno16 => k_is)
    (case Qys0 => k_is)
    (case Qys1 => k_is)
    (case Qys2 => k_is)
    (case Qys3 => k_is)
    (case Qfo0 => k_is)
    (case Qfo1 => k_is)
    (case Qfo2 => k_is)
    (case Qfo3 => k_is)
    (case Qfo4 => k_is)
    (case Qfo5 => k_is)
    (case Qfo6 => k_is)
    (case Qfo7 => k_is)
    (case Qfo8 => k_is)
    (case Qfo9 => k_is)
    (case Qfo10 => k_is)
    (case Qfo11 => k_is)
    (case Qfo12 => k_is)
    (case Qfo13 => k_is)
    (case Qfe0 => first | rfl | kernel_rfl)
    (case Qfe1 => first | rfl | kernel_rfl)
    (case Qfe2 => first | rfl | kernel_rfl)
    (case Qfe3 => first | rfl | kernel_rfl)
    (case Qfe4 => first | rfl | kernel_rfl)
    (case Qfe5 => first | rfl | kernel_rfl)
    (case Qfe6 => first | rfl | kernel_rfl)
    (case Qfe7 => first | rfl | kernel_rfl)
    (case Qfe8 => first | rfl | kernel_rfl)
    (case Qfe9 => first | rfl | kernel_rfl)
    (case Qfe10 => first | rfl | kernel_rfl)
    (case Qfe11 => first | rfl | kernel_rfl)
    (case Qfe12 => first | rfl | kernel_rfl)
    (case Qfe13 => first | rfl | kernel_rfl)
    (case QkFO => first | rfl | decide | kernel_rfl)
    (case Qcg => k_is)
    (case Qct => k_is)
    (case QaCS => k_is)
    (case QgaCS => k_is)
    (case QrdCS => k_is)
    (case QatCS => k_is)
    (case Qvi => k_is)
    (case QsmN => first | rfl | kernel_rfl)

