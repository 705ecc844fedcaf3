import PyProof.Rows.All
import Wide.All
import OpenK.AllK
import Wide.FinOn
import PyProof.EqAt
import PyProof.EqKinds
import PyProof.TupleCall
import HandS.Base
import HandS.Call
import HandS.List
import HandS.Comp
import HandS.Ends
import HandS.Text
import HandS.Exc
import HandS.Words
import HandS.WordsList
import HandS.Iter
import HandS.Dict
import HandS.Wide
import HandS.IsInst
import HandS.AnyAll
import HandS.EndBits
import HandS.EndTab
import KE.KEqDict
import KE.GoesMore
import KE.GoesEnum
import HandS.Walk
import HandS.DictComp
import HandS.GenList
import PyProof.ConsumeS
import HandS.Zip
import PyProof.ListStr
import HandS.More
import PyProof.Rows.RegFStrParts
import PyProof.Rows.ReprShort
import HandS.Conv
import HandS.RaiseMore
import HandS.TupAny
import HandS.CallLocal
import HandS.Replace
import PyProof.StrLawsChain
import PyProof.Rows.StrSplitAre
import PyProof.Rows.StrItems
import HandS.TryMany
import HandS.ExcOwn
import HandS.WordsExc
import HandS.ExcInit
import HandS.ExcField
import HandS.ExcIs
import KE.KExcIs
import KE.KIsAll
import KE.GoesEnumKw
import HandS.SortKw
import PyProof.Rows.StrSplitJoin
import PyProof.NeKinds
import KE.KxIndex
import PySem.Challenge.RW_onestaff_k70_timetables_as_texts
set_option Elab.async false
set_option linter.all false
set_option maxRecDepth 100000
set_option maxHeartbeats 4000000
/-! Defs that show lists and tuples: they run where no display is under way. -/
namespace Gd
open PySem PySem.Spec PyProof.Rows L2

/-- a def's promise, kept wherever no display is under way -/
structure GOk (P : Program) (w : World) (K : PySem.W.Frag) (mg : Str → Option Value) (base : Heap) (CX : CXT) (k : Nat) (f : Addr) (fd : FuncData) (ps : List Str) (sp : Sp) : Prop where
  size : ∀ vs H Q E, sp vs H Q E → vs.length = ps.length
  go : ∀ (A : Around) (out : List Env) (s : Shared) (H : Hp) (ar : Args) (us : List Value) (vs : List V) (Q : VK) (E : XK), A.guards = some [] →
    Room k A → Env0 P w K mg base A out s H → BindsTo s fd ar (ps.zip us) → Vals vs us → sp vs H Q E →
    codeAny (model P w) A (.call (.ref f) ar) (CR CX out P w H s Q E) s

section
variable {P : Program} {w : World} {K : PySem.W.Frag} {mg : Str → Option Value} {base : Heap}

/-- by its body -/
theorem gok_body {CX : CXT} {k : Nat} {x qual : Str} {st : Stmt} {f : Addr} {fd : FuncData} {N ps : List Str} {sp : Sp} (F : Fun K x qual st f fd) (S : FnScope N ps (defScope st))
    (size : ∀ vs H Q E, sp vs H Q E → vs.length = ps.length)
    (body : ∀ (cd : Value) (A : Around) (out : List Env) (s : Shared) (H : Hp) (vs : List V) (Q : VK) (E : XK), A.guards = some [] →
      Room k (A.deeper (envOfC qual (defScope st) s.heap.objs.size f cd)) → sp vs H Q E →
      ∃ t, PSs (cxOf CX P w K mg base N qual (defScope st) f cd A out s H E) (defBody st) t ∧ t { nx := fun _ H' => Q .non H', rt := Q } (start N vs) H) :
    GOk P w K mg base CX (k + 1) f fd ps sp := by
  obtain ⟨oc, od, kV, doc, pm, an, cd, ct, osl, rfl, lk, hcd⟩ := F.ex
  refine ⟨size, fun A out s H ar us vs Q E gd hr e0 hb r hsp => ?_⟩
  have hl := size _ _ _ _ hsp
  have KX : K.In s.heap := e0.mod.kin.keeps fun b o z => (e0.bs b o z).1
  have kinds : ∀ y ∈ ps.zip us, (defScope st).names.lookup y.1 = some .local ∨
      ((defScope st).names.lookup y.1 = some .cell ∧ ((cellsFrom (s.heap.objs.size + 1) (defScope st).names []).lookup y.1).isSome = true) := by
    rintro ⟨n, v⟩ hy
    have hm := (List.of_mem_zip hy).1
    cases S.par n hm with
    | inl q => exact .inl q
    | inr q => exact .inr ⟨q, PySem.W.cellsFrom_some _ _ _ (.inl q)⟩
  have Z := PySem.W.codeRec_of KX hcd
  refine codeAny_call_function hr.depth (KX _ _ lk) rfl S.co S.gen rfl Z (hb _ _ _ _ ?_)
  refine wpAny_newFunctionEnv_cells S.kind kinds fun env he s1 ic => ?_
  subst he
  have lim : s.heap.NoLimit := e0.mod.nolimit.keeps fun b o z => (e0.bs b o z).1
  refine ⟨lim.keeps ic.toInCall.keep, codeAny_func ?_⟩
  obtain ⟨t, ht, hq⟩ := body cd A out s H vs Q E gd (hr.deeper _) hsp
  have I := inv_start (CX := CX) (E := E) S hr.hd e0 hl r ic
  refine wpAny_mono (ht.run [] s1 (start N vs) H _ I hq) ?_ (fun _ _ z => z)
  intro fl s' hs
  cases fl with
  | brk => obtain ⟨_, _, _, q⟩ := hs; exact q.elim
  | cont => obtain ⟨_, _, _, q⟩ := hs; exact q.elim
  | next =>
    obtain ⟨σ', H', J, q⟩ := hs
    exact ⟨V.non, H', J.os, J.bare, J.base, J.hok, rfl, q⟩
  | ret u =>
    obtain ⟨v, σ', H', J, rv, q⟩ := hs
    exact ⟨v, H', J.os, J.bare, J.base, J.hok, rv, q⟩
/-- the same where nothing is raised -/
theorem gok {k : Nat} {x qual : Str} {st : Stmt} {f : Addr} {fd : FuncData} {N ps : List Str} {sp : Sp} (F : Fun K x qual st f fd) (S : FnScope N ps (defScope st))
    (size : ∀ vs H Q E, sp vs H Q E → vs.length = ps.length)
    (body : ∀ (cd : Value) (A : Around) (out : List Env) (s : Shared) (H : Hp) (vs : List V) (Q : VK) (E : XK), A.guards = some [] →
      Room k (A.deeper (envOfC qual (defScope st) s.heap.objs.size f cd)) → sp vs H Q E →
      ∃ t, PSs (cxOf CX0 P w K mg base N qual (defScope st) f cd A out s H E).nox (defBody st) t ∧ t { nx := fun _ H' => Q .non H', rt := Q } (start N vs) H) :
    GOk P w K mg base CX0 (k + 1) f fd ps sp := by
  refine gok_body F S size fun cd A out s H vs Q E gd hr q => ?_
  obtain ⟨t, h, z⟩ := body cd A out s H vs Q E gd hr q
  exact ⟨t, h.nox, z⟩
theorem GOk.mono {CX : CXT} {j k : Nat} {f : Addr} {fd : FuncData} {ps : List Str} {sp : Sp} (F : GOk P w K mg base CX j f fd ps sp) (h : j ≤ k) : GOk P w K mg base CX k f fd ps sp :=
  ⟨F.size, fun A out s H ar us vs Q E gd hr => F.go A out s H ar us vs Q E gd (hr.mono h)⟩
theorem gok_of {CX : CXT} {k : Nat} {f : Addr} {fd : FuncData} {ps : List Str} {sp : Sp} (F : FnOk P w K mg base CX k f fd ps sp) : GOk P w K mg base CX k f fd ps sp :=
  ⟨F.len, fun A out s H ar us vs Q E _ hr => F.run A out s H ar us vs Q E hr⟩
end

section
variable {X : Cx} {CX : CXT} {k : Nat} {f : Addr} {fd : FuncData} {ps : List Str} {sp : Sp} {dvs : List V} {ds : List Value} {E : XK} {x : Str} {p pos : Pos} {e : Expr} {es : List Expr} {t : TA}
/-- f(e, ..), f such a def, from a body of such a def -/
theorem pe_gcall (gd : X.A.guards = some []) (F : GOk X.prog X.w X.K X.mg X.base CX k f fd ps sp) (hr : Room k X.A) (hg : Gl X x) (hm : X.mg x = some (.ref f)) (hk : PySem.W.keepIn X.K (.ref f) = true)
    (hb : Binds X.K fd ps ds) (hd : Vals dvs ds) (hx : Passes CX X E) (ha : PA X (e :: es) t) (hdb : (x == ("__debug__" : Str)) = false := by decide)
    (he : starEach (e :: es) X.env = (false, eval e X.env) :: starEach es X.env := by rfl) (hpl : (backTo pos (starEach es X.env)).any (·.1) = false := by rfl) :
    PE X (.Call (.Name x p) (e :: es) [] pos) (tCall sp dvs E t) := by
  refine ⟨fun pins s σ H Q I h => wpAny_Call_Name_kw (ld_glob I hg hm ?_ hdb)⟩
  have A1 := ha.run pos pins s σ H _ I h
  refine PySem.W.callWith_K (h₀ := X.base) I.ok.mod.kin hk (thn A1 ?_) he hpl
  rintro us s1 ⟨vs, H1, I1, r, q⟩
  refine ⟨I1.kIn, ?_⟩
  have both := r.append hd
  have hl : (us ++ ds).length = ps.length := (both.length).symm.trans (F.size _ _ _ _ q)
  have run1 := F.go X.A X.stack s1 H1 ⟨us, []⟩ (us ++ ds) (vs ++ dvs) Q E gd hr I1.env0 (hb s1 us I1.kIn hl) both q
  refine wpAny_call (codeAny_mono run1 ?_)
  intro res s' hq
  match res, hq with
  | .error e, hq => exact hx pins σ H1 s1 e s' I1 hq
  | .ok (.ret u), hq => exact I1.after hq
  | .ok .next, hq => exact hq.elim
  | .ok .brk, hq => exact hq.elim
  | .ok .cont, hq => exact hq.elim

/-! ### repr of data -/
mutual
theorem dp_noDict {K : PySem.W.Frag} {H : Hp} : ∀ {v : V} {d : PyData}, Dp K H v d → d.hasDict = false
  | _, _, .non => by simp only [PyData.hasDict]
  | _, _, .bl _ => by simp only [PyData.hasDict]
  | _, _, .int _ => by simp only [PyData.hasDict]
  | _, _, .str _ => by simp only [PyData.hasDict]
  | _, _, .lst _ h => by simp only [PyData.hasDict]; exact dpAll_noDict h
  | _, _, .tup _ h => by simp only [PyData.hasDict]; exact dpAll_noDict h
theorem dpAll_noDict {K : PySem.W.Frag} {H : Hp} : ∀ {vs : List V} {ds : List PyData}, DpAll K H vs ds → PyData.hasDictAll ds = false
  | _, _, .nil => by simp only [PyData.hasDictAll]
  | _, _, .cons h t => by simp only [PyData.hasDictAll, dp_noDict h, dpAll_noDict t, Bool.or_self]
end
/-- repr(v), v some data d -/
def rRepr (K : PySem.W.Frag) : List V → Hp → VK → Prop := fun xs H Q => ∃ v d, xs = [v] ∧ Dp K H v d ∧ d.showable = true ∧ d.depth ≤ 100 ∧ d.shown.length ≤ sizeLine ∧ Q (.str d.shown) H
theorem call_repr (gd : X.A.guards = some []) (hr : Room k X.A) : CallR X (.builtin "repr") (rRepr X.K) := by
  intro pins s σ H xs us Q I r h
  obtain ⟨v, d, rfl, dp, hs, hdep, hsz, q⟩ := h
  cases r with
  | cons rv rn =>
    cases rn
    have hun := hr.un
    cases dp with
    | non =>
      cases rv
      refine PySem.P.repr_of_none ⟨.str _, H, I.tok _, ⟨_, rfl⟩, ?_⟩
      simpa only [PyData.shown] using q
    | bl b =>
      cases rv
      refine PySem.P.repr_of_bool ⟨.str _, H, I.tok _, ⟨_, rfl⟩, ?_⟩
      simpa only [PyData.shown] using q
    | int i =>
      obtain ⟨t, rfl⟩ := rv
      refine PySem.P.repr_of_int (by simpa [PyData.showable] using hs) ⟨.str _, H, I.tok _, ⟨_, rfl⟩, ?_⟩
      simpa only [PyData.shown] using q
    | str z =>
      obtain ⟨t, rfl⟩ := rv
      refine PySem.P.repr_of_str ⟨.str _, H, I.tok _, ⟨_, rfl⟩, ?_⟩ (by simpa only [PyData.shown] using hsz)
      simpa only [PyData.shown] using q
    | lst hl ha =>
      cases rv
      obtain ⟨as, rd⟩ := Dp.reads I _ _ _ (.lst hl ha) rfl
      refine repr_of_reads' rd hs (PyData.noDict_hsm (dp_noDict (.lst hl ha))) gd (by omega) (fun _ _ z => z) (fun h' u tk hk => ?_) hsz
      exact ⟨.str _, H, I.kept hk, ⟨_, rfl⟩, q⟩
    | tup hl ha =>
      cases rv
      obtain ⟨as, rd⟩ := Dp.reads I _ _ _ (.tup hl ha) rfl
      refine repr_of_reads' rd hs (PyData.noDict_hsm (dp_noDict (.tup hl ha))) gd (by omega) (fun _ _ z => z) (fun h' u tk hk => ?_) hsz
      exact ⟨.str _, H, I.kept hk, ⟨_, rfl⟩, q⟩
end
end Gd

set_option maxRecDepth 100000
set_option maxHeartbeats 4000000
/-! The end of a law whose own def shows data: no display is under way at its call. -/
namespace Gd
open PySem PySem.Spec PyProof.Rows L2 GxR

/-- the script's own object -/
def scriptO (vs : List Value) : Obj := { cls := .type "list", data := .seq vs.toArray }
def tabO : Obj := { cls := .none, data := .fields #[] }
open Classical in
/-- what is tracked at the law's call: the script (where the written part hasn't it), the tables -/
noncomputable def h0 (K : PySem.W.Frag) (a : Addr) (vs : List Value) (ns : List Int) (T : List Addr) : Hp := fun b =>
  if b = a ∧ K.lookup a = none then some (.frz (scriptO vs) (.lst (ns.map V.int))) else if b ∈ T then some (.tbl #[]) else none

theorem h0_inv {K : PySem.W.Frag} {a b : Addr} {vs : List Value} {ns : List Int} {T : List Addr} {u : HO} (h : h0 K a vs ns T b = some u) :
    (b = a ∧ K.lookup a = none ∧ u = .frz (scriptO vs) (.lst (ns.map V.int))) ∨ (b ∈ T ∧ u = .tbl #[]) := by
  unfold h0 at h
  by_cases c1 : b = a ∧ K.lookup a = none
  · rw [if_pos c1] at h
    exact .inl ⟨c1.1, c1.2, (Option.some.inj h).symm⟩
  · rw [if_neg c1] at h
    by_cases c2 : b ∈ T
    · rw [if_pos c2] at h
      exact .inr ⟨c2, (Option.some.inj h).symm⟩
    · rw [if_neg c2] at h
      cases h

section
variable {P : Program} {w : World} {K : PySem.W.Frag} {mg mb : Str → Option Value} {CX : CXT} {k : Nat} {fa a : Addr} {cs : List (Addr × Addr)} {fd : FuncData} {x : Str} {sp : Sp} {s1 : Shared} {vs : List Value} {ns : List Int}
theorem law_gcall (KX : K.In s1.heap) (nsG : s1.heap.Ns mainGlobals mg) (nsB : s1.heap.Ns builtinsNs mb) (isB : ∀ x : Str, x ≠ "__name__" → mb x = bootBuiltins x) (lim : s1.heap.NoLimit) (gens : s1.gens = #[])
    (tabs : ∀ p ∈ cs, s1.heap.get? p.2 = some tabO) (tabK : ∀ p ∈ cs, K.lookup p.2 = none) (codes : ∀ p ∈ cs, PySem.W.CodeHd s1.heap p.1 p.2)
    (bmain : ∃ (bm : Addr) (ob : Obj), mg "__builtins__" = some (.ref bm) ∧ bm ≠ builtinsNs ∧ s1.heap.get? bm = some ob ∧ ob.cls = .type "module" ∧ ob.dict = some builtinsNs ∧ ob.data = .plain)
    (ha : s1.heap.get? a = some (scriptO vs)) (hi : IntsAre vs ns) (hl : ns.length ≤ sizeLine) (hr : Room k callerA)
    (F : ∀ base : Heap, K.In base → base.Ns mainGlobals mg → (∀ p ∈ cs, TabB base mg p.1 p.2) → GOk P w K mg base CX k fa fd [x] sp)
    (hbind : ∀ (s : Shared) (u : Value), BindsTo s fd ⟨[u], []⟩ [(x, u)])
    (hsp : ∀ H : Hp, (∀ p ∈ cs, H p.2 = some (.tbl #[])) → SqL K H a (ns.map V.int) → sp [.ref a] H (fun v _ => v = .bl true) fun _ _ _ => False)
    (hCX : ∀ H e s', CX [] H s1 (fun _ _ _ => False) e s' → False) :
    codeAny (model P w) callerA (.call (.ref fa) ⟨[.ref a], []⟩) (fun r s' => r = .ok (.ret (.bool true)) ∧ OldK s1.heap s'.heap ∧ s'.os = s1.os ∧ AllBare s'.gens) s1 := by
  have rv := vals_ints hi
  have hlen := hi.length
  let T := cs.map Prod.snd
  have inT : ∀ p ∈ cs, p.2 ∈ T := fun p hp => List.mem_map.mpr ⟨p, hp, rfl⟩
  have ofT : ∀ b ∈ T, s1.heap.get? b = some tabO ∧ K.lookup b = none := by
    intro b hb
    obtain ⟨p, hp, rfl⟩ := List.mem_map.mp hb
    exact ⟨tabs p hp, tabK p hp⟩
  have neT : a ∉ T := fun z => by
    have q := (ofT a z).1
    rw [ha] at q
    cases q
  let H := h0 K a vs ns T
  -- a tracked object is the script or a table
  have seen : ∀ {b : Addr} {o : Obj}, s1.heap.get? b = some o → (∀ us n, o.data ≠ .seq us n) → o.data ≠ .fields #[] → H b = none := by
    intro b o e n1 n2
    cases q : H b with
    | none => rfl
    | some u =>
      exfalso
      rcases h0_inv q with ⟨rfl, _, _⟩ | ⟨hb, _⟩
      · rw [ha] at e
        cases e
        exact n1 _ _ rfl
      · rw [(ofT b hb).1] at e
        cases e
        exact n2 rfl
  have keepHid : ∀ {b : Addr} {o : Obj}, s1.heap.get? b = some o → H b = none → (hidT s1.heap H).get? b = some o := fun e n => hidT_get e n
  have dictHid : ∀ {b : Addr} {o : Obj} {es : Array DictEntry} {ep : Nat}, s1.heap.get? b = some o → o.data = .dict es ep → (hidT s1.heap H).get? b = some o := by
    intro b o es ep e d
    refine keepHid e (seen e (fun us n z => ?_) fun z => ?_) <;> (rw [d] at z; cases z)
  have nsHid : ∀ {b : Addr} {m : Str → Option Value}, s1.heap.Ns b m → (hidT s1.heap H).Ns b m := by
    rintro b m ⟨o, es, ep, e, d, rest⟩
    exact ⟨o, es, ep, dictHid e d, d, rest⟩
  have KH : K.In (hidT s1.heap H) := by
    intro b o e
    refine keepHid (KX b o e) ?_
    cases q : H b with
    | none => rfl
    | some u =>
      exfalso
      rcases h0_inv q with ⟨rfl, z, _⟩ | ⟨hb, _⟩
      · rw [z] at e
        cases e
      · rw [(ofT b hb).2] at e
        cases e
  have limH : (hidT s1.heap H).NoLimit := by
    obtain ⟨mc, h1, h2⟩ := lim
    exact ⟨mc, nsHid h1, h2⟩
  have M : L2.Mod K mg (hidT s1.heap H) := ⟨KH, nsHid nsG, ⟨mb, nsHid nsB, isB⟩, limH⟩
  have TB : ∀ p ∈ cs, TabB (hidT s1.heap H) mg p.1 p.2 := by
    intro p hp
    have tp := tabs p hp
    refine ⟨?_, ?_, ?_⟩
    · obtain ⟨o, us, file, tf, flags, tg, inF, text, tt, e1, r1, r2, r3, rest⟩ := codes p hp
      refine ⟨o, us, file, tf, flags, tg, inF, text, tt, keepHid e1 (seen e1 (fun vs n z => ?_) fun z => ?_), r1, r2, r3, rest⟩
      · rw [r2] at z
        cases z
      · rw [r2] at z
        cases z
        simp at r3
    · obtain ⟨bm, ob, b1, b2, b3, b4, b5, b6⟩ := bmain
      have g1 : bm ≠ mainGlobals := by
        rintro rfl
        obtain ⟨o, es, ep, e, d, _⟩ := nsG
        rw [b3] at e
        cases e
        rw [b6] at d
        cases d
      have g2 : bm ≠ p.2 := by
        rintro rfl
        rw [tp] at b3
        cases b3
        cases b6
      refine ⟨bm, ob, b1, b2, g1, g2, keepHid b3 (seen b3 (fun vs n z => ?_) fun z => ?_), b4, b5, b6⟩ <;> (rw [b6] at z; cases z)
    · intro z
      obtain ⟨o, es, ep, e, d, _⟩ := nsG
      rw [z, tp] at e
      cases e
      cases d
  have hH : ∀ p ∈ cs, H p.2 = some (.tbl #[]) := by
    intro p hp
    have n1 : ¬ (p.2 = a ∧ K.lookup a = none) := fun z => neT (z.1 ▸ inT p hp)
    exact (if_neg n1).trans (if_pos (inT p hp))
  have hS : SqL K H a (ns.map V.int) := by
    cases q : K.lookup a with
    | none => exact .inl (.inr ⟨scriptO vs, if_pos ⟨rfl, q⟩⟩)
    | some o =>
      have e := KX a o q
      rw [ha] at e
      cases e
      exact .inr ⟨_, vs.toArray, _, q, rfl, rfl, rfl, by rw [List.size_toArray, hlen]; exact hl, by simpa using rv⟩
  have hok : HOk P w H s1.heap := by
    intro b u q
    rcases h0_inv q with ⟨rfl, _, rfl⟩ | ⟨hb, rfl⟩
    · exact ⟨ha, by rw [List.length_map]; exact hl, vs, _, rv, ha⟩
    · exact (ofT b hb).1
  have e0 : Env0 P w K mg (hidT s1.heap H) callerA [] s1 H :=
    ⟨rfl, M, fun b o e => of_hidT e, Nat.le_of_eq (hidT_size _ _), trivial, (fun b hb => by cases (show b ∈ ([] : List Addr) from hb)), hok, .of_eq gens⟩
  have run := (F _ KH (nsHid nsG) TB).go callerA [] s1 H ⟨[.ref a], []⟩ [.ref a] [.ref a] (fun v _ => v = .bl true) (fun _ _ _ => False) rfl hr e0 (hbind s1 (.ref a)) (.cons rfl .nil) (hsp H hH hS)
  refine codeAny_mono run ?_
  intro r s' h
  match r, h with
  | .error e, h => exact (hCX H e s' h).elim
  | .ok .next, h => exact h.elim
  | .ok .brk, h => exact h.elim
  | .ok .cont, h => exact h.elim
  | .ok (.ret u), h =>
    obtain ⟨v, H', os, bare, un, hok', r', q⟩ := h
    obtain rfl : v = .bl true := q
    obtain rfl : u = Value.bool true := r'
    have plain : ∀ b o, b ∉ T → s1.heap.get? b = some o → s'.heap.get? b = some o := by
      intro b o nb e
      cases q : H b with
      | none => exact un.keep b o e q (fun z => by cases (show b ∈ ([] : List Addr) from z)) (by simp)
      | some y =>
        rcases h0_inv q with ⟨rfl, _, rfl⟩ | ⟨hb, _⟩
        · obtain ⟨e2, _⟩ := hok' b _ (un.frzs b _ _ q)
          rw [ha] at e
          cases e
          exact e2
        · exact absurd hb nb
    have grown : ∀ p ∈ cs, ∃ more : Array Value, s'.heap.get? p.2 = some { cls := .none, data := .fields more } := by
      intro p hp
      obtain ⟨more, z⟩ := un.tbls p.2 #[] (hH p hp)
      exact ⟨_, hok' p.2 _ z⟩
    refine ⟨rfl, ⟨fun b o e => ?_, fun b o e => ?_⟩, os, bare⟩ <;> by_cases hb : b ∈ T
    · obtain ⟨p, hp, rfl⟩ := List.mem_map.mp hb
      obtain ⟨more, hm⟩ := grown p hp
      rw [tabs p hp] at e
      cases e
      exact .inr (.inl ⟨((codes p hp).tab (tabs p hp)).isCodeTable, rfl, #[], more, rfl, by rw [Array.empty_append]; exact hm⟩)
    · exact .inl (plain b o hb e)
    · obtain ⟨p, hp, rfl⟩ := List.mem_map.mp hb
      obtain ⟨more, hm⟩ := grown p hp
      exact ⟨_, hm⟩
    · exact ⟨o, plain b o hb e⟩
end

/-- the tables of the text's own defs are empty behind the top -/
def Empt (q : Program) (K : PySem.W.Frag) (h : Heap) : Prop := ∀ (x : Str) (f c t : Addr) (o : Obj) (fd : FuncData) (e : Value) (dd : Option Addr) (us : Array Value) (sl : Array (Option Value)),
  ((PyProof.Rows.recsOf q).any fun r => r.name == x) = true → PySem.W.nsIn K mainGlobals x = some (some (.ref f)) → K.lookup f = some o → o.data = .func fd → fd.code = .ref c →
  K.lookup c = some ⟨e, dd, .fields us, sl⟩ → us[11]? = some (.ref t) → PySem.W.CodeHd h c t ∧ h.get? t = some tabO
/-- what is to be known of the law at the head's heap -/
def GLaw (l : PySem.W.OpenLaw) (w : World) (K : PySem.W.Frag) (CX : CXT) (k n : Nat) (x : Str) (mg : Str → Option Value) (fa : Addr) (h : Heap) : Prop :=
  ∃ (fd : FuncData) (cs : List (Addr × Addr)) (sp : Sp), (∀ p ∈ cs, h.get? p.2 = some tabO) ∧ (∀ p ∈ cs, K.lookup p.2 = none) ∧ (∀ p ∈ cs, PySem.W.CodeHd h p.1 p.2) ∧
    (∀ (s : Shared) (u : Value), BindsTo s fd ⟨[u], []⟩ [(x, u)]) ∧
    (∀ (H : Hp) (a : Addr) (ns : List Int), ns.length ≤ n → (∀ z ∈ ns, Builtin.Int.intBits z ≤ 1048576) → (∀ p ∈ cs, H p.2 = some (.tbl #[])) → SqL K H a (ns.map V.int) →
      sp [.ref a] H (fun v _ => v = .bl true) fun _ _ _ => False) ∧
    ∀ base : Heap, K.In base → base.Ns mainGlobals mg → (∀ p ∈ cs, TabB base mg p.1 p.2) → GOk l.prog w K mg base CX k fa fd [x] sp
theorem walk_g {l : PySem.W.OpenLaw} {n k : Nat} {q : Program} {loose : List Str} {XP : (Str → Option Value) → Heap → Prop} {YP : World → Heap → Prop} {d : DefRec} {K : Params → PySem.W.Frag} {CX : World → CXT} {x : Str}
    (hn : l.most = some n) (small : n ≤ sizeLine) (hdf : d.params.defaults = []) (hr : Room k callerA) (hY : ∀ (w : World) (h : Heap), YP w h → (K w.params).In h)
    (F : ∀ (w : World) (mg : Str → Option Value) (fa : Addr) (h : Heap), YP w h → (K w.params).In h → h.Ns mainGlobals mg → mg d.name = some (.ref fa) → Empt q (K w.params) h → GLaw l w (K w.params) (CX w) k n x mg fa h)
    (hCX : ∀ (w : World) (H : Hp) (s : Shared) (e : Value) (s' : Shared), CX w [] H s (fun _ _ _ => False) e s' → False) :
    PySem.W.WalkO q loose XP YP l.row.toRowW d [] (fun f vs => PySem.call f vs) := by
  refine Att.attach_callB hn hdf ?_
  intro w sA s1 mg mb fa o pm cd doc a vs ns G Y ho hd hcd hmg hobj hints hlen hbits hg
  have KX := hY w _ Y
  have em : Empt q (K w.params) s1.heap := by
    intro x f c t o1 fd1 e dd us sl hx k1 k2 k3 k4 k5 k6
    obtain ⟨r, hr1, hr2⟩ := List.any_eq_true.mp hx
    have hn1 : r.name = x := beq_iff_eq.mp hr2
    obtain ⟨a1, o2, fd2, c2, t2, y1, y2, y3, y4, y5, y6⟩ := G.T.tab r hr1
    have z1 := PySem.W.mg_of KX G.T.g k1
    rw [hn1, z1] at y1
    cases y1
    have z2 := KX _ _ k2
    rw [z2] at y2
    cases y2
    rw [k3] at y3
    cases y3
    rw [k4] at y4
    cases y4
    have y6b := y6
    obtain ⟨⟨oc, vc, e1, e2, e3, e4⟩, hP⟩ := y6b
    have z5 := KX _ _ k5
    rw [z5] at e1
    cases e1
    cases e3
    rw [k6] at e4
    cases e4
    exact ⟨PySem.W.CodeHd.of y5 y6, hP⟩
  obtain ⟨fd, cs, sp, t1, t2, t3, hb, hsp, hF⟩ := F w mg fa _ Y KX G.T.g hmg em
  exact law_gcall KX G.T.g G.T.b G.T.builtins G.T.nolimit hg t1 t2 t3 G.T.bmain hobj hints (Nat.le_trans hlen small) hr hF hb (fun H a1 a2 => hsp H a ns hlen hbits a1 a2) (fun H e s' => hCX w H s1 e s')
end Gd

set_option maxRecDepth 100000
set_option maxHeartbeats 4000000
/-! Things, boxes, texts: what the laws share, over no program. -/
namespace My
open PySem PySem.Spec PyProof.Rows L2 GxR Gd TL
/-! ### things -/
def Good (z : Str) : Prop := ∀ c ∈ z.cps.toList, c < 1114112
inductive Th (H : Hp) : V → Prop
  | non : Th H .non
  | bl (b : Bool) : Th H (.bl b)
  | int (i : Int) : Th H (.int i)
  | str (z : Str) (h : z.length ≤ 1000000) (g : Good z) : Th H (.str z)
  | lst (a : Addr) (xs : List V) (h : H a = some (.lst xs)) : Th H (.ref a)
  | tup (a : Addr) (xs : List V) (h : H a = some (.tup xs)) : Th H (.ref a)
  | dic (a : Addr) {kvs : List (Key × V)} (h : H a = some (.dK kvs)) : Th H (.ref a)
def lc (c : Nat) : Bool := decide (97 ≤ c) && decide (c ≤ 122)
def nm : V → Bool
  | .str z => decide (1 ≤ z.length) && decide (z.length ≤ 6) && z.cps.toList.all lc
  | _ => false
def wh (lo hi : Int) : V → Bool
  | .int i => decide (lo ≤ i) && decide (i ≤ hi)
  | _ => false
/-- its kind -/
theorem Th.ty {K : PySem.W.Frag} {H : Hp} {v : V} (h : Th H v) : ∃ t, TyX K H v (.type t) ∧
    ((∃ i, v = .int i ∧ t = "int") ∨ (∃ b, v = .bl b ∧ t = "bool") ∨ (∃ z, v = .str z ∧ (z.length ≤ 1000000 ∧ Good z) ∧ t = "str") ∨
     ((∀ i, v ≠ .int i) ∧ (∀ b, v ≠ .bl b) ∧ (∀ z, v ≠ .str z) ∧ (t = "NoneType" ∨ t = "list" ∨ t = "tuple" ∨ t = "dict"))) := by
  cases h with
  | non => exact ⟨_, .base .non, .inr (.inr (.inr ⟨by simp, by simp, by simp, .inl rfl⟩))⟩
  | bl b => exact ⟨_, .base (.bl b), .inr (.inl ⟨b, rfl, rfl⟩)⟩
  | int i => exact ⟨_, .base (.int i), .inl ⟨i, rfl, rfl⟩⟩
  | str z h g => exact ⟨_, .base (.str z), .inr (.inr (.inl ⟨z, rfl, ⟨h, g⟩, rfl⟩))⟩
  | lst a xs h => exact ⟨_, .base (.lst h), .inr (.inr (.inr ⟨by simp, by simp, by simp, .inr (.inl rfl)⟩))⟩
  | tup a xs h => exact ⟨_, .base (.tup h), .inr (.inr (.inr ⟨by simp, by simp, by simp, .inr (.inr (.inl rfl))⟩))⟩
  | dic a h => exact ⟨_, .base (.dK h), .inr (.inr (.inr ⟨by simp, by simp, by simp, .inr (.inr (.inr rfl))⟩))⟩
/-- all but the table stays -/
structure KT (P : Addr) (H H' : Hp) : Prop where
  keep : ∀ c o, c ≠ P → H c = some o → H' c = some o
  tab : TabG H' P
theorem TabG.at {H : Hp} {P : Addr} (t : TabG H P) : ∃ ps, H P = some (.tbl ps) := let ⟨ps, h, _⟩ := t; ⟨ps, h⟩
theorem ne_tab {H : Hp} {P a : Addr} {o : HO} (t : TabG H P) (h : H a = some o) (n : ∀ ps, o ≠ .tbl ps) : a ≠ P := by
  rintro rfl
  obtain ⟨ps, e⟩ := TabG.at t
  rw [h] at e
  exact n ps (Option.some.inj e)
theorem KT.refl {P : Addr} {H : Hp} (t : TabG H P) : KT P H H := ⟨fun _ _ _ h => h, t⟩
theorem KT.trans {P : Addr} {H H1 H2 : Hp} (a : KT P H H1) (b : KT P H1 H2) : KT P H H2 := ⟨fun c o n h => b.keep c o n (a.keep c o n h), b.tab⟩
theorem KT.of {P : Addr} {H H' : Hp} (t : Tabbed P H H') : KT P H H' := ⟨fun c o n h => by rw [t.2 c n]; exact h, t.1⟩
theorem KT.alloc {P p : Addr} {H : Hp} {o : HO} (t : TabG H P) (n : H p = none) : KT P H (upd H p o) := by
  obtain ⟨ps, e, ht⟩ := t
  refine ⟨fun c q _ h => by rw [upd_ne (ne_of_none h n)]; exact h, ps, by rw [upd_ne (ne_of_none e n)]; exact e, ht⟩
theorem Th.kt {P : Addr} {H H' : Hp} (t : TabG H P) (k : KT P H H') {v : V} (h : Th H v) : Th H' v := by
  cases h with
  | non => exact .non
  | bl b => exact .bl b
  | int i => exact .int i
  | str z h g => exact .str z h g
  | lst a xs h => exact .lst a xs (k.keep _ _ (ne_tab t h (by simp)) h)
  | tup a xs h => exact .tup a xs (k.keep _ _ (ne_tab t h (by simp)) h)
  | dic a h => exact .dic a (k.keep _ _ (ne_tab t h (by simp)) h)

theorem elt_between {prog : Program} {w : World} {scope : Scope} {x a b : Str} {j1 j2 : Nat} {p1 p2 p3 p4 : Pos} (hk : scope.kind = .function) (hl : scope.names.lookup x = some .local)
    (hd : (x == ("__debug__" : Str)) = false := by decide) :
    EltP prog w scope x (.Compare (.Constant (.str a) j1 p1) [.LtE, .LtE] [.Name x p2, .Constant (.str b) j2 p3] p4) (fun c => !decide ([c] < a.cps.toList) && !decide (b.cps.toList < [c])) := by
  intro cenv A' E' c t s2 m2 hs hn hm
  refine Compare_chain ?_ (by with_unfolding_all rfl)
  refine Calls.Constant_str (chain_link ?_)
  refine wpAny_Name (wpAny_loadName_local (by rw [hs]; exact hk) (show cenv.scope.names.lookup x = some .local by rw [hs]; exact hl) hn hm ?_) hd
  refine PySem.P.le_str ?_
  refine wpAny_truthy_bool ?_
  cases q : decide ([c] < a.cps.toList) with
  | true =>
    refine ite_ff ⟨?_, keeps_tok _ _⟩
    have q' : decide ((⟨#[c]⟩ : Str).cps.toList < a.cps.toList) = true := q
    simp [q']
  | false =>
    refine ite_tt (chain_last ?_)
    refine Calls.Constant_str ?_
    refine PySem.P.le_str ⟨?_, keeps_tok _ _⟩
    have q2 : ¬ [c] < a.cps.toList := of_decide_eq_false q
    simp [List.not_lt.mp q2]
def genSc : Scope := { kind := ScopeKind.function, names := [(Str.ofString ".0", NameKind.local), (Str.ofString "sign", NameKind.local)], isGenerator := true, isCoroutine := false }
theorem no_free : ∀ y ∈ genSc.names, y.2 ≠ NameKind.free := by decide +kernel
theorem one_lt (c d : Nat) : [c] < [d] ↔ c < d := by
  rw [List.cons_lt_cons_iff]
  constructor
  · rintro (h | ⟨_, h⟩)
    · exact h
    · exact absurd h (List.not_lt_nil _)
  · exact .inl
theorem lc_eq (c : Nat) : (!decide ([c] < [97]) && !decide ([122] < [c])) = lc c := by
  unfold lc
  rw [Bool.eq_iff_iff]
  simp only [Bool.and_eq_true, Bool.not_eq_true', decide_eq_false_iff_not, decide_eq_true_eq, one_lt]
  omega
/-! ### the box -/
def Bx (b : Addr) (n : Int) (H : Hp) : Prop := ∃ x y z : Int, H b = some (.lst [.int x, .int y, .int z]) ∧ 0 ≤ x ∧ 0 ≤ y ∧ y < 2147483629 ∧ 0 ≤ z ∧ z ≤ n
theorem Bx.same {b : Addr} {n : Int} {H H' : Hp} (h : Bx b n H) (e : H' b = H b) : Bx b n H' := by
  obtain ⟨x, y, z, h1, r⟩ := h
  exact ⟨x, y, z, e.trans h1, r⟩
theorem Bx.mono {b : Addr} {n m : Int} {H : Hp} (h : Bx b n H) (e : n ≤ m) : Bx b m H := by
  obtain ⟨x, y, z, h1, h2, h3, h4, h5, h6⟩ := h
  exact ⟨x, y, z, h1, h2, h3, h4, h5, by omega⟩
theorem i0 (a b c : V) : atI [a, b, c] 0 = some a := rfl
theorem i1 (a b c : V) : atI [a, b, c] 1 = some b := rfl
theorem i2 (a b c : V) : atI [a, b, c] 2 = some c := rfl
theorem j0 : ixN 3 0 = some 0 := rfl
theorem j2 : ixN 3 2 = some 2 := rfl
/-! ### lists and texts -/
theorem atI_ex {α : Type} {xs : List α} {d : Int} (h0 : 0 ≤ d) (h1 : d < xs.length) : ∃ v, v ∈ xs ∧ atI xs d = some v := by
  obtain ⟨j, rfl⟩ := Int.eq_ofNat_of_zero_le h0
  have hj : j < xs.length := by omega
  exact ⟨xs[j], List.getElem_mem hj, atI_nat (List.getElem?_eq_getElem hj)⟩
theorem joinL_len (S : List Nat) : ∀ ps : List (List Nat), (joinL S ps).length ≤ (ps.map List.length).sum + ps.length * S.length
  | [] => by simp [joinL]
  | [p] => by simp [joinL]
  | p :: q :: r => by
    have ih := joinL_len S (q :: r)
    have e : joinL S (p :: q :: r) = p ++ (S ++ joinL S (q :: r)) := rfl
    rw [e, List.length_append, List.length_append, List.map_cons, List.sum_cons, List.length_cons, Nat.succ_mul]
    omega
theorem tl_len (z : Str) : (tl z).length = z.length := by
  show z.cps.toList.length = z.cps.size
  simp
theorem join_len (y : Str) (ps : List Str) : (Txt.join y ps).length ≤ (ps.map (·.length)).sum + ps.length * y.length := by
  have h := joinL_len (tl y) (ps.map tl)
  rw [← tl_len, join_eq, tl_join]
  have e : (ps.map tl).map List.length = ps.map (·.length) := by
    rw [List.map_map]
    exact List.map_congr_left fun z _ => tl_len z
  rw [e, List.length_map, tl_len] at h
  exact h
theorem sum_ones (ps : List Str) (h : ∀ z ∈ ps, z.length ≤ 1) : (ps.map (·.length)).sum ≤ ps.length := by
  induction ps with
  | nil => simp
  | cons a r ih =>
    have h1 := h a List.mem_cons_self
    have h2 := ih fun z hz => h z (List.mem_cons_of_mem _ hz)
    simp only [List.map_cons, List.sum_cons, List.length_cons]
    omega
theorem lcY {A : TE} {σ : L2.St} {H : Hp} {G : VK} {B : Hp → Prop} (h : A σ H G) : tYes σ H (fun b H3 => if b = true then A σ H3 G else B H3) := by
  show if true = true then A σ H G else B H
  exact iteT h
theorem good_app {a b : Str} (h : Good a) (k : Good b) : Good (a ++ b) := fun c hc => by
  have e : (a ++ b).cps.toList = a.cps.toList ++ b.cps.toList := tl_append a b
  rw [e] at hc
  exact (List.mem_append.mp hc).elim (h c) (k c)
theorem good_cut {a : Str} (h : Good a) (lo hi : Option Int) : Good (cutS a lo hi) := fun c hc => by
  unfold cutS at hc
  exact h c (List.mem_of_mem_drop (List.mem_of_mem_take (by simpa using hc)))
theorem good_joinL {S : List Nat} (hS : ∀ c ∈ S, c < 1114112) : ∀ ps : List (List Nat), (∀ p ∈ ps, ∀ c ∈ p, c < 1114112) → ∀ c ∈ joinL S ps, c < 1114112
  | [], _, c, h => by simp [joinL] at h
  | [p], hp, c, h => hp p List.mem_cons_self c (by simpa [joinL] using h)
  | p :: q :: r, hp, c, h => by
    have e : joinL S (p :: q :: r) = p ++ (S ++ joinL S (q :: r)) := rfl
    rw [e, List.mem_append, List.mem_append] at h
    rcases h with h | h | h
    · exact hp p List.mem_cons_self c h
    · exact hS c h
    · exact good_joinL hS (q :: r) (fun z hz => hp z (List.mem_cons_of_mem _ hz)) c h
theorem good_join {y : Str} {ps : List Str} (hy : Good y) (h : ∀ z ∈ ps, Good z) : Good (Txt.join y ps) := fun c hc => by
  have e : (Txt.join y ps).cps.toList = joinL (tl y) (ps.map tl) := by rw [join_eq]; exact tl_join y ps
  rw [e] at hc
  refine good_joinL hy _ (fun p hp => ?_) c hc
  obtain ⟨z, hz, rfl⟩ := List.mem_map.mp hp
  exact h z hz
theorem good_of (x : String) : Good (Str.ofString x) := fun c hc => by
  have e : (Str.ofString x).cps.toList = x.toList.map Char.toNat := by
    rw [Str.ofString_eq_toList]
  rw [e] at hc
  obtain ⟨d, _, rfl⟩ := List.mem_map.mp hc
  have := d.valid
  unfold UInt32.isValidChar Nat.isValidChar at this
  show d.val.toNat < 1114112
  omega
theorem good_one {z : Str} {c : Nat} (h : Good z) (hc : c ∈ z.cps.toList) : Good ⟨#[c]⟩ := fun d hd => by
  have e : d = c := by simpa using hd
  rw [e]
  exact h c hc
/-- all but the box stays -/
def KB (b : Addr) (H H' : Hp) : Prop := ∀ c o, c ≠ b → H c = some o → H' c = some o
theorem KB.refl (b : Addr) (H : Hp) : KB b H H := fun _ _ _ h => h
theorem KB.trans {b : Addr} {H H1 H2 : Hp} (a : KB b H H1) (c : KB b H1 H2) : KB b H H2 := fun x o n h => c x o n (a x o n h)
theorem KB.off {b : Addr} {H H' : Hp} (h : ∀ a, a ≠ b → H' a = H a) : KB b H H' := fun c o n e => (h c n).trans e
theorem KB.alloc {b p : Addr} {H : Hp} {o : HO} (n : H p = none) : KB b H (upd H p o) := fun c u _ h => by rw [upd_ne (ne_of_none h n)]; exact h
theorem Bx.alloc {b p : Addr} {n : Int} {H : Hp} {o : HO} (h : Bx b n H) (f : H p = none) : Bx b n (upd H p o) := by
  obtain ⟨x, y, z, h1, r⟩ := h
  exact ⟨x, y, z, by rw [upd_ne (ne_of_none h1 f)]; exact h1, r⟩
theorem Bx.put {b p : Addr} {n : Int} {H : Hp} {o : HO} (h : Bx b n H) (f : p ≠ b) : Bx b n (upd H p o) := by
  obtain ⟨x, y, z, h1, r⟩ := h
  exact ⟨x, y, z, by rw [upd_ne f.symm]; exact h1, r⟩
/-- a comprehension over a text's signs -/
theorem lc_text {z : Str} {g : TG} {tt : TT} {te : TE} {vs : List Nat} {σ : L2.St} {H1 : Hp} {D : Addr} {Qd : Hp → Prop} (Pv : Nat → Hp → Prop) (h0 : Pv 0 (upd H1 D (.lst [])))
    (hs : ∀ i c H, z.cps.toList[i]? = some c → Pv i H → g (.str ⟨#[c]⟩) (wipe σ vs) H fun σ2 H2 => wipe σ2 vs = wipe σ vs ∧ tt σ2 H2 fun b H3 =>
      if b = true then te σ2 H3 fun y H4 => ∃ acc, H4 D = some (.lst acc) ∧ acc.length < sizeLine ∧ Pv (i + 1) (upd H4 D (.lst (acc ++ [y]))) else Pv (i + 1) H3) (hd : ∀ H, Pv z.length H → Qd H) :
    ∃ W : Nat → Nat → Hp → Prop, (∃ m, W 0 m (upd H1 D (.lst []))) ∧ ∀ i m H, W i m H →
      ((Its z).stop i H ∧ Qd H) ∨ ((Its z).go i H ∧ ∃ Nx : Hp → Prop, (∀ H', Nx H' → ∃ m', m' < m ∧ W (i + 1) m' H') ∧ ∀ x H', (Its z).yld i H x H' → g x (wipe σ vs) H' fun σ2 H2 => wipe σ2 vs = wipe σ vs ∧ tt σ2 H2 fun b H3 =>
        if b = true then te σ2 H3 fun y H4 => ∃ acc, H4 D = some (.lst acc) ∧ acc.length < sizeLine ∧ Nx (upd H4 D (.lst (acc ++ [y]))) else Nx H3) := by
  refine ⟨fun i m H => i + m = z.cps.size ∧ Pv i H, ⟨z.cps.size, by simp, h0⟩, fun i m H hW => ?_⟩
  obtain ⟨e, p⟩ := hW
  cases m with
  | zero =>
    have ei : i = z.cps.size := e
    subst ei
    exact .inl ⟨Nat.le_refl _, hd H p⟩
  | succ m =>
    refine .inr ⟨show i < z.cps.size by omega, Pv (i + 1), fun H' q => ⟨m, Nat.lt_succ_self m, by omega, q⟩, ?_⟩
    rintro x H' ⟨rfl, c, hc, rfl⟩
    exact hs i c _ (by rw [← hc]; simp) p
def badOf (l : List Nat) : List V := (l.filter fun c => !lc c).map fun c => V.str ⟨#[c]⟩
theorem bad_data {K : PySem.W.Frag} {H : Hp} : ∀ l : List Nat, DpAll K H (l.map fun c => V.str ⟨#[c]⟩) (l.map fun c => PyData.str ⟨#[c]⟩)
  | [] => .nil
  | c :: r => .cons (.str _) (bad_data r)
theorem one_ok {c : Nat} (h : c < 1114112) : PyData.strOk ⟨#[c]⟩ = true := by
  simp [PyData.strOk, h]
theorem bad_shaped : ∀ l : List Nat, (∀ c ∈ l, c < 1114112) → PyData.canLayAll0 (l.map fun c => PyData.str ⟨#[c]⟩) = true
  | [], _ => by simp [PyData.canLayAll0]
  | c :: r, h => by
    simp only [List.map_cons, PyData.canLayAll0, PyData.canLay0, Bool.and_eq_true]
    exact ⟨one_ok (h c List.mem_cons_self), bad_shaped r fun d hd => h d (List.mem_cons_of_mem _ hd)⟩
theorem bad_depth : ∀ l : List Nat, PyData.depthAll (l.map fun c => PyData.str ⟨#[c]⟩) = 0
  | [] => by simp [PyData.depthAll]
  | c :: r => by
    simp only [List.map_cons, PyData.depthAll, PyData.depth, bad_depth r]
    rfl
theorem letters_mem (c : Nat) : decide (c ∈ (Str.ofString "abcdefghijklmnopqrstuvwxyz").cps.toList) = lc c := by
  have e : (Str.ofString "abcdefghijklmnopqrstuvwxyz").cps.toList = (List.range 26).map (· + 97) := by decide +kernel
  rw [e]
  unfold lc
  rw [Bool.eq_iff_iff]
  simp only [decide_eq_true_eq, List.mem_map, List.mem_range, Bool.and_eq_true]
  constructor
  · rintro ⟨a, h, rfl⟩
    omega
  · intro h
    exact ⟨c - 97, by omega, by omega⟩
/-- a fresh place is no box -/
theorem Bx.fresh {b p : Addr} {n : Int} {H : Hp} (h : Bx b n H) (f : H p = none) : p ≠ b := by
  rintro rfl
  obtain ⟨x, y, z, e, _⟩ := h
  rw [f] at e
  cases e
theorem dec9000 {m : Int} (h0 : 0 < m) (h : m ≤ 10 ^ 30) : m.natAbs.log2 < 9000 := by
  have h1 : m.natAbs ≤ 10 ^ 30 := by omega
  have h2 : m.natAbs < 2 ^ 100 := Nat.lt_of_le_of_lt h1 (by decide)
  have h3 := (Nat.log2_lt (by omega)).mpr h2
  omega
theorem log1900 {m : Int} (h : m.natAbs ≤ 10 ^ 31) : m.natAbs.log2 < 1900 := by
  by_cases h0 : m.natAbs = 0
  · rw [h0]
    decide
  · have h2 : m.natAbs < 2 ^ 110 := Nat.lt_of_le_of_lt h (by decide)
    have h3 := (Nat.log2_lt h0).mpr h2
    omega
/-- a place in a list of the script stays -/
theorem seq_kt {K : PySem.W.Frag} {P a : Addr} {H H' : Hp} {xs : List V} (t : TabG H P) (k : KT P H H') (h : SqL K H a xs) : SqL K H' a xs := by
  rcases h with (h | ⟨o, h⟩) | h
  · exact .inl (.inl (k.keep _ _ (ne_tab t h (by simp)) h))
  · exact .inl (.inr ⟨o, k.keep _ _ (ne_tab t h (by simp)) h⟩)
  · exact .inr h
/-- what a row of steps with the box does to all else -/
theorem KT.box {P b : Addr} {H H' H1 : Hp} (t : TabG H P) (f : H b = none) (e : ∀ a, a ≠ b → H1 a = H a) (k : KB b H1 H') : KT P H H' := by
  obtain ⟨ps, ht, tr⟩ := t
  have nb : P ≠ b := ne_of_none ht f
  exact ⟨fun c o _ h => k c o (ne_of_none h f) ((e c (ne_of_none h f)).trans h), ps, k P _ nb ((e P nb).trans ht), tr⟩
theorem two_bools (a b : Bool) : (PyData.list [.bool a, .bool b]).shown.length ≤ sizeLine := by
  cases a <;> cases b <;> decide +kernel
end My

set_option maxRecDepth 100000
set_option maxHeartbeats 4000000
namespace R7
open PySem PySem.Spec PyProof.Rows L2 GxR Gd TL My
/-! ### the text -/
def top (i : Nat) : Stmt := PySem.Challenge.pw_onestaff_k70_timetables_as_texts.main.body.getD i (.Pass ⟨0, 0, 0, 0⟩)
abbrev sWhole : Stmt := top 7
abbrev sName : Stmt := top 8
abbrev sCell : Stmt := top 31
abbrev sBox : Stmt := top 32
abbrev sTake : Stmt := top 33
structure Txt (mg : Str → Option Value) : Prop where
  isinstance_ : mg "isinstance" = none
  int_ : mg "int" = none
  bool_ : mg "bool" = none
  str_ : mg "str" = none
  len_ : mg "len" = none
  all_ : mg "all" = none
  max_ : mg "max" = none
  min_ : mg "min" = none
  range_ : mg "range" = none
  repr_ : mg "repr" = none
  list_ : mg "list" = none
  tuple_ : mg "tuple" = none
  enumerate_ : mg "enumerate" = none
  sorted_ : mg "sorted" = none
  zip_ : mg "zip" = none
structure Fn (K : PySem.W.Frag) (mg : Str → Option Value) (x : Str) (st : Stmt) (ps : List Str) (f : Addr) (fd : FuncData) : Prop where
  fn : Fun K x x st f fd
  g : mg x = some (.ref f)
  b : Binds K fd ps []
theorem Fn.kp {K : PySem.W.Frag} {mg : Str → Option Value} {x : Str} {st : Stmt} {ps : List Str} {f : Addr} {fd : FuncData} (h : Fn K mg x st ps f fd) : PySem.W.keepIn K (.ref f) = true := h.fn.kp
section
variable {P : Program} {w : World} {K : PySem.W.Frag} {mg : Str → Option Value} {base : Heap}
def spWhole : Sp := fun vs H Q _ => ∃ (v : V) (lo hi : Int), vs = [v, .int lo, .int hi] ∧ Th H v ∧ Q (.bl (wh lo hi v)) H
theorem scWhole : FnScope ["thing", "low", "high"] ["thing", "low", "high"] (defScope sWhole) := ⟨rfl, rfl, rfl, by decide +kernel, rfl, by decide +kernel, by decide +kernel⟩
theorem ok_whole {f : Addr} {fd : FuncData} (F : Fun K "is_whole" "is_whole" sWhole f fd) (T : Txt mg) : FnOk P w K mg base CX0 1 f fd ["thing", "low", "high"] spWhole := by
  refine F.ok scWhole (fun vs H Q E h => ?_) (fun cdv A outer s H vs Q E hr h => ?_)
  · obtain ⟨v, lo, hi, rfl, _⟩ := h
    rfl
  · obtain ⟨v, lo, hi, rfl, th, k⟩ := h
    obtain ⟨t, ty, cs⟩ := th.ty (K := K)
    refine ⟨_, pss_cons (ps_if (PW.pt (pw_or (pt_not (pt_val (pe_callB call_isi (by rfl) T.isinstance_ (by decide +kernel) (pa_cons (pv 0) (pa_cons (pe_bltn (v := .ty "int") (by rfl) T.int_ (by decide +kernel) rfl) pa_nil)))))
        (pw_or1 (pt_val (pe_callB call_isi (by rfl) T.isinstance_ (by decide +kernel) (pa_cons (pv 0) (pa_cons (pe_bltn (v := .ty "bool") (by rfl) T.bool_ (by decide +kernel) rfl) pa_nil)))))))
        (pss_one (ps_ret pe_bl)) pss_nil)
      (pss_one (ps_ret (pe_chain op_le op_le (pv 1) (pv 0) (pv 2)))), ?_⟩
    rcases cs with ⟨i, rfl, rfl⟩ | ⟨b, rfl, rfl⟩ | ⟨z, rfl, _, rfl⟩ | ⟨n1, n2, n3, ht⟩
    · refine ⟨_, rfl, _, _, _, _, true, rfl, .ty "int", ty, (by rfl), _, rfl, iteF ?_⟩
      refine ⟨_, rfl, _, _, _, _, false, rfl, .ty "bool", ty, (by rfl), _, rfl, iteF ?_⟩
      refine ⟨_, rfl, _, rfl, _, _, rfl, rfl, _, rfl, ?_⟩
      refine ite2 (fun c => ?_) (fun c => ?_)
      · refine ⟨_, rfl, _, _, rfl, rfl, ?_⟩
        have e : (decide (i ≤ hi)) = wh lo hi (.int i) := by simp [wh, of_decide_eq_true c]
        show Q (.bl (decide (i ≤ hi))) H
        rw [e]; exact k
      · have e : false = wh lo hi (.int i) := by simp at c; simp [wh]; omega
        rw [e]; exact k
    · refine ⟨_, rfl, _, _, _, _, true, rfl, .ty "int", ty, (by rfl), _, rfl, iteF ?_⟩
      refine ⟨_, rfl, _, _, _, _, true, rfl, .ty "bool", ty, (by rfl), _, rfl, iteT ?_⟩
      exact k
    · refine ⟨_, rfl, _, _, _, _, false, rfl, .ty "int", ty, (by rfl), _, rfl, iteT (iteT ?_)⟩
      exact k
    · have e : wh lo hi v = false := by
        cases v with
        | int i => exact absurd rfl (n1 i)
        | _ => rfl
      rw [e] at k
      rcases ht with rfl | rfl | rfl | rfl
      · exact ⟨_, rfl, _, _, _, _, false, rfl, .ty "int", ty, (by rfl), _, rfl, iteT (iteT k)⟩
      · exact ⟨_, rfl, _, _, _, _, false, rfl, .ty "int", ty, (by rfl), _, rfl, iteT (iteT k)⟩
      · exact ⟨_, rfl, _, _, _, _, false, rfl, .ty "int", ty, (by rfl), _, rfl, iteT (iteT k)⟩
      · exact ⟨_, rfl, _, _, _, _, false, rfl, .ty "int", ty, (by rfl), _, rfl, iteT (iteT k)⟩

/-! ### is_name -/
theorem scName : FnScope ["thing"] ["thing"] (defScope sName) := ⟨rfl, rfl, rfl, by decide +kernel, rfl, by decide +kernel, by decide +kernel⟩
def spName (Pt : Addr) : Sp := fun vs H Q _ => ∃ (v : V), vs = [v] ∧ Th H v ∧ TabG H Pt ∧ ∀ H', KT Pt H H' → Q (.bl (nm v)) H'
theorem ok_name {f Pt c : Addr} {oc kV doc pm ct : Value} {od an : Option Addr} {osl : Array (Option Value)}
    (lk : K.lookup f = some ⟨oc, od, .func (PySem.W.fnOf "is_name" "is_name" (defArgs sName) (defBody sName) (defScope sName) .none kV doc pm an (.ref c) ct), osl⟩) (hcd : PySem.W.codeIn K (.ref c) "is_name" = true)
    (T : Txt mg) (TB : TabB base mg c Pt) : FnOk P w K mg base CX0 2 f (PySem.W.fnOf "is_name" "is_name" (defArgs sName) (defBody sName) (defScope sName) .none kV doc pm an (.ref c) ct) ["thing"] (spName Pt) := by
  refine fn_of lk hcd scName (fun vs H Q E h => ?_) (fun A outer s H vs Q E hr h => ?_)
  · obtain ⟨v, rfl, _⟩ := h
    rfl
  · obtain ⟨v, rfl, th, tb, k⟩ := h
    obtain ⟨t, ty, cs⟩ := th.ty (K := K)
    refine ⟨_, (pss_cons (ps_if (PW.pt (pw_or (pt_not (pt_val (pe_callB call_isi (by rfl) T.isinstance_ (by decide +kernel) (pa_cons (pv 0) (pa_cons (pe_bltn (v := .ty "str") (by rfl) T.str_ (by decide +kernel) rfl) pa_nil)))))
        (pw_or1 (pt_not (pt_chain op_le op_le pe_int (pe_callB call_len_str (by rfl) T.len_ PySem.boot_len (pa_cons (pv 0) pa_nil)) pe_int)))))
        (pss_one (ps_ret pe_bl)) pss_nil)
      (pss_one (ps_ret (pe_allS hr (by rfl) T.all_ (by decide +kernel) TB rfl ⟨rfl, rfl, by decide +kernel, by decide +kernel, by decide +kernel, fun y hy e => absurd e (no_free y hy)⟩ (pv 0) (elt_between (by rfl) (by decide +kernel)) (fun _ => rfl))))).nox, ?_⟩
    have no : ∀ e : nm v = false, Q (.bl false) H := fun e => e ▸ k H (KT.refl tb)
    rcases cs with ⟨i, rfl, rfl⟩ | ⟨b, rfl, rfl⟩ | ⟨z, rfl, ⟨hz, _⟩, rfl⟩ | ⟨n1, n2, n3, ht⟩
    · exact ⟨_, rfl, _, _, _, _, false, rfl, .ty "str", ty, (by rfl), _, rfl, iteT (iteT (no rfl))⟩
    · exact ⟨_, rfl, _, _, _, _, false, rfl, .ty "str", ty, (by rfl), _, rfl, iteT (iteT (no rfl))⟩
    · refine ⟨_, rfl, _, _, _, _, true, rfl, .ty "str", ty, (by rfl), _, rfl, iteF ?_⟩
      have hz2 : z.length ≤ sizeLine := Nat.le_trans hz (by decide)
      refine ⟨_, rfl, z, rfl, hz2, _, _, rfl, rfl, _, rfl, ite2 (fun c1 => ?_) (fun c1 => ?_)⟩
      · have c1' : (1 : Int) ≤ z.length := of_decide_eq_true c1
        refine ⟨_, _, rfl, rfl, _, rfl, ?_⟩
        refine ite2 (fun c2 => ?_) (fun c2 => ?_)
        · refine no ?_
          have c2' : ¬ (z.length : Int) ≤ 6 := by simpa using c2
          have n6 : ¬ z.length ≤ 6 := by omega
          simp [nm, n6]
        · have c2' : (z.length : Int) ≤ 6 := by simpa using c2
          have n6 : z.length ≤ 6 := by omega
          have n1 : 1 ≤ z.length := by omega
          refine ⟨_, rfl, z, rfl, tb, fun H2 ht => ?_⟩
          have e : z.cps.toList.all (fun c => !decide ([c] < (Str.ofString "a").cps.toList) && !decide ((Str.ofString "z").cps.toList < [c])) = nm (.str z) := by
            have ea : (Str.ofString "a").cps.toList = [97] := by decide +kernel
            have ez : (Str.ofString "z").cps.toList = [122] := by decide +kernel
            rw [ea, ez]
            simp only [lc_eq]
            simp [nm, n6, n1]
          show Q (.bl (z.cps.toList.all _)) H2
          rw [e]
          exact k H2 (KT.of ht)
      · refine ⟨_, rfl, iteT (no ?_)⟩
        have c1' : ¬ (1 : Int) ≤ z.length := by simpa using c1
        have n1 : ¬ 1 ≤ z.length := by omega
        simp [nm, n1]
    · have e : nm v = false := by
        cases v with
        | str z => exact absurd rfl (n3 z)
        | _ => rfl
      rcases ht with rfl | rfl | rfl | rfl
      · exact ⟨_, rfl, _, _, _, _, false, rfl, .ty "str", ty, (by rfl), _, rfl, iteT (iteT (no e))⟩
      · exact ⟨_, rfl, _, _, _, _, false, rfl, .ty "str", ty, (by rfl), _, rfl, iteT (iteT (no e))⟩
      · exact ⟨_, rfl, _, _, _, _, false, rfl, .ty "str", ty, (by rfl), _, rfl, iteT (iteT (no e))⟩
      · exact ⟨_, rfl, _, _, _, _, false, rfl, .ty "str", ty, (by rfl), _, rfl, iteT (iteT (no e))⟩
def spCell (K : PySem.W.Frag) : Sp := fun vs H Q _ => ∃ (l : Addr) (ns : List Int) (j : Nat), vs = [.ref l, .int (j : Int)] ∧ SqL K H l (ns.map V.int) ∧ ∀ i : Int, Q (.int i) H
theorem scCell : FnScope ["_law_script", "_law_k"] ["_law_script", "_law_k"] (defScope sCell) := ⟨rfl, rfl, rfl, by decide +kernel, rfl, by decide +kernel, by decide +kernel⟩
theorem ok_cell {f : Addr} {fd : FuncData} (F : Fun K "_law_cell" "_law_cell" sCell f fd) (T : Txt mg) : FnOk P w K mg base CX0 1 f fd ["_law_script", "_law_k"] (spCell K) := by
  refine F.ok scCell (fun vs H Q E h => ?_) (fun cdv A outer s H vs Q E hr h => ?_)
  · obtain ⟨l, ns, j, rfl, _⟩ := h
    rfl
  · obtain ⟨l, ns, j, rfl, hS, k⟩ := h
    refine ⟨_, pss_cons (ps_if (pt_cmpR op_lt (pv 1) (pe_callB call_len_seq (by rfl) T.len_ PySem.boot_len (pa_cons (pv 0) pa_nil)) (nomark _)) (pss_one (ps_ret (pe_ix ix_list (pv 0) (pv 1) (fun _ _ => rfl)))) pss_nil)
      (pss_one (ps_ret (pe_op op_add (pe_op op_mul pe_int (pv 1)) pe_int))), ?_⟩
    refine ⟨_, rfl, _, rfl, l, _, rfl, .inl hS, _, _, rfl, rfl, _, rfl, ite2 (fun c => ?_) (fun c => ?_)⟩
    · have c1 : (j : Int) < ((ns.map V.int).length : Nat) := of_decide_eq_true c
      have c2 : j < ns.length := by rw [List.length_map] at c1; omega
      refine ⟨_, rfl, _, rfl, l, _, _, _, rfl, rfl, hS, atI_nat (v := .int ns[j]) ?_, k _⟩
      rw [List.getElem?_map, List.getElem?_eq_getElem c2]
      rfl
    · exact ⟨_, rfl, _, _, rfl, rfl, .inl ⟨by decide, by decide⟩, _, _, rfl, rfl, k _⟩
def spBox : Sp := fun vs H Q _ => ∃ c : Int, vs = [.int c] ∧ ∀ b H', H b = none → (∀ a, a ≠ b → H' a = H a) → Bx b 0 H' → Q (.ref b) H'
theorem scBox : FnScope ["_law_cell_here"] ["_law_cell_here"] (defScope sBox) := ⟨rfl, rfl, rfl, by decide +kernel, rfl, by decide +kernel, by decide +kernel⟩
theorem ok_box {f : Addr} {fd : FuncData} (F : Fun K "_law_box" "_law_box" sBox f fd) (T : Txt mg) : FnOk P w K mg base CX0 1 f fd ["_law_cell_here"] spBox := by
  refine F.ok scBox (fun vs H Q E h => ?_) (fun cdv A outer s H vs Q E hr h => ?_)
  · obtain ⟨c, rfl, _⟩ := h
    rfl
  · obtain ⟨c, rfl, k⟩ := h
    refine ⟨_, pss_one (ps_ret (pe_lst (pa_cons (pe_callB (call_max2 rfl) (by rfl) T.max_ (by decide +kernel) (pa_cons pe_int (pa_cons (pe_op op_sub (pv 0) (pe_op op_pow pe_int pe_int)) pa_nil))) (pa_cons (pe_op op_mod (pv 0) pe_int) (pa_cons pe_int pa_nil))))), ?_⟩
    refine ⟨_, rfl, _, _, rfl, rfl, ⟨by decide, by decide, by decide⟩, _, _, rfl, rfl, _, _, rfl, ?_⟩
    refine ⟨_, rfl, _, _, rfl, rfl, (by show (0 : Int) < 2147483629; decide), ?_⟩
    refine ⟨(by show 3 ≤ sizeLine; decide), fun b hb => ?_⟩
    refine k b _ hb (fun a na => upd_ne na) ⟨_, _, 0, upd_same, ?_, ?_, ?_, Int.le_refl _, Int.le_refl _⟩
    · split <;> omega
    · exact Int.emod_nonneg _ (by decide)
    · exact Int.emod_lt_of_pos _ (by decide)
def spTake : Sp := fun vs H Q _ => ∃ (b : Addr) (many n : Int), vs = [.ref b, .int many] ∧ Bx b n H ∧ n ≤ 100000 ∧ 0 < many ∧ many.natAbs.log2 < 9000 ∧
  ∀ d H', 0 ≤ d → d < many → (∀ a, a ≠ b → H' a = H a) → Bx b (n + 1) H' → Q (.int d) H'
theorem scTake : FnScope ["_law_box_here", "_law_many", "_law_digit", "_law_number_here"] ["_law_box_here", "_law_many"] (defScope sTake) := ⟨rfl, rfl, rfl, by decide +kernel, rfl, by decide +kernel, by decide +kernel⟩
theorem ok_take {f : Addr} {fd : FuncData} (F : Fun K "_law_take" "_law_take" sTake f fd) : FnOk P w K mg base CX0 1 f fd ["_law_box_here", "_law_many"] spTake := by
  refine F.ok scTake (fun vs H Q E h => ?_) (fun cdv A outer s H vs Q E hr h => ?_)
  · obtain ⟨b, many, n, rfl, _⟩ := h
    rfl
  · obtain ⟨b, many, n, rfl, ⟨x, y, z, hb, x0, y0, y1, z0, zn⟩, hn, m0, ml, k⟩ := h
    refine ⟨_, pss_cons (ps_if (pt_cmpR op_gt (pe_ix ix_list (pv 0) pe_int (fun _ _ => rfl)) pe_int (nomark _))
        (pss_cons (ps_set (i := 2) scTake.nd rfl (Or.inl rfl) (pe_op op_mod (pe_ix ix_list (pv 0) pe_int (fun _ _ => rfl)) (pv 1)))
        (pss_cons (ps_asg (pe_op op_fdivW (pe_ix ix_list (pv 0) pe_int (fun _ _ => rfl)) (pv 1)) (pg_sub (pv 0) pe_int set_list))
        (pss_one (ps_ret (pv 2))))) pss_nil)
      (pss_cons (ps_asg (pe_op op_add (pe_ix ix_list (pv 0) pe_int (fun _ _ => rfl)) pe_int) (pg_sub (pv 0) pe_int set_list))
      (pss_cons (ps_set (i := 3) scTake.nd rfl (Or.inl rfl) (pe_op op_mod (pe_op op_pow (pe_op op_add (pe_op op_add (pe_ix ix_list (pv 0) pe_int (fun _ _ => rfl)) (pe_op op_mul pe_int (pe_ix ix_list (pv 0) pe_int (fun _ _ => rfl)))) pe_int) pe_int) pe_int))
      (pss_cons (ps_set (i := 3) scTake.nd rfl (Or.inl rfl) (pe_op op_mod (pe_op op_pow (pe_op op_add (pv 3) (pe_op op_mul pe_int (pe_ix ix_list (pv 0) pe_int (fun _ _ => rfl)))) pe_int) pe_int))
      (pss_one (ps_ret (pe_op op_mod (pe_op op_fdiv (pv 3) pe_int) (pv 1))))))), ?_⟩
    have hL : SqL K H b [.int x, .int y, .int z] := SqL.of hb
    refine ⟨_, rfl, b, _, _, _, rfl, rfl, hL, i0 _ _ _, _, _, rfl, rfl, _, rfl, ite2 (fun c => ?_) (fun c => ?_)⟩
    · refine ⟨_, rfl, b, _, _, _, rfl, rfl, hL, i0 _ _ _, _, rfl, _, _, rfl, rfl, m0, ?_⟩
      refine ⟨_, rfl, b, _, _, _, rfl, rfl, hL, i0 _ _ _, _, rfl, _, _, rfl, rfl, ⟨m0, ml⟩, ?_⟩
      refine ⟨_, rfl, b, _, _, _, rfl, rfl, hb, j0, ?_⟩
      refine ⟨_, rfl, ?_⟩
      exact k _ _ (Int.emod_nonneg _ (by omega)) (Int.emod_lt_of_pos _ m0) (fun a na => upd_ne na) ⟨_, _, _, upd_same, Int.ediv_nonneg x0 (by omega), y0, y1, z0, by omega⟩
    · refine ⟨_, rfl, b, _, _, _, rfl, rfl, hL, i2 _ _ _, _, _, rfl, rfl, ?_⟩
      refine ⟨_, rfl, b, _, _, _, rfl, rfl, hb, j2, ?_⟩
      have h1 : upd H b (.lst ([V.int x, .int y, .int z].set 2 (.int (z + 1)))) b = some (.lst [.int x, .int y, .int (z + 1)]) := upd_same
      have hL1 : SqL K (upd H b (.lst ([V.int x, .int y, .int z].set 2 (.int (z + 1))))) b [.int x, .int y, .int (z + 1)] := SqL.of h1
      refine ⟨_, rfl, b, _, _, _, rfl, rfl, hL1, i1 _ _ _, _, rfl, b, _, _, _, rfl, rfl, hL1, i2 _ _ _, _, _, rfl, rfl, .inl ⟨by decide, by decide⟩, _, _, rfl, rfl, _, _, rfl, rfl,
        _, _, rfl, rfl, ⟨by decide, by decide, ?_⟩, _, _, rfl, rfl, (by show (0 : Int) < 2147483647; decide), ?_⟩
      · omega
      refine ⟨_, rfl, _, rfl, b, _, _, _, rfl, rfl, hL1, i2 _ _ _, _, _, rfl, rfl, .inl ⟨by decide, by decide⟩, _, _, rfl, rfl,
        _, _, rfl, rfl, ⟨by decide, by decide, ?_⟩, _, _, rfl, rfl, (by show (0 : Int) < 2147483587; decide), ?_⟩
      · have g0 := Int.emod_nonneg ((y + 7919 * (z + 1) + 11) ^ (5 : Int).toNat) (show (2147483647 : Int) ≠ 0 by decide)
        have g1 := Int.emod_lt_of_pos ((y + 7919 * (z + 1) + 11) ^ (5 : Int).toNat) (show (0 : Int) < 2147483647 by decide)
        generalize (y + 7919 * (z + 1) + 11) ^ (5 : Int).toNat % 2147483647 = q at g0 g1 ⊢
        omega
      refine ⟨_, rfl, _, _, rfl, rfl, ⟨by decide, by decide⟩, _, rfl, _, _, rfl, rfl, m0, ?_⟩
      exact k _ _ (Int.emod_nonneg _ (by omega)) (Int.emod_lt_of_pos _ m0) (fun a na => upd_ne na) ⟨_, _, _, h1, x0, y0, y1, by omega, by omega⟩
end
end R7


set_option maxRecDepth 100000
set_option maxHeartbeats 4000000
/-! Data in the heap, kept by steps that change a box, a table. -/
namespace My
open PySem PySem.Spec PyProof.Rows L2 GxR Gd TL
/-- all but tables stays -/
def Nt (H H' : Hp) : Prop := ∀ c o, (∀ ps, o ≠ .tbl ps) → H c = some o → H' c = some o
theorem Nt.refl (H : Hp) : Nt H H := fun _ _ _ h => h
theorem Nt.trans {H H1 H2 : Hp} (a : Nt H H1) (b : Nt H1 H2) : Nt H H2 := fun c o n h => b c o n (a c o n h)
theorem KT.nt {P : Addr} {H H' : Hp} (t : TabG H P) (k : KT P H H') : Nt H H' := fun c o n h => k.keep c o (ne_tab t h n) h
theorem Nt.alloc {H : Hp} {p : Addr} {o : HO} (n : H p = none) : Nt H (upd H p o) := fun c u _ h => by rw [upd_ne (ne_of_none h n)]; exact h
/-- the heap but the box -/
def hide (b : Addr) (H : Hp) : Hp := fun c => if c = b then none else H c
theorem hide_ne {b c : Addr} {H : Hp} (h : c ≠ b) : hide b H c = H c := if_neg h
theorem hide_some {b c : Addr} {H : Hp} {o : HO} (h : hide b H c = some o) : c ≠ b ∧ H c = some o := by
  unfold hide at h
  by_cases q : c = b
  · rw [if_pos q] at h
    cases h
  · rw [if_neg q] at h
    exact ⟨q, h⟩
theorem KB.nt {b : Addr} {H H' : Hp} (k : KB b H H') : Nt (hide b H) (hide b H') := fun c o _ h => by
  obtain ⟨n, h⟩ := hide_some h
  rw [hide_ne n]
  exact k c o n h
theorem hide_nt (b : Addr) (H : Hp) : Nt (hide b H) H := fun c o _ h => (hide_some h).2
theorem Nt.seq {K : PySem.W.Frag} {H H' : Hp} {a : Addr} {xs : List V} (e : Nt H H') (h : SqL K H a xs) : SqL K H' a xs := by
  rcases h with (h | ⟨o, h⟩) | h
  · exact .inl (.inl (e _ _ (by simp) h))
  · exact .inl (.inr ⟨o, e _ _ (by simp) h⟩)
  · exact .inr h
theorem Nt.seqT {K : PySem.W.Frag} {H H' : Hp} {a : Addr} {xs : List V} (e : Nt H H') (h : SqT K H a xs) : SqT K H' a xs := by
  rcases h with (h | ⟨o, h⟩) | h
  · exact .inl (.inl (e _ _ (by simp) h))
  · exact .inl (.inr ⟨o, e _ _ (by simp) h⟩)
  · exact .inr h
section
variable {K : PySem.W.Frag} {H H' : Hp}
mutual
theorem dp_nt (e : Nt H H') : ∀ {v : V} {d : PyData}, Dp K H v d → Dp K H' v d
  | _, _, .non => .non
  | _, _, .bl b => .bl b
  | _, _, .int i => .int i
  | _, _, .str z => .str z
  | _, _, .lst h a => .lst (e.seq h) (dpAll_nt e a)
  | _, _, .tup h a => .tup (e.seqT h) (dpAll_nt e a)
theorem dpAll_nt (e : Nt H H') : ∀ {vs : List V} {ds : List PyData}, DpAll K H vs ds → DpAll K H' vs ds
  | _, _, .nil => .nil
  | _, _, .cons h t => .cons (dp_nt e h) (dpAll_nt e t)
end
theorem dp_list {v : V} {ds : List PyData} (h : Dp K H v (.list ds)) : ∃ a xs, v = .ref a ∧ SqL K H a xs ∧ DpAll K H xs ds := by
  cases h with
  | lst h a => exact ⟨_, _, rfl, h, a⟩
theorem dp_tuple {v : V} {ds : List PyData} (h : Dp K H v (.tuple ds)) : ∃ a xs, v = .ref a ∧ SqT K H a xs ∧ DpAll K H xs ds := by
  cases h with
  | tup h a => exact ⟨_, _, rfl, h, a⟩
theorem dp_str {v : V} {z : Str} (h : Dp K H v (.str z)) : v = .str z := by
  cases h
  rfl
theorem dp_int {v : V} {i : Int} (h : Dp K H v (.int i)) : v = .int i := by
  cases h
  rfl
theorem dp_none {v : V} (h : Dp K H v .none) : v = .non := by
  cases h
  rfl
theorem dpAll_len : ∀ {xs : List V} {ds : List PyData}, DpAll K H xs ds → xs.length = ds.length
  | _, _, .nil => rfl
  | _, _, .cons _ t => congrArg (· + 1) (dpAll_len t)
theorem dpAll_get : ∀ {xs : List V} {ds : List PyData}, DpAll K H xs ds → ∀ {i : Nat} {x : V}, xs[i]? = some x → ∃ d, ds[i]? = some d ∧ Dp K H x d
  | _, _, .nil, _, _, h => by simp at h
  | _, _, .cons a _, 0, _, h => by simp at h; subst h; exact ⟨_, rfl, a⟩
  | _, _, .cons _ t, i + 1, x, h => by
    obtain ⟨d, h1, h2⟩ := dpAll_get t (i := i) (x := x) (by simpa using h)
    exact ⟨d, by simpa using h1, h2⟩
theorem dpAll_at : ∀ {xs : List V} {ds : List PyData}, DpAll K H xs ds → ∀ {i : Nat} {d : PyData}, ds[i]? = some d → ∃ x, xs[i]? = some x ∧ Dp K H x d
  | _, _, .nil, _, _, h => by simp at h
  | _, _, .cons a _, 0, _, h => by simp at h; subst h; exact ⟨_, rfl, a⟩
  | _, _, .cons _ t, i + 1, d, h => by
    obtain ⟨x, h1, h2⟩ := dpAll_at t (i := i) (d := d) (by simpa using h)
    exact ⟨x, by simpa using h1, h2⟩
theorem dpAll_app : ∀ {xs ys : List V} {ds es : List PyData}, DpAll K H xs ds → DpAll K H ys es → DpAll K H (xs ++ ys) (ds ++ es)
  | _, _, _, _, .nil, h => h
  | _, _, _, _, .cons a t, h => .cons a (dpAll_app t h)
theorem dp_two {v : V} {c d : PyData} (h : Dp K H v (.tuple [c, d])) : ∃ a x y, v = .ref a ∧ SqT K H a [x, y] ∧ Dp K H x c ∧ Dp K H y d := by
  obtain ⟨a, xs, rfl, h1, h2⟩ := dp_tuple h
  cases h2 with
  | cons p t =>
    cases t with
    | cons q t =>
      cases t
      exact ⟨a, _, _, rfl, h1, p, q⟩
theorem dp_three {v : V} {c d e : PyData} (h : Dp K H v (.tuple [c, d, e])) : ∃ a x y z, v = .ref a ∧ SqT K H a [x, y, z] ∧ Dp K H x c ∧ Dp K H y d ∧ Dp K H z e := by
  obtain ⟨a, xs, rfl, h1, h2⟩ := dp_tuple h
  cases h2 with
  | cons p t =>
    cases t with
    | cons q t =>
      cases t with
      | cons r t =>
        cases t
        exact ⟨a, _, _, _, rfl, h1, p, q, r⟩
theorem dp_four {v : V} {c d e f : PyData} (h : Dp K H v (.list [c, d, e, f])) : ∃ a x y z u, v = .ref a ∧ SqL K H a [x, y, z, u] ∧ Dp K H x c ∧ Dp K H y d ∧ Dp K H z e ∧ Dp K H u f := by
  obtain ⟨a, xs, rfl, h1, h2⟩ := dp_list h
  cases h2 with
  | cons p t =>
    cases t with
    | cons q t =>
      cases t with
      | cons r t =>
        cases t with
        | cons s t =>
          cases t
          exact ⟨a, _, _, _, _, rfl, h1, p, q, r, s⟩
end
/-! ### names that are good, worlds of lines -/
def NameOk (z : Str) : Prop := 1 ≤ z.length ∧ z.length ≤ 6 ∧ z.cps.toList.all lc = true
theorem NameOk.good {z : Str} (h : NameOk z) : Good z := fun c hc => by
  have := List.all_eq_true.mp h.2.2 c hc
  unfold lc at this
  simp at this
  omega
theorem NameOk.nm {z : Str} (h : NameOk z) : nm (.str z) = true := by
  obtain ⟨h1, h2, h3⟩ := h
  simp [My.nm, h1, h2, h3]
theorem NameOk.th {z : Str} {H : Hp} (h : NameOk z) : Th H (.str z) := .str z (by have := h.2.1; omega) h.good
structure Wd where
  ps : List (Str × Int)
  st : List (Str × Int)
  lo : List (Int × Int × Int)
  sp : Str
def longsOk (top : Int) : Int → List (Int × Int × Int) → Prop
  | _, [] => True
  | low, (f, l, h) :: r => low ≤ f ∧ f + 2 ≤ l ∧ l ≤ top ∧ 0 ≤ h ∧ h ≤ 1 ∧ longsOk top l r
structure Wd.Ok (w : Wd) : Prop where
  p2 : 2 ≤ w.ps.length
  p6 : w.ps.length ≤ 6
  nm : ∀ p ∈ w.ps, NameOk p.1 ∧ 1 ≤ p.2 ∧ p.2 ≤ 3
  nd : (w.ps.map (·.1)).Nodup
  sl : w.st.length + 1 = w.ps.length
  st : ∀ p ∈ w.st, (p.1 = "staff" ∨ p.1 = "ticket") ∧ 0 ≤ p.2 ∧ p.2 ≤ 1
  ll : w.lo.length ≤ 2
  lo : longsOk (w.ps.length - 1 : Nat) 0 w.lo
  sn : NameOk w.sp
  s0 : w.sp ∉ w.ps.map (·.1)
def dP (p : Str × Int) : PyData := .tuple [.str p.1, .int p.2]
def dL (p : Int × Int × Int) : PyData := .tuple [.int p.1, .int p.2.1, .int p.2.2]
def Wd.data (w : Wd) : PyData := .list [.list (w.ps.map dP), .list (w.st.map dP), .list (w.lo.map dL), .str w.sp]
end My

set_option maxRecDepth 100000
set_option maxHeartbeats 4000000
/-! the names that a law draws: three ways, all good, all apart -/
namespace My
open PySem PySem.Spec PyProof.Rows L2 GxR Gd TL
theorem tl_inj {a b : Str} (h : tl a = tl b) : a = b := by
  obtain ⟨⟨x⟩⟩ := a
  obtain ⟨⟨y⟩⟩ := b
  have e : x = y := h
  rw [e]
theorem name_of {z : Str} (h1 : 1 ≤ (tl z).length) (h2 : (tl z).length ≤ 6) (h3 : ∀ c ∈ tl z, lc c = true) : NameOk z := by
  rw [tl_len] at h1 h2
  exact ⟨h1, h2, List.all_eq_true.mpr h3⟩
theorem tl_to {z : Str} {j : Nat} (h : j ≤ (tl z).length) : tl (cutS z none (some (j : Int))) = (tl z).take j := by
  show (((tl z).drop (HT.sIx z.length 0 none)).take (HT.sIx z.length z.length (some (j : Int)) - HT.sIx z.length 0 none)) = _
  rw [HT.sIx_none, HT.sIx_nat, ← tl_len, Nat.min_eq_left h]
  simp
theorem tl_cut {z : Str} {a b : Nat} (h : b ≤ (tl z).length) (ha : a ≤ b) : tl (cutS z (some (a : Int)) (some (b : Int))) = ((tl z).drop a).take (b - a) := by
  show (((tl z).drop (HT.sIx z.length 0 (some (a : Int)))).take (HT.sIx z.length z.length (some (b : Int)) - HT.sIx z.length 0 (some (a : Int)))) = _
  rw [HT.sIx_nat, HT.sIx_nat, ← tl_len, Nat.min_eq_left h, Nat.min_eq_left (Nat.le_trans ha h)]
theorem joinL_ones : ∀ cs : List Nat, joinL [] (cs.map fun c => [c]) = cs
  | [] => rfl
  | [c] => rfl
  | c :: d :: r => by
    have ih := joinL_ones (d :: r)
    show [c] ++ ([] ++ joinL [] ((d :: r).map fun c => [c])) = _
    rw [ih]
    rfl
theorem tl_ones (cs : List Nat) : tl (Txt.join (Str.ofString "") (cs.map fun c => ⟨#[c]⟩)) = cs := by
  rw [join_eq, tl_join, List.map_map]
  have e : tl (Str.ofString "") = [] := by decide +kernel
  rw [e]
  exact joinL_ones cs
/-- all good, all apart -/
structure Nms (ns : List Str) : Prop where
  ok : ∀ z ∈ ns, NameOk z
  nd : ns.Nodup
theorem nms_of {f : Nat → Str} {n : Nat} (ok : ∀ k, k < n → NameOk (f k)) (ap : ∀ j k, j < k → k < n → f j ≠ f k) : Nms ((List.range n).map f) := by
  refine ⟨fun z hz => ?_, ?_⟩
  · obtain ⟨k, hk, rfl⟩ := List.mem_map.mp hz
    exact ok k (List.mem_range.mp hk)
  · show ((List.range n).map f).Pairwise (· ≠ ·)
    rw [List.pairwise_map]
    have p : (List.range n).Pairwise (fun a b => a < b) := List.pairwise_lt_range
    refine List.Pairwise.imp_of_mem ?_ p
    intro a b ha hb hab
    exact ap a b hab (List.mem_range.mp hb)
/-! the first way -/
def wds : List Str := ["place", "staff", "ticket", "low", "high", "long", "pilot", "train", "at", "to", "in", "get", "a"]
theorem wds_ok : ∀ z ∈ wds, NameOk z := by
  intro z hz
  have h : (wds.all fun z => decide (1 ≤ (tl z).length) && decide ((tl z).length ≤ 6) && (tl z).all lc) = true := by decide +kernel
  have q := List.all_eq_true.mp h z hz
  rw [Bool.and_eq_true, Bool.and_eq_true, decide_eq_true_eq, decide_eq_true_eq] at q
  exact name_of q.1.1 q.1.2 (List.all_eq_true.mp q.2)
theorem wds_nd : wds.Nodup := by decide +kernel
def nm0 (a : Int) (k : Nat) : Str := (wds[((a + 5 * (k : Int)) % 13).toNat]?).getD ⟨#[]⟩
theorem nm0_at (a : Int) (k : Nat) : atI wds ((a + 5 * (k : Int)) % 13) = some (nm0 a k) := by
  have h0 := Int.emod_nonneg (a + 5 * (k : Int)) (by decide : (13 : Int) ≠ 0)
  have h1 := Int.emod_lt_of_pos (a + 5 * (k : Int)) (by decide : (0 : Int) < 13)
  have hl : wds.length = 13 := by decide +kernel
  generalize e : (a + 5 * (k : Int)) % 13 = m at h0 h1
  obtain ⟨j, rfl⟩ := Int.eq_ofNat_of_zero_le h0
  have hj : j < wds.length := by omega
  unfold nm0
  rw [e, Int.toNat_natCast, List.getElem?_eq_getElem hj]
  exact atI_nat (List.getElem?_eq_getElem hj)
theorem nm0_ok (a : Int) (n : Nat) (hn : n ≤ 7) : Nms ((List.range n).map (nm0 a)) := by
  have hl : wds.length = 13 := by decide +kernel
  have key : ∀ k : Nat, ∃ j : Nat, ((j : Nat) : Int) = (a + 5 * (k : Int)) % 13 ∧ ∃ h : j < wds.length, nm0 a k = wds[j] := fun k => by
    have h0 := Int.emod_nonneg (a + 5 * (k : Int)) (by decide : (13 : Int) ≠ 0)
    have h1 := Int.emod_lt_of_pos (a + 5 * (k : Int)) (by decide : (0 : Int) < 13)
    unfold nm0
    generalize (a + 5 * (k : Int)) % 13 = m at h0 h1
    obtain ⟨j, rfl⟩ := Int.eq_ofNat_of_zero_le h0
    have hj : j < wds.length := by omega
    exact ⟨j, rfl, hj, by rw [Int.toNat_natCast, List.getElem?_eq_getElem hj]; rfl⟩
  refine nms_of (fun k hk => ?_) (fun j k hjk hk e => ?_)
  · obtain ⟨j, _, hj, e⟩ := key k
    rw [e]
    exact wds_ok _ (List.getElem_mem hj)
  · obtain ⟨j1, a1, b1, c1⟩ := key j
    obtain ⟨j2, a2, b2, c2⟩ := key k
    rw [c1, c2] at e
    have nd : wds.Pairwise (· ≠ ·) := wds_nd
    rcases Nat.lt_trichotomy j1 j2 with h | h | h
    · exact List.pairwise_iff_getElem.mp nd j1 j2 b1 b2 h e
    · omega
    · exact List.pairwise_iff_getElem.mp nd j2 j1 b2 b1 h e.symm
/-! the second way -/
structure Stem (z : Str) : Prop where
  len : (tl z).length = 6
  ok : ∀ c ∈ tl z, lc c = true
def nm1 (z : Str) (a : Int) (k : Nat) : Str := cutS z none (some (1 + (a + 5 * (k : Int)) % 6))
theorem nm1_ok {z : Str} (h : Stem z) (a : Int) (n : Nat) (hn : n < 7) : Nms ((List.range n).map (nm1 z a)) := by
  have key : ∀ k : Nat, ∃ j : Nat, ((j : Nat) : Int) = 1 + (a + 5 * (k : Int)) % 6 ∧ 1 ≤ j ∧ j ≤ 6 ∧ tl (nm1 z a k) = (tl z).take j := fun k => by
    have h0 := Int.emod_nonneg (a + 5 * (k : Int)) (by decide : (6 : Int) ≠ 0)
    have h1 := Int.emod_lt_of_pos (a + 5 * (k : Int)) (by decide : (0 : Int) < 6)
    unfold nm1
    generalize (a + 5 * (k : Int)) % 6 = m at h0 h1
    obtain ⟨j, rfl⟩ := Int.eq_ofNat_of_zero_le h0
    refine ⟨1 + j, by omega, by omega, by omega, ?_⟩
    have e : (1 + (j : Int)) = ((1 + j : Nat) : Int) := by omega
    rw [e]
    exact tl_to (by rw [h.len]; omega)
  refine nms_of (fun k hk => ?_) (fun j k hjk hk e => ?_)
  · obtain ⟨j, _, j1, j6, e⟩ := key k
    have hl := h.len
    refine name_of ?_ ?_ (fun c hc => h.ok c (by rw [e] at hc; exact List.mem_of_mem_take hc)) <;> rw [e, List.length_take] <;> omega
  · obtain ⟨j1, a1, _, b1, c1⟩ := key j
    obtain ⟨j2, a2, _, b2, c2⟩ := key k
    have l := congrArg (fun z => (tl z).length) e
    have hl := h.len
    simp only [c1, c2, List.length_take] at l
    omega
/-! the third way -/
def abc : Str := "abcdefghijklmnopqrstuvwxyz"
def lt1 (a : Int) (k : Nat) : Nat := 97 + ((a + 7 * (k : Int)) % 26).toNat
theorem abc_at {i : Int} (h0 : 0 ≤ i) (h1 : i < 26) : atI abc.cps.toList i = some (97 + i.toNat) := by
  obtain ⟨j, rfl⟩ := Int.eq_ofNat_of_zero_le h0
  have h : ∀ j : Fin 26, abc.cps.toList[j.1]? = some (97 + j.1) := by decide +kernel
  rw [Int.toNat_natCast]
  exact atI_nat (h ⟨j, by omega⟩)
theorem lt1_at (a : Int) (k : Nat) : atI abc.cps.toList ((a + 7 * (k : Int)) % 26) = some (lt1 a k) := abc_at (Int.emod_nonneg _ (by decide)) (Int.emod_lt_of_pos _ (by decide))
theorem lt1_lc (a : Int) (k : Nat) : lc (lt1 a k) = true := by
  have h0 := Int.emod_nonneg (a + 7 * (k : Int)) (by decide : (26 : Int) ≠ 0)
  have h1 := Int.emod_lt_of_pos (a + 7 * (k : Int)) (by decide : (0 : Int) < 26)
  unfold lt1 lc
  rw [Bool.and_eq_true, decide_eq_true_eq, decide_eq_true_eq]
  omega
def nm2 (z : Str) (a t : Int) (k : Nat) : Str := cutS z none (some t) ++ ⟨#[lt1 a k]⟩ ++ cutS z (some t) (some (t + (a + (k : Int)) % (6 - t)))
theorem nm2_ok {z : Str} (h : Stem z) (a t : Int) (t0 : 0 ≤ t) (t6 : t < 6) (n : Nat) (hn : n ≤ 7) : Nms ((List.range n).map (nm2 z a t)) := by
  obtain ⟨t, rfl⟩ := Int.eq_ofNat_of_zero_le t0
  have hl := h.len
  have key : ∀ k : Nat, ∃ m : Nat, t + m < 6 ∧ tl (nm2 z a t k) = (tl z).take t ++ ([lt1 a k] ++ ((tl z).drop t).take m) := fun k => by
    have h0 := Int.emod_nonneg (a + (k : Int)) (show (6 - (t : Int)) ≠ 0 by omega)
    have h1 := Int.emod_lt_of_pos (a + (k : Int)) (show (0 : Int) < 6 - (t : Int) by omega)
    unfold nm2
    generalize (a + (k : Int)) % (6 - (t : Int)) = m at h0 h1
    obtain ⟨m, rfl⟩ := Int.eq_ofNat_of_zero_le h0
    refine ⟨m, by omega, ?_⟩
    rw [tl_append, tl_append, tl_to (by omega), show ((t : Int) + (m : Int)) = ((t + m : Nat) : Int) by omega, tl_cut (by omega) (by omega), show t + m - t = m by omega, List.append_assoc]
  refine nms_of (fun k hk => ?_) (fun j k hjk hk e => ?_)
  · obtain ⟨m, hm, e⟩ := key k
    refine name_of ?_ ?_ (fun c hc => ?_)
    · rw [e, List.length_append, List.length_append]
      simp
      omega
    · rw [e, List.length_append, List.length_append, List.length_take, List.length_take, List.length_drop]
      simp
      omega
    · rw [e] at hc
      rcases List.mem_append.mp hc with q | q
      · exact h.ok c (List.mem_of_mem_take q)
      · rcases List.mem_append.mp q with q | q
        · rw [List.mem_singleton.mp q]
          exact lt1_lc a k
        · exact h.ok c (List.mem_of_mem_drop (List.mem_of_mem_take q))
  · obtain ⟨m1, hm1, c1⟩ := key j
    obtain ⟨m2, hm2, c2⟩ := key k
    have l := congrArg (fun z => (tl z)[t]?) e
    simp only [c1, c2] at l
    have lt : ((tl z).take t).length = t := by rw [List.length_take]; omega
    have g : ∀ (c : Nat) (r : List Nat), ((tl z).take t ++ ([c] ++ r))[t]? = some c := fun c r => by
      rw [List.getElem?_append_right (by omega), lt, Nat.sub_self]
      rfl
    rw [g, g] at l
    have l := Option.some.inj l
    unfold lt1 at l
    have h0 := Int.emod_nonneg (a + 7 * (j : Int)) (by decide : (26 : Int) ≠ 0)
    have h1 := Int.emod_nonneg (a + 7 * (k : Int)) (by decide : (26 : Int) ≠ 0)
    omega
end My

set_option maxRecDepth 100000
set_option maxHeartbeats 400000
/-! Names wiped behind a comprehension. -/
namespace My
open PySem PySem.Spec PyProof.Rows L2 GxR Gd TL
theorem wipe_set_out {σ : L2.St} {i : Nat} {x : Option V} : ∀ {vs : List Nat}, i ∉ vs → wipe (σ.set i x) vs = (wipe σ vs).set i x
  | [], _ => rfl
  | v :: vs, h => by
    simp only [List.mem_cons, not_or] at h
    show (wipe (σ.set i x) vs).set v none = ((wipe σ vs).set v none).set i x
    rw [wipe_set_out h.2, List.set_comm _ _ h.1]
theorem wipe_set {σ : L2.St} {i : Nat} {x : Option V} : ∀ {vs : List Nat}, i ∈ vs → wipe (σ.set i x) vs = wipe σ vs
  | [], h => by cases h
  | v :: vs, h => by
    show (wipe (σ.set i x) vs).set v none = (wipe σ vs).set v none
    by_cases q : i ∈ vs
    · rw [wipe_set q]
    · have e : i = v := by
        rcases List.mem_cons.mp h with e | e
        · exact e
        · exact absurd e q
      subst e
      rw [wipe_set_out q, List.set_set]
theorem wipe_wipe {σ : L2.St} : ∀ {us vs : List Nat}, (∀ u ∈ us, u ∈ vs) → wipe (wipe σ us) vs = wipe σ vs
  | [], _, _ => rfl
  | u :: us, vs, h => by
    show wipe ((wipe σ us).set u none) vs = _
    rw [wipe_set (h u (by simp)), wipe_wipe fun x hx => h x (by simp [hx])]
theorem wipe1 {σ : L2.St} {vs : List Nat} {i : Nat} {a : Option V} (hi : i ∈ vs) : wipe ((wipe σ vs).set i a) vs = wipe σ vs := by
  rw [wipe_set hi, wipe_wipe fun _ h => h]
theorem wipe2 {σ : L2.St} {vs : List Nat} {i j : Nat} {a b : Option V} (hi : i ∈ vs) (hj : j ∈ vs) : wipe (((wipe σ vs).set i a).set j b) vs = wipe σ vs := by
  rw [wipe_set hj, wipe_set hi, wipe_wipe fun _ h => h]
theorem wipe3 {σ : L2.St} {vs : List Nat} {i j k : Nat} {a b c : Option V} (hi : i ∈ vs) (hj : j ∈ vs) (hk : k ∈ vs) : wipe ((((wipe σ vs).set i a).set j b).set k c) vs = wipe σ vs := by
  rw [wipe_set hk, wipe_set hj, wipe_set hi, wipe_wipe fun _ h => h]
theorem wipe4 {σ : L2.St} {vs : List Nat} {i j k l : Nat} {a b c d : Option V} (hi : i ∈ vs) (hj : j ∈ vs) (hk : k ∈ vs) (hl : l ∈ vs) : wipe (((((wipe σ vs).set i a).set j b).set k c).set l d) vs = wipe σ vs := by
  rw [wipe_set hl, wipe_set hk, wipe_set hj, wipe_set hi, wipe_wipe fun _ h => h]
end My

set_option maxRecDepth 100000
set_option maxHeartbeats 1000000
/-! The end of a law whose own def shows dicts: the module table is tracked, so that no new thing is it. For laws without tables. -/
namespace Gd
open PySem PySem.Spec PyProof.Rows L2 GxR
/-- the module table: it is there -/
def smU : HO := .ext fun h => ∃ o, h.get? sysModules = some o
def SmAt (H : Hp) : Prop := ∃ o, H sysModules = some (.frz o smU)
theorem SmAt.same {H H' : Hp} (h : SmAt H) (s : Same H H') : SmAt H' := let ⟨o, e⟩ := h; ⟨o, s _ _ e⟩
theorem smU_ne {u : HO} (n : ∀ φ, u ≠ .ext φ) : smU ≠ u := fun z => n _ z.symm
open Classical in
noncomputable def hs0 (K : PySem.W.Frag) (a : Addr) (vs : List Value) (ns : List Int) (o1 : Obj) : Hp := fun b =>
  if b = sysModules then some (.frz o1 smU) else if b = a ∧ K.lookup a = none then some (.frz (scriptO vs) (.lst (ns.map V.int))) else none
theorem hs0_inv {K : PySem.W.Frag} {a b : Addr} {vs : List Value} {ns : List Int} {o1 : Obj} {u : HO} (h : hs0 K a vs ns o1 b = some u) :
    (b = sysModules ∧ u = .frz o1 smU) ∨ (b = a ∧ K.lookup a = none ∧ u = .frz (scriptO vs) (.lst (ns.map V.int))) := by
  unfold hs0 at h
  split at h
  · rename_i c
    exact .inl ⟨c, (Option.some.inj h).symm⟩
  · split at h
    · rename_i c
      exact .inr ⟨c.1, c.2, (Option.some.inj h).symm⟩
    · cases h
section
variable {P : Program} {w : World} {K : PySem.W.Frag} {mg mb : Str → Option Value} {CX : CXT} {k : Nat} {fa a : Addr} {fd : FuncData} {x : Str} {sp : Sp} {s1 : Shared} {vs : List Value} {ns : List Int}
theorem law_scall (KX : K.In s1.heap) (nsG : s1.heap.Ns mainGlobals mg) (nsB : s1.heap.Ns builtinsNs mb) (isB : ∀ x : Str, x ≠ "__name__" → mb x = bootBuiltins x) (lim : s1.heap.NoLimit) (gens : s1.gens = #[])
    (hsm : ∃ o, s1.heap.get? sysModules = some o) (k1 : K.lookup sysModules = none) (na : a ≠ sysModules) (ha : s1.heap.get? a = some (scriptO vs)) (hi : IntsAre vs ns) (hl : ns.length ≤ sizeLine) (hr : Room k callerA)
    (F : ∀ base : Heap, K.In base → base.Ns mainGlobals mg → GOk P w K mg base CX k fa fd [x] sp) (hbind : ∀ (s : Shared) (u : Value), BindsTo s fd ⟨[u], []⟩ [(x, u)])
    (hsp : ∀ H : Hp, SmAt H → SqL K H a (ns.map V.int) → sp [.ref a] H (fun v _ => v = .bl true) fun _ _ _ => False) (hCX : ∀ H e s', CX [] H s1 (fun _ _ _ => False) e s' → False) :
    codeAny (model P w) callerA (.call (.ref fa) ⟨[.ref a], []⟩) (fun r s' => r = .ok (.ret (.bool true)) ∧ OldK s1.heap s'.heap ∧ s'.os = s1.os ∧ AllBare s'.gens) s1 := by
  have rv := vals_ints hi
  have hlen := hi.length
  obtain ⟨o1, ho1⟩ := hsm
  let H := hs0 K a vs ns o1
  have off : ∀ {b : Addr}, b ≠ sysModules → b ≠ a → H b = none := fun {b} n1 n2 => by
    cases q : H b with
    | none => rfl
    | some u =>
      rcases hs0_inv q with ⟨e, _⟩ | ⟨e, _⟩
      · exact absurd e n1
      · exact absurd e n2
  have dic : ∀ {b : Addr} {m : Str → Option Value}, b ≠ sysModules → s1.heap.Ns b m → (hidT s1.heap H).Ns b m := by
    rintro b m n1 ⟨o, es, ep, e, d, rest⟩
    refine ⟨o, es, ep, hidT_get e (off n1 ?_), d, rest⟩
    rintro rfl
    rw [ha] at e
    obtain rfl := Option.some.inj e
    cases d
  have KH : K.In (hidT s1.heap H) := by
    intro b o e
    refine hidT_get (KX b o e) ?_
    cases q : H b with
    | none => rfl
    | some u =>
      rcases hs0_inv q with ⟨rfl, _⟩ | ⟨rfl, z, _⟩
      · rw [k1] at e
        cases e
      · rw [z] at e
        cases e
  have limH : (hidT s1.heap H).NoLimit := let ⟨mc, h1, h2⟩ := lim; ⟨mc, dic (by decide) h1, h2⟩
  have M : L2.Mod K mg (hidT s1.heap H) := ⟨KH, dic (by decide) nsG, ⟨mb, dic (by decide) nsB, isB⟩, limH⟩
  have hS : SqL K H a (ns.map V.int) := by
    cases q : K.lookup a with
    | none => exact .inl (.inr ⟨scriptO vs, (if_neg na).trans (if_pos ⟨rfl, q⟩)⟩)
    | some o =>
      have e := KX a o q
      rw [ha] at e
      obtain rfl := Option.some.inj e
      exact .inr ⟨_, vs.toArray, _, q, rfl, rfl, rfl, by rw [List.size_toArray, hlen]; exact hl, by simpa using rv⟩
  have hok : HOk P w H s1.heap := by
    intro b u q
    rcases hs0_inv q with ⟨rfl, rfl⟩ | ⟨rfl, _, rfl⟩
    · exact ⟨ho1, ⟨_, ho1⟩, ⟨_, ho1⟩, fun h1 h2 ⟨o, z⟩ k => ⟨o, k _ z⟩⟩
    · exact ⟨ha, by rw [List.length_map]; exact hl, vs, _, rv, ha⟩
  have e0 : Env0 P w K mg (hidT s1.heap H) callerA [] s1 H :=
    ⟨rfl, M, fun b o e => of_hidT e, Nat.le_of_eq (hidT_size _ _), trivial, (fun b hb => by cases (show b ∈ ([] : List Addr) from hb)), hok, .of_eq gens⟩
  refine codeAny_mono ((F _ KH (dic (by decide) nsG)).go callerA [] s1 H ⟨[.ref a], []⟩ [.ref a] [.ref a] (fun v _ => v = .bl true) (fun _ _ _ => False) rfl hr e0 (hbind s1 (.ref a)) (.cons rfl .nil) (hsp H ⟨o1, if_pos rfl⟩ hS)) ?_
  intro r z h
  match r, h with
  | .ok .next, h => exact h.elim
  | .ok .brk, h => exact h.elim
  | .ok .cont, h => exact h.elim
  | .error e, h => exact (hCX H e z h).elim
  | .ok (.ret u), h =>
    obtain ⟨v, G, os, bare, un, hokG, rv', q⟩ := h
    obtain rfl : v = .bl true := q
    obtain rfl : u = Value.bool true := rv'
    have plain : ∀ b o, s1.heap.get? b = some o → z.heap.get? b = some o := by
      intro b o e
      cases q : H b with
      | none => exact un.keep b o e q (fun y => by cases (show b ∈ ([] : List Addr) from y)) (by simp)
      | some y =>
        rcases hs0_inv q with ⟨rfl, rfl⟩ | ⟨rfl, _, rfl⟩
        · obtain ⟨e2, _⟩ := hokG sysModules _ (un.frzs _ _ _ q)
          rw [ho1] at e
          exact Option.some.inj e ▸ e2
        · obtain ⟨e2, _⟩ := hokG b _ (un.frzs b _ _ q)
          rw [ha] at e
          exact Option.some.inj e ▸ e2
    exact ⟨rfl, ⟨fun b o e => .inl (plain b o e), fun b o e => ⟨o, plain b o e⟩⟩, os, bare⟩
end
/-- what is to be known of such a law -/
def GLawS (l : PySem.W.OpenLaw) (w : World) (K : PySem.W.Frag) (CX : CXT) (k n : Nat) (x : Str) (mg : Str → Option Value) (fa : Addr) : Prop :=
  ∃ (fd : FuncData) (sp : Sp), K.lookup sysModules = none ∧ (∀ (s : Shared) (u : Value), BindsTo s fd ⟨[u], []⟩ [(x, u)]) ∧
    (∀ (H : Hp) (a : Addr) (ns : List Int), ns.length ≤ n → SmAt H → SqL K H a (ns.map V.int) → sp [.ref a] H (fun v _ => v = .bl true) fun _ _ _ => False) ∧
    ∀ base : Heap, K.In base → base.Ns mainGlobals mg → GOk l.prog w K mg base CX k fa fd [x] sp
open PySem.W in
theorem walk_s {l : PySem.W.OpenLaw} {n k : Nat} {q : Program} {loose : List Str} {XP : (Str → Option Value) → Heap → Prop} {YP : World → Heap → Prop} {d : DefRec} {K : Params → PySem.W.Frag} {CX : World → CXT} {x : Str}
    (no : importsNone q = true) (hn : l.most = some n) (small : n ≤ sizeLine) (hdf : d.params.defaults = []) (hr : Room k callerA) (hY : ∀ (w : World) (h : Heap), YP w h → (K w.params).In h)
    (F : ∀ (w : World) (mg : Str → Option Value) (fa : Addr) (h : Heap), YP w h → (K w.params).In h → h.Ns mainGlobals mg → mg d.name = some (.ref fa) → GLawS l w (K w.params) (CX w) k n x mg fa)
    (hCX : ∀ (w : World) (H : Hp) (s : Shared) (e : Value) (s' : Shared), CX w [] H s (fun _ _ _ => False) e s' → False) :
    PySem.W.WalkO q loose XP YP l.row.toRowW d [] (fun f vs => PySem.call f vs) := by
  intro w s0 s1 mg mb G Y fa o pm cd doc dV kV ho hd hcd hD hmg hg args vals as pre lay rd well low
  obtain ⟨a, vs, ns, rfl, rfl, hobj, hints, hlen⟩ := Att.script_of hn pre well
  have na : a ≠ sysModules := by
    cases rd with
    | cons r1 r2 =>
      cases r1 with
      | list _ _ _ _ => exact beq_eq_false_iff_ne.mp (low a (by simp))
  have KX := hY w _ Y
  obtain ⟨fd, sp, k1, hb, hsp, hF⟩ := F w mg fa _ Y KX G.T.g hmg
  have run := law_scall KX G.T.g G.T.b G.T.builtins G.T.nolimit hg (let ⟨_, ⟨o, _, _, e, _⟩, _⟩ := (G.T.seer no).mods; ⟨o, e⟩) k1 na hobj hints (Nat.le_trans hlen small) hr hF hb (fun H a1 a2 => hsp H a ns hlen a1 a2) (fun H e s' => hCX w H s1 e s')
  refine enter_call (codeAny_mono run ?_)
  rintro r z ⟨rfl, old, os, bare⟩
  exact ⟨.inl ⟨.bool true, .bool true, [], rfl, fun _ => rfl, .bool true, Att.post_true l _, fun _ => ⟨List.Pairwise.nil, fun _ m => (nomatch m)⟩⟩, old, os, bare⟩
end Gd

set_option maxRecDepth 100000
set_option maxHeartbeats 1000000
/-! Data with dicts: what repr asks of them. -/
namespace My
open PySem PySem.Spec PyProof.Rows L2 GxR Gd TL
theorem same_new {H : Hp} {p : Addr} {o : HO} (n : H p = none) : Same H (upd H p o) := fun b u e => by rw [upd_ne (ne_of_none e n)]; exact e
theorem sameT {K : PySem.W.Frag} {H H' : Hp} {a : Addr} {xs : List V} (s : Same H H') (h : SqT K H a xs) : SqT K H' a xs := by
  rcases h with (h | ⟨o, h⟩) | h
  · exact .inl (.inl (s _ _ h))
  · exact .inl (.inr ⟨o, s _ _ h⟩)
  · exact .inr h
def keyD : Key → PyData
  | .inl i => .int i
  | .inr x => .str x
mutual
/-- v is the data d, dicts too -/
inductive Dq (K : PySem.W.Frag) (H : Hp) : V → PyData → Prop
  | non : Dq K H .non .none
  | bl (b : Bool) : Dq K H (.bl b) (.bool b)
  | int (i : Int) : Dq K H (.int i) (.int i)
  | str (z : Str) : Dq K H (.str z) (.str z)
  | lst {a : Addr} {xs : List V} {ds : List PyData} (e : SqL K H a xs) (h : DqAll K H xs ds) : Dq K H (.ref a) (.list ds)
  | tup {a : Addr} {xs : List V} {ds : List PyData} (e : SqT K H a xs) (h : DqAll K H xs ds) : Dq K H (.ref a) (.tuple ds)
  | dic {a : Addr} {kvs : List (Key × V)} {ds : List (PyData × PyData)} (e : H a = some (.dK kvs)) (h : DqKv K H kvs ds) : Dq K H (.ref a) (.dict ds)
inductive DqAll (K : PySem.W.Frag) (H : Hp) : List V → List PyData → Prop
  | nil : DqAll K H [] []
  | cons {v : V} {vs : List V} {d : PyData} {ds : List PyData} (h : Dq K H v d) (t : DqAll K H vs ds) : DqAll K H (v :: vs) (d :: ds)
inductive DqKv (K : PySem.W.Frag) (H : Hp) : List (Key × V) → List (PyData × PyData) → Prop
  | nil : DqKv K H [] []
  | cons {k : Key} {v : V} {r : List (Key × V)} {d : PyData} {ds : List (PyData × PyData)} (h : Dq K H v d) (t : DqKv K H r ds) : DqKv K H ((k, v) :: r) ((keyD k, d) :: ds)
end
mutual
theorem Dq.of {K : PySem.W.Frag} {H : Hp} : ∀ {v : V} {d : PyData}, Dp K H v d → Dq K H v d
  | _, _, .non => .non
  | _, _, .bl b => .bl b
  | _, _, .int i => .int i
  | _, _, .str z => .str z
  | _, _, .lst e h => .lst e (DqAll.of h)
  | _, _, .tup e h => .tup e (DqAll.of h)
theorem DqAll.of {K : PySem.W.Frag} {H : Hp} : ∀ {vs : List V} {ds : List PyData}, DpAll K H vs ds → DqAll K H vs ds
  | _, _, .nil => .nil
  | _, _, .cons h t => .cons (Dq.of h) (DqAll.of t)
end
mutual
theorem Dq.same {K : PySem.W.Frag} {H H' : Hp} (s : Same H H') : ∀ {v : V} {d : PyData}, Dq K H v d → Dq K H' v d
  | _, _, .non => .non
  | _, _, .bl b => .bl b
  | _, _, .int i => .int i
  | _, _, .str z => .str z
  | _, _, .lst e h => .lst (s.seq e) (DqAll.same s h)
  | _, _, .tup e h => .tup (sameT s e) (DqAll.same s h)
  | _, _, .dic e h => .dic (s _ _ e) (DqKv.same s h)
theorem DqAll.same {K : PySem.W.Frag} {H H' : Hp} (s : Same H H') : ∀ {vs : List V} {ds : List PyData}, DqAll K H vs ds → DqAll K H' vs ds
  | _, _, .nil => .nil
  | _, _, .cons h t => .cons (Dq.same s h) (DqAll.same s t)
theorem DqKv.same {K : PySem.W.Frag} {H H' : Hp} (s : Same H H') : ∀ {kvs : List (Key × V)} {ds : List (PyData × PyData)}, DqKv K H kvs ds → DqKv K H' kvs ds
  | _, _, .nil => .nil
  | _, _, .cons h t => .cons (Dq.same s h) (DqKv.same s t)
end
theorem keyD_reads {h : Heap} {k : Key} {v : Value} (e : keyIs k v = true) : Reads h v (keyD k) [] := by
  rcases keyIs_shape e with ⟨i, t, rfl, rfl⟩ | ⟨x, t, rfl, rfl⟩
  · exact .int i t
  · exact .str x t
section
variable {X : Cx} {pins : List (Addr × Obj)} {σ : L2.St} {H : Hp} {s : Shared}
theorem ne_sm {K : PySem.W.Frag} {H : Hp} {a : Addr} {xs : List V} (n : K.lookup sysModules = none) (sm : SmAt H) (h : SqL K H a xs) : a ≠ sysModules := by
  rintro rfl
  obtain ⟨o, e⟩ := sm
  rcases h with (h | ⟨u, h⟩) | ⟨u, _, _, h, _⟩
  · rw [e] at h
    cases h
  · rw [e] at h
    cases h
  · rw [n] at h
    cases h
mutual
theorem Dq.reads (n : X.K.lookup sysModules = none) (sm : SmAt H) (I : Inv X pins σ H s) : ∀ (d : PyData) (v : V) (u : Value), Dq X.K H v d → RelV v u → ∃ as, Reads s.heap u d as ∧ sysModules ∉ as
  | .none, _, _, h, r => by
    cases h
    cases r
    exact ⟨_, .none, by simp⟩
  | .bool b, _, _, h, r => by
    cases h
    cases r
    exact ⟨_, .bool b, by simp⟩
  | .int i, _, _, h, r => by
    cases h
    obtain ⟨t, rfl⟩ := r
    exact ⟨_, .int i t, by simp⟩
  | .str z, _, _, h, r => by
    cases h
    obtain ⟨t, rfl⟩ := r
    exact ⟨_, .str z t, by simp⟩
  | .list ds, _, _, h, r => by
    cases h with
    | lst hs ha =>
      cases r
      obtain ⟨its, rv, ⟨o, m, ho, hc, _, hd⟩, _⟩ := I.list hs
      obtain ⟨as, hr, no⟩ := Dq.readsAll n sm I ds _ its ha rv
      exact ⟨_, .list ho hc hd hr, fun m => (List.mem_cons.mp m).elim (ne_sm n sm hs).symm no⟩
  | .tuple ds, _, _, h, r => by
    cases h with
    | tup hs ha =>
      cases r
      obtain ⟨its, rv, ⟨o, ho, hc, m, hd⟩, _⟩ := I.tuple hs
      obtain ⟨as, hr, no⟩ := Dq.readsAll n sm I ds _ its ha rv
      exact ⟨_, .tuple ho hc hd hr, no⟩
  | .dict ds, _, _, h, r => by
    cases h with
    | dic e hk =>
      cases r
      obtain ⟨_, ne, vs, rel, o, es, ep, ho, hx, hd, _, hp, _⟩ := dk_of I.hok e
      obtain ⟨as, bs, h1, h2, n1, n2⟩ := Dq.readsKv n sm I ds _ vs es.toList hk rel hp
      refine ⟨_, .dict ho hx.1 hd h1 h2, fun m => ?_⟩
      rw [List.cons_append] at m
      rcases List.mem_cons.mp m with m | m
      · exact (beq_eq_false_iff_ne.mp ne) m.symm
      · exact (List.mem_append.mp m).elim n1 n2
theorem Dq.readsAll (n : X.K.lookup sysModules = none) (sm : SmAt H) (I : Inv X pins σ H s) : ∀ (ds : List PyData) (vs : List V) (us : List Value), DqAll X.K H vs ds → Vals vs us → ∃ as, ReadsAll s.heap us ds as ∧ sysModules ∉ as
  | [], _, _, h, r => by
    cases h
    cases r
    exact ⟨_, .nil, by simp⟩
  | d :: ds, _, _, h, r => by
    cases h with
    | cons h1 h2 =>
      cases r with
      | cons r1 r2 =>
        obtain ⟨as, q1, n1⟩ := Dq.reads n sm I d _ _ h1 r1
        obtain ⟨bs, q2, n2⟩ := Dq.readsAll n sm I ds _ _ h2 r2
        exact ⟨_, .cons q1 q2, fun m => (List.mem_append.mp m).elim n1 n2⟩
theorem Dq.readsKv (n : X.K.lookup sysModules = none) (sm : SmAt H) (I : Inv X pins σ H s) : ∀ (ds : List (PyData × PyData)) (kvs : List (Key × V)) (vs : List (Key × Value)) (es : List DictEntry), DqKv X.K H kvs ds → KV kvs vs → Pairs (mixKind X.prog X.w) es vs →
    ∃ as bs, ReadsAll s.heap (es.map (·.key)) (ds.map (·.1)) as ∧ ReadsAll s.heap (es.map (·.val)) (ds.map (·.2)) bs ∧ sysModules ∉ as ∧ sysModules ∉ bs
  | [], _, _, _, h, r, p => by
    cases h
    cases r
    cases p
    exact ⟨_, _, .nil, .nil, by simp, by simp⟩
  | (_, d) :: ds, _, _, _, h, r, p => by
    cases h with
    | cons h1 h2 =>
      cases r with
      | cons r1 r2 =>
        cases p with
        | cons p1 p2 p3 =>
          obtain ⟨as, q1, n1⟩ := Dq.reads n sm I d _ _ h1 r1.2
          obtain ⟨bs, cs, q2, q3, n2, n3⟩ := Dq.readsKv n sm I ds _ _ _ h2 r2 p3
          refine ⟨_, _, .cons (keyD_reads ?_) q2, .cons ?_ q3, by simpa using n2, fun m => (List.mem_append.mp m).elim n1 n3⟩
          · have e := r1.1
            dsimp only at e ⊢
            rw [e]
            exact p1
          · dsimp only
            rw [p2]
            exact q1
end
end
/-- repr(v), v data with dicts -/
def rReprQ (K : PySem.W.Frag) : List V → Hp → VK → Prop := fun xs H Q => ∃ v d, xs = [v] ∧ SmAt H ∧ Dq K H v d ∧ d.showable = true ∧ d.depth ≤ 100 ∧ d.shown.length ≤ sizeLine ∧ Q (.str d.shown) H
theorem call_reprQ {X : Cx} {k : Nat} (n : X.K.lookup sysModules = none) (gd : X.A.guards = some []) (hr : Room k X.A) : CallR X (.builtin "repr") (rReprQ X.K) := by
  rintro pins s σ H xs us Q I r ⟨v, d, rfl, sm, dq, hs, hdep, hsz, q⟩
  have whole : ∀ {a : Addr} {as : List Addr}, Reads s.heap (.ref a) d as → sysModules ∉ as → wpAny (model X.prog X.w) X.A (call (.builtin "repr") [.ref a]) (EP X pins σ Q) X.xe s := by
    intro a as rd no
    have hun := hr.un
    exact repr_of_reads' rd hs (fun _ => no) gd (by omega) (fun _ _ z => z) (fun h' u tk hk => ⟨.str _, H, I.kept hk, ⟨_, rfl⟩, q⟩) hsz
  cases dq with
  | non => exact call_repr gd hr pins s σ H _ us Q I r ⟨_, _, rfl, .non, hs, hdep, hsz, q⟩
  | bl b => exact call_repr gd hr pins s σ H _ us Q I r ⟨_, _, rfl, .bl b, hs, hdep, hsz, q⟩
  | int i => exact call_repr gd hr pins s σ H _ us Q I r ⟨_, _, rfl, .int i, hs, hdep, hsz, q⟩
  | str z => exact call_repr gd hr pins s σ H _ us Q I r ⟨_, _, rfl, .str z, hs, hdep, hsz, q⟩
  | lst e h =>
    obtain ⟨as, rd, no⟩ := Dq.reads n sm I _ _ us.head! (.lst e h) (by cases r with | cons a b => cases b; exact a)
    cases r with
    | cons a b => cases b; cases a; exact whole rd no
  | tup e h =>
    obtain ⟨as, rd, no⟩ := Dq.reads n sm I _ _ us.head! (.tup e h) (by cases r with | cons a b => cases b; exact a)
    cases r with
    | cons a b => cases b; cases a; exact whole rd no
  | dic e h =>
    obtain ⟨as, rd, no⟩ := Dq.reads n sm I _ _ us.head! (.dic e h) (by cases r with | cons a b => cases b; exact a)
    cases r with
    | cons a b => cases b; cases a; exact whole rd no
end My

set_option maxRecDepth 100000
set_option maxHeartbeats 1000000
/-! x in texts, x any thing -/
namespace My
open PySem PySem.Spec PyProof.Rows L2 GxR Gd TL
open PySem.SeqAt PySem.MeetsSeq in
theorem str_eq_dict (b : Str) (u : Tok) (l : Addr) (c : Value) (es : Array DictEntry) (n : Nat) (dd : Option Addr) (sl : Array (Option Value)) :
    Meets (Builtin.«str.__eq__» ⟨[.str b u, .ref l], []⟩) (fun _ R s => s.heap.get? l = some { cls := c, dict := dd, data := .dict es n, slots := sl } ∧ R (.ok (.ret .notImplemented)) s) :=
  .of_wp fun prog w A R s h => by obtain ⟨hp, g, d, tk, os⟩ := s; obtain ⟨hl, h⟩ := h; wp_walk using wpAny_loadPart hl, wpAny_load hl; exact ⟨_, rfl, h⟩
end My
namespace My
open PySem PySem.Spec PyProof.Rows L2 GxR Gd TL
open PySem.SeqAt PySem.MeetsSeq in
theorem rcAt_str_dict {A : Around} {s : Shared} {l : Addr} {o : Obj} {es : Array DictEntry} {n : Nat} (b : Str) (u : Tok) (ho : s.heap.get? l = some o) (hc : o.cls = .type "dict") (hd : o.data = .dict es n) (hu : A.units < cLine) : RcAt A s (.str b u) (.ref l) false := fun prog w E Q h => by
  obtain ⟨cls, dd, data, sl⟩ := o
  simp only at hc hd
  subst hc hd
  have ty : s.TypeIs (.ref l) "dict" := ⟨_, ho, rfl⟩
  refine rc_eq_decline_or (k := false) (typeIs_str s b u) ty (by decide) PySem.F.sub_dict_str PySem.F.slot_str_eq PySem.F.slot_dict_eq_refl
    (fun _ hq => call_meets PySem.F.slot_str_eq (typeIs_str s b u) PySem.F.entry_str_eq (PySem.F.args_str_eq_2 _ _) (str_eq_dict b u l (.type "dict") es n dd sl) ⟨ho, hq⟩)
    (fun _ hq => ?_)
    (fun _ hq => wpAny_of_eq (rfl : isSame (.str b u) (.ref l) = pure false) hq) (.inr hu) h
  refine wpAny_call_entry PySem.F.slot_dict_eq_refl ty PySem.F.entry_dict_eq ?_ (PySem.F.args_dict_eq_2 _ _)
  show wpAny _ _ (Builtin.Dict.dictSlotArgs "__eq__" ⟨[.ref l, .str b u], []⟩ >>= _) _ _ s
  refine wpAny_bind ?_
  unfold Builtin.Dict.dictSlotArgs
  refine wpAny_bind (wpAny_notOrdered_dict ty ?_)
  show wpAny _ _ (pure (Value.ref l, Value.str b u)) _ _ s
  refine wpAny_pure ?_
  refine wpAny_bind (wpAny_isInstance (T := "str") (typeIs_str s b u) PySem.F.sub_str_dict ?_)
  simp only [Bool.not_false, if_true]
  refine wpAny_bind (wpAny_rule (wpAny_pure ⟨_, rfl, hq⟩))
open PySem.SeqAt PySem.MeetsSeq in
theorem eqAt_str_dict {A : Around} {s : Shared} {l : Addr} {o : Obj} {es : Array DictEntry} {n : Nat} (b : Str) (u : Tok) (ho : s.heap.get? l = some o) (hc : o.cls = .type "dict") (hd : o.data = .dict es n) (hu : A.units < cLine) : EqAt A s (.str b u) (.ref l) false := fun prog w E Q h => by
  unfold eqBool
  refine wpAny_holding ?_
  refine wpAny_ite_split (fun hab => absurd (eq_of_beq hab) nofun) (fun _ => ?_)
  exact wpAny_bind (rcAt_str_dict b u ho hc hd hu prog w E _ (wpAny_truthy_bool h))
/-- any thing in a list of texts -/
def rInT (K : PySem.W.Frag) : R2 := fun x y H Q => ∃ (p : Addr) (zs : List Str), y = .ref p ∧ SqL K H p (zs.map V.str) ∧
  ((flatV x = true ∧ Q (.bl (inV x (zs.map V.str))) H) ∨ ((∃ a, x = .ref a ∧ ((∃ xs, SqL K H a xs) ∨ (∃ xs, SqT K H a xs) ∨ ∃ kvs, H a = some (.dK kvs))) ∧ Q (.bl false) H))
theorem any_false {α : Type} : ∀ xs : List α, (xs.any fun _ => false) = false
  | [] => rfl
  | _ :: r => by rw [List.any_cons, any_false r]; rfl
theorem op_inT {X : Cx} (hu : X.A.units + 2 < cLine) : OpR X (compareOp .In) (rInT X.K) := by
  rintro pins s σ H x y v u Q I rx ry ⟨p, zs, rfl, hp, cs⟩
  rcases cs with ⟨fx, q⟩ | ⟨⟨a, rfl, ha⟩, q⟩
  · refine op_in_seq pins s σ H x _ v u Q I rx ry ⟨p, _, rfl, .inl hp, fx, ?_, q⟩
    rw [List.all_map]
    exact List.all_eq_true.mpr fun _ _ => rfl
  · cases ry
    cases rx
    obtain ⟨its, r, pl, hz⟩ := I.list hp
    refine SeqAt.in_listAt (fun _ => false) pl.isList (fun w hw => ?_) ⟨.bl _, H, I, rfl, ?_⟩
    · obtain ⟨z, hz, rz⟩ : ∃ z : Str, z ∈ zs ∧ RelV (.str z) w := by
        have hw2 : w ∈ its := by simpa using hw
        clear pl hz hp hw
        induction zs generalizing its with
        | nil => cases r; cases hw2
        | cons z zs ih =>
          cases r with
          | cons r1 r2 =>
            rcases List.mem_cons.mp hw2 with rfl | hw
            · exact ⟨z, List.mem_cons_self, r1⟩
            · obtain ⟨z', h1, h2⟩ := ih _ r2 hw
              exact ⟨z', List.mem_cons_of_mem _ h1, h2⟩
      obtain ⟨t, rfl⟩ := rz
      have hu2 : X.A.in1.units < cLine := by show X.A.units + 1 < cLine; omega
      rcases ha with ⟨xs, h⟩ | ⟨xs, h⟩ | ⟨kvs, h⟩
      · obtain ⟨its2, _, pl2, _⟩ := I.list h
        exact SeqAt.EqAt.str_list z t pl2.isList hu2
      · obtain ⟨its2, _, pl2, _⟩ := I.tuple h
        exact SeqAt.EqAt.str_tuple z t pl2 hu2
      · obtain ⟨_, _, vs, _, o, es, ep, h1, h2, h3, _⟩ := dk_of I.hok h
        exact eqAt_str_dict z t h1 h2.1 h3 hu2
    · rw [← Array.any_toList, any_false]
      exact q
def rInTt (K : PySem.W.Frag) : R2 := fun x y H Q => ∃ (p : Addr) (zs : List Str), y = .ref p ∧ SqT K H p (zs.map V.str) ∧
  ((flatV x = true ∧ Q (.bl (inV x (zs.map V.str))) H) ∨ ((∃ a, x = .ref a ∧ ((∃ xs, SqL K H a xs) ∨ (∃ xs, SqT K H a xs) ∨ ∃ kvs, H a = some (.dK kvs))) ∧ Q (.bl false) H))
theorem op_inTt {X : Cx} (hu : X.A.units + 2 < cLine) : OpR X (compareOp .In) (rInTt X.K) := by
  rintro pins s σ H x y v u Q I rx ry ⟨p, zs, rfl, hp, cs⟩
  rcases cs with ⟨fx, q⟩ | ⟨⟨a, rfl, ha⟩, q⟩
  · refine op_in_seq pins s σ H x _ v u Q I rx ry ⟨p, _, rfl, .inr hp, fx, ?_, q⟩
    rw [List.all_map]
    exact List.all_eq_true.mpr fun _ _ => rfl
  · cases ry
    cases rx
    obtain ⟨its, r, pl, hz⟩ := I.tuple hp
    refine SeqAt.in_tupleAt (fun _ => false) pl (fun w hw => ?_) ⟨.bl _, H, I, rfl, ?_⟩
    · obtain ⟨z, hz, rz⟩ : ∃ z : Str, z ∈ zs ∧ RelV (.str z) w := by
        have hw2 : w ∈ its := by simpa using hw
        clear pl hz hp hw
        induction zs generalizing its with
        | nil => cases r; cases hw2
        | cons z zs ih =>
          cases r with
          | cons r1 r2 =>
            rcases List.mem_cons.mp hw2 with rfl | hw
            · exact ⟨z, List.mem_cons_self, r1⟩
            · obtain ⟨z', h1, h2⟩ := ih _ r2 hw
              exact ⟨z', List.mem_cons_of_mem _ h1, h2⟩
      obtain ⟨t, rfl⟩ := rz
      have hu2 : X.A.in1.units < cLine := by show X.A.units + 1 < cLine; omega
      rcases ha with ⟨xs, h⟩ | ⟨xs, h⟩ | ⟨kvs, h⟩
      · obtain ⟨its2, _, pl2, _⟩ := I.list h
        exact SeqAt.EqAt.str_list z t pl2.isList hu2
      · obtain ⟨its2, _, pl2, _⟩ := I.tuple h
        exact SeqAt.EqAt.str_tuple z t pl2 hu2
      · obtain ⟨_, _, vs, _, o, es, ep, h1, h2, h3, _⟩ := dk_of I.hok h
        exact eqAt_str_dict z t h1 h2.1 h3 hu2
    · rw [← Array.any_toList, any_false]
      exact q
end My

set_option maxRecDepth 100000
set_option maxHeartbeats 4000000
/-! enumerate(a tuple) -/
namespace My
open PySem PySem.Spec PyProof.Rows L2
open Builtin in
set_option maxHeartbeats 1000000 in
theorem meets_enum_of {v : Value} {o : Obj} {H : Heap → Prop} (B : Begins v o H) :
    Meets (Builtin.«enumerate.__new__» ⟨[.type "enumerate", v], []⟩) (fun _ R s => H s.heap ∧
      R (.ok (.ret (.ref (s.heap.push o).objs.size))) { s with heap := (s.heap.push o).push { cls := .type "enumerate", data := .fields #[.none, .bool false, .ref s.heap.objs.size, rawInt 0, .none, .none] } }) :=
  .of_wp fun prog w A R s hh => by
    obtain ⟨hp, g, d, tk, os⟩ := s
    obtain ⟨hB, hR⟩ := hh
    have hsub := sub_enumerate
    have it1 : ∀ {A' : Around} {E : Value → Shared → Prop} {Q : Value → Shared → Prop}, Q (.ref hp.objs.size) ⟨hp.push o, g, d, tk, os⟩ → wpAny (model prog w) A' (pyIter v) Q E ⟨hp, g, d, tk, os⟩ :=
      fun z => B.iter prog w _ _ ⟨hp, g, d, tk, os⟩ _ hB z
    wp_walk using it1
    refine wpAny_stack_any fun st => wpAny_pure ?_
    split
    · rename_i c _ _ _ _ _
      cases (c == Value.type "enumerate") <;> (wp_walk using it1; exact ⟨_, rfl, hR⟩)
    · wp_walk using it1
      exact ⟨_, rfl, hR⟩
theorem call_enum_tuple {prog : Program} {w : World} {A : Around} {E : Value → Shared → Prop} {s : Shared} {a : Addr} {items : Array Value} {Q : Value → Shared → Prop} (ht : s.heap.IsTuple a items)
    (h : ∀ h', IsEnum h' (s.heap.objs.size + 1) s.heap.objs.size 0 .none → h'.IsTupleIter s.heap.objs.size a 0 → (∀ b o, s.heap.get? b = some o → h'.get? b = some o) →
      Q (.ref (s.heap.objs.size + 1)) { s with heap := h' }) : wpAny (model prog w) A (call (.type "enumerate") [.ref a]) Q E s := by
  refine callType_new F.called_enumerate (by decide) (F.typeCall_enumerate_1 _) (F.newCall_enumerate_1 _) (fun obj => F.args_object_init_2 obj _) F.entry_enumerate_new (meets_enum_of (begins_tuple a items)) ⟨ht, ?_⟩
  have z1 : (s.heap.push { cls := .type "tuple_iterator", data := .fields #[.ref a, .int 0 0] }).objs.size = s.heap.objs.size + 1 := Heap.size_push ..
  have ge := Heap.get?_push_size (s.heap.push { cls := .type "tuple_iterator", data := .fields #[.ref a, .int 0 0] }) (o := { cls := .type "enumerate", data := .fields #[.none, .bool false, .ref s.heap.objs.size, rawInt 0, .none, .none] }) rfl
  rw [z1] at ge
  show _ ∧ _
  rw [z1]
  exact ⟨⟨_, ge, rfl⟩, h _ ge ⟨_, Heap.get?_push_of_some _ (Heap.get?_push_size _ rfl), rfl, rfl⟩ fun b o x => Heap.get?_push_of_some _ (Heap.get?_push_of_some _ x)⟩
/-- the tuple at a, each item in a new pair with its number -/
def IteT (K : PySem.W.Frag) (a : Addr) : It :=
  ⟨fun i H => ∃ (xs : List V) (x : V), SqT K H a xs ∧ xs[i]? = some x,
   fun i H v H' => ∃ T x, v = .ref T ∧ H T = none ∧ H' = upd H T (.tup [.int (i : Nat), x]) ∧ ∀ xs, SqT K H a xs → xs[i]? = some x,
   fun i H => ∃ xs : List V, SqT K H a xs ∧ xs.length ≤ i⟩
theorem turn_enumT {P : Program} {w : World} {K : PySem.W.Frag} {elts : List Expr} {kk : Nat} {tp : Pos} (a e it : Addr) :
    Turn P w K (.Tuple elts kk tp) (IteT K a) [e, it] e (fun i h => (∃ old, IsEnum h e it ((i : Nat) : Int) old) ∧ h.IsTupleIter it a i ∧ e ≠ it) := by
  have two : ∀ {b : Addr}, b ∈ [e, it] → b = e ∨ b = it := fun {b} hb => by simpa using hb
  constructor
  case mem => exact List.mem_cons_self
  case obj =>
    rintro i h ⟨⟨old, he⟩, ⟨o, ho, hc, hd⟩, hne⟩ b hb
    rcases two hb with rfl | rfl
    · exact ⟨_, he, fun v q => nomatch q⟩
    · exact ⟨o, ho, fun v q => by rw [hd] at q; cases q⟩
  case keep =>
    rintro i h h' ⟨⟨old, he⟩, ⟨o, ho, r⟩, hne⟩ k
    exact ⟨⟨old, k e List.mem_cons_self _ he⟩, ⟨o, k it (by simp) _ ho, r⟩, hne⟩
  case self =>
    rintro A i s Q E ⟨⟨_, he⟩, _⟩ hQ
    exact wpAny_pyIter_enum he hQ
  case item =>
    rintro X rfl rfl rfl hc i pins s σ H E I hf ⟨⟨old, he⟩, hit, hne⟩ ⟨xs, x, hq, hx⟩
    obtain ⟨its, rv, p, hz⟩ := I.tuple hq
    have pt : s.heap.IsTuple a its.toArray := let ⟨o, h1, h2, n, h3⟩ := p; ⟨o, h1, h2, n, h3⟩
    obtain ⟨u, hu, ru⟩ := rv.get hx
    have hi : i < its.toArray.size := by
      have := (List.getElem?_eq_some_iff.mp hu).1
      simpa using this
    have ane : a ≠ it := by
      rintro rfl
      obtain ⟨o1, h1, h2, _⟩ := hit
      obtain ⟨o2, h3, h4, _⟩ := pt
      rw [h1] at h3
      cases h3
      rw [h2] at h4
      simp at h4
    have aee : a ≠ e := by
      rintro rfl
      obtain ⟨o2, h3, h4, _⟩ := pt
      have h1 : s.heap.get? a = some _ := he
      rw [h1] at h3
      cases h3
      simp at h4
    have le : e < s.heap.objs.size := Heap.lt_size he
    have li : it < s.heap.objs.size := by
      obtain ⟨_, q, _⟩ := hit
      exact Heap.lt_size q
    have D := Draws.tuple (prog := X.prog) (w := X.w) (A := X.A.in1) (show X.A.in1.handled = none from I.ok.hd hc) it a ane its.toArray
    refine wpAny_pyNext_enum_itemD D he ⟨hit, pt⟩ hi hne (fun z => ?_) fun y h' tk hy ho hst hT hsz hk => ?_
    · rcases List.mem_cons.mp z with z | z
      · exact hne z
      · exact aee (List.mem_singleton.mp z).symm
    · have ey : y = u := by
        have z : its.toArray[i]? = some u := by simpa using hu
        exact Option.some.inj (hy.symm.trans z)
      subst ey
      refine ⟨_, rfl, wpAny_letOwnedTupleGo_enum (s := { s with heap := h', toks := tk + 1 }) ho fun h2 he2 sb => ?_⟩
      have hT2 : h2.get? s.heap.objs.size = some { cls := .type "tuple", data := .seq #[.int i tk, y] } := (sb.2 _ (Nat.ne_of_gt le)).trans hT
      have new : ObjOk X.prog X.w (upd H s.heap.objs.size (.tup [.int (i : Nat), x])) h2 s.heap.objs.size (.tup [.int (i : Nat), x]) :=
        ⟨(by show 2 ≤ sizeLine; decide), [.int i tk, y], .cons ⟨_, rfl⟩ (.cons ru .nil), ⟨_, hT2, rfl, _, rfl⟩⟩
      have I1 := I.turnedNew (t' := tk + 1) (ch := [e, it]) (h' := h2) (fun b o hb q => (sb.2 b (fun z => hb (by simp [z]))).trans (hk b o (fun z => hb (by simp [z])) (fun z => hb (by simp [z])) q)) hf (Nat.le_refl _) new
      refine ⟨.ref s.heap.objs.size, _, I1, rfl, ⟨_, x, rfl, I.hok.fresh (Nat.le_refl _), rfl, fun ys hy => by rw [I.tuple_inj hy hq]; exact hx⟩, ⟨⟨y, ?_⟩, ?_, hne⟩, fun b hb => ?_⟩
      · have e1 : ((i + 1 : Nat) : Int) = (i : Int) + 1 := by omega
        rw [e1]
        exact he2
      · obtain ⟨o, q1, q2⟩ := hst.1
        exact ⟨o, (sb.2 it (Ne.symm hne)).trans q1, q2⟩
      · have lb : b < s.heap.objs.size := by
          rcases two hb with rfl | rfl
          · exact le
          · exact li
        rw [upd_ne (Nat.ne_of_lt lb)]
        exact (hf b hb).1
  case done =>
    rintro X rfl rfl rfl hc i pins s σ H E I hf ⟨⟨old, he⟩, hit, hne⟩ ⟨xs, hq, hx⟩
    obtain ⟨its, rv, p, hz⟩ := I.tuple hq
    have pt : s.heap.IsTuple a its.toArray := let ⟨o, h1, h2, n, h3⟩ := p; ⟨o, h1, h2, n, h3⟩
    have ane : a ≠ it := by
      rintro rfl
      obtain ⟨o1, h1, h2, _⟩ := hit
      obtain ⟨o2, h3, h4, _⟩ := pt
      rw [h1] at h3
      cases h3
      rw [h2] at h4
      simp at h4
    obtain ⟨f0, f1, f2, f3, f4, f5⟩ := hf it (by simp)
    have hl := rv.length
    -- at the end the place is not told by Draws (it stands at any i ≥ the size): the library's end of a tuple's iterator
    have D : Draws X.prog X.w X.A.in1 it [it, a] i (fun _ _ => False) (fun j h => j = i ∧ h.IsTupleIter it a i ∧ h.IsTuple a its.toArray) := by
      constructor
      case live => rintro j h ⟨_, ⟨o, ho, _⟩, _⟩; exact ⟨o, ho⟩
      case frame => rintro j h h' ⟨ej, st1, st2⟩ hk; exact ⟨ej, st1.at fun o e => hk it (by simp) o e, st2.at fun o e => hk a (by simp) o e⟩
      case item => rintro j s Q E hj ⟨ej, _⟩ _; exact absurd hj (by omega)
      case done => rintro s Q E ⟨_, st1, st2⟩ hE; exact wpAny_nextOf_tuple_end (show X.A.in1.handled = none from I.ok.hd hc) st1 st2 (by simp; omega) hE
    exact wpAny_pyNext_enum_endD D he ⟨rfl, hit, pt⟩ fun h' eb => ⟨rfl, I.turned (t' := s.toks) (fun b o hb q => eb b o hb q) f0 f1 f3 f4 f5⟩
def iEnumT (K : PySem.W.Frag) (ta : TA) : TI := fun σ H R => ta σ H fun vs H1 => ∃ a xs, vs = [.ref a] ∧ SqT K H1 a xs ∧ R (IteT K a) H1
theorem pi_enumT {X : Cx} {e : Expr} {ta : TA} {p pos tp : Pos} {elts : List Expr} {kk : Nat} (hg : Gl X "enumerate") (hm : X.mg "enumerate" = none) (ha : PA X [e] ta) (hs : starEach [e] X.env = [(false, eval e X.env)] := by rfl) :
    PI X (.Tuple elts kk tp) (.Call (.Name "enumerate" p) [e] [] pos) (iEnumT X.K ta) := by
  refine ⟨fun pins s σ H R I h => Call_ (ld_blt I hg hm boot_enumerate (PyProof.Rows.callWith_type1 (thn (ha.run pos pins s σ H _ I h) ?_) hs rfl))⟩
  rintro us s1 ⟨vs, H1, I1, r1, a, xs, rfl, hq, q⟩
  cases r1 with
  | cons r rr =>
    cases rr
    cases r
    obtain ⟨its, rv, p, hz⟩ := I1.tuple hq
    have pt : s1.heap.IsTuple a its.toArray := let ⟨o, h1, h2, n, h3⟩ := p; ⟨o, h1, h2, n, h3⟩
    refine call_enum_tuple pt fun h' he hit hk => wpAny_pyIter_enum he ?_
    have I2 : Inv X pins σ H1 { s1 with heap := h' } := I1.kept (t' := s1.toks) hk
    refine ⟨s1.heap.objs.size + 1, [s1.heap.objs.size + 1, s1.heap.objs.size], _, _, H1, rfl, I2, turn_enumT a (s1.heap.objs.size + 1) s1.heap.objs.size, ⟨⟨.none, he⟩, hit, Nat.succ_ne_self _⟩, fun b hb => ?_, q⟩
    have lb : s1.heap.objs.size ≤ b := by
      have e' : b = s1.heap.objs.size + 1 ∨ b = s1.heap.objs.size := by simpa using hb
      rcases e' with z | z
      · rw [z]; exact Nat.le_add_right _ _
      · rw [z]; exact Nat.le_refl _
    exact I1.fpOk lb (I1.hok.fresh lb)
theorem walk_enumT {K : PySem.W.Frag} {a : Addr} {xs : List V} : Walk (IteT K a) xs.length (fun H => SqT K H a xs) (YPair (fun i => some (.int (i : Nat))) (fun i => xs[i]?)) := by
  refine ⟨fun i _ hi q => ⟨xs, xs[i], q, by simp [hi]⟩, fun _ q => ⟨xs, q, Nat.le_refl _⟩, ?_⟩
  rintro i H v H' _ q ⟨T, x, h1, h2, h3, h4⟩
  exact ⟨T, .int (i : Nat), x, h1, h2, h3, rfl, h4 xs q⟩
/-- a dict comprehension over a walk -/
theorem dc_it {J : It} {n : Nat} {G : Hp → Prop} {Y : Nat → Hp → V → Hp → Prop} (w : Walk J n G Y) {g : TG} {tt : TT} {tk tv : TE} {vs : List Nat} {σ : L2.St} {H1 : Hp} {D : Addr} {Qd : Hp → Prop} (Pv : Nat → Hp → Prop) (h0 : Pv 0 (upd H1 D (.dK [])))
    (hG : ∀ i H, i ≤ n → Pv i H → G H)
    (hs : ∀ i x H H', i < n → Pv i H → Y i H x H' → g x (wipe σ vs) H' fun σ2 H2 => wipe σ2 vs = wipe σ vs ∧ tt σ2 H2 fun b H3 =>
      if b = true then tk σ2 H3 fun y H4 => tv σ2 H4 fun z H5 => ∃ kvs k, y = kV k ∧ H5 D = some (.dK kvs) ∧ kvs.length < sizeLine ∧ Pv (i + 1) (upd H5 D (.dK (putK kvs k z))) else Pv (i + 1) H3) (hd : ∀ H, Pv n H → Qd H) :
    ∃ W : Nat → Nat → Hp → Prop, (∃ m, W 0 m (upd H1 D (.dK []))) ∧ ∀ i m H, W i m H →
      (J.stop i H ∧ Qd H) ∨ (J.go i H ∧ ∃ Nx : Hp → Prop, (∀ H', Nx H' → ∃ m', m' < m ∧ W (i + 1) m' H') ∧ ∀ x H', J.yld i H x H' → g x (wipe σ vs) H' fun σ2 H2 => wipe σ2 vs = wipe σ vs ∧ tt σ2 H2 fun b H3 =>
        if b = true then tk σ2 H3 fun y H4 => tv σ2 H4 fun z H5 => ∃ kvs k, y = kV k ∧ H5 D = some (.dK kvs) ∧ kvs.length < sizeLine ∧ Nx (upd H5 D (.dK (putK kvs k z))) else Nx H3) := by
  refine ⟨fun i m H => i + m = n ∧ Pv i H, ⟨n, by simp, h0⟩, ?_⟩
  rintro i m H ⟨ei, p⟩
  have g1 := hG i H (by omega) p
  cases m with
  | zero =>
    have e : i = n := by omega
    subst e
    exact .inl ⟨w.stops H g1, hd H p⟩
  | succ m =>
    refine .inr ⟨w.goes i H (by omega) g1, Pv (i + 1), fun H' q => ⟨m, Nat.lt_succ_self m, by omega, q⟩, fun x H' y => hs i x H H' (by omega) p (w.yields i H x H' (by omega) g1 y)⟩
end My

set_option maxRecDepth 100000
set_option maxHeartbeats 400000
namespace R7
open PySem PySem.Spec PyProof.Rows L2 GxR Gd TL My
theorem same_alloc {H : Hp} {p : Addr} {o : HO} (n : H p = none) : Same H (upd H p o) := fun c u h => by rw [upd_ne (ne_of_none h n)]; exact h
theorem take_at {α : Type} {l : List α} {i : Nat} {x : α} (h : l[i]? = some x) : l.take (i + 1) = l.take i ++ [x] := by
  rw [List.take_add_one, h]
  rfl
theorem lt_line (i : Nat) (h : i ≤ 100) : i < sizeLine := Nat.lt_of_le_of_lt h (by decide)
theorem two_line : 2 ≤ sizeLine := by decide
theorem three_line : 3 ≤ sizeLine := by decide
theorem drop_atG {α : Type} {xs : List α} {i : Nat} {x : α} (h : xs[i]? = some x) : xs.drop i = x :: xs.drop (i + 1) := by
  obtain ⟨hi, e⟩ := (List.getElem?_eq_some_iff.mp h)
  rw [← e]
  exact List.drop_eq_getElem_cons hi
theorem strs_dp {K : PySem.W.Frag} {H : Hp} : ∀ l : List Str, DpAll K H (l.map V.str) (l.map PyData.str)
  | [] => .nil
  | z :: r => .cons (.str z) (strs_dp r)
theorem small_line {n : Nat} (h : n ≤ 1000000) : n ≤ sizeLine := Nat.le_trans h (by rw [sizeLine_eq]; decide)
theorem fit2 {n : Nat} (h : n ≤ 1000000) : n ≤ sizeLine := small_line h
theorem fit {n : Nat} (h : n ≤ 1000) : n ≤ sizeLine := small_line (by omega)
theorem KB.same {D : Addr} {H H' : Hp} (n : H D = none) (k : KB D H H') : Same H H' := fun c o h => k c o (ne_of_none h n) h
/-- a comprehension that makes texts, by any walk over values -/
theorem strs_it {J : It} {G : Hp → Prop} {xs : List V} {out : List Str} (w : Walk J xs.length G (YAt xs)) {g : TG} {te : TE} {vs : List Nat} {σ : L2.St} {H : Hp} {D : Addr} {Qd : Hp → Prop} (hl : out.length = xs.length) (h20 : out.length ≤ 100) (hD : H D = none)
    (hG : ∀ H', KB D H H' → G H')
    (hs : ∀ (i : Nat) (v : V) (H' : Hp) (C : VK) (B : Hp → Prop), xs[i]? = some v → KB D H H' → (∀ z H4, out[i]? = some z → Same H' H4 → C (.str z) H4) → g v (wipe σ vs) H' fun σ2 H2 => wipe σ2 vs = wipe σ vs ∧ tYes σ2 H2 fun b H3 => if b = true then te σ2 H3 C else B H3)
    (hd : ∀ H', KB D H H' → H' D = some (.lst (out.map V.str)) → Qd H') :
    ∃ W : Nat → Nat → Hp → Prop, (∃ m, W 0 m (upd H D (.lst []))) ∧ ∀ i m H, W i m H →
    (J.stop i H ∧ Qd H) ∨ (J.go i H ∧ ∃ Nx : Hp → Prop, (∀ H', Nx H' → ∃ m', m' < m ∧ W (i + 1) m' H') ∧ ∀ x H', J.yld i H x H' → g x (wipe σ vs) H' fun σ2 H2 => wipe σ2 vs = wipe σ vs ∧ tYes σ2 H2 fun b H3 =>
      if b = true then te σ2 H3 fun y H4 => ∃ acc, H4 D = some (.lst acc) ∧ acc.length < sizeLine ∧ Nx (upd H4 D (.lst (acc ++ [y]))) else Nx H3) := by
  refine lc_it w (fun i H' => KB D H H' ∧ H' D = some (.lst ((out.take i).map V.str))) ⟨KB.alloc hD, upd_same⟩ (fun i H' _ h => hG H' h.1) ?_ ?_
  · rintro i v H' H'' hi ⟨kb, e⟩ ⟨rfl, hv⟩
    refine hs i v H'' _ _ hv kb fun z H4 hz s => ⟨_, s _ _ e, ?_, fun c o n h => by rw [upd_ne n]; exact s _ _ (kb c o n h), ?_⟩
    · (rw [List.length_map, List.length_take])
      exact lt_line _ (by omega)
    · rw [take_at hz, List.map_append]
      exact upd_same
  · rintro H' ⟨kb, e⟩
    rw [← hl, List.take_of_length_le (Nat.le_refl _)] at e
    exact hd H' kb e
theorem strs_flat (zs : List Str) : (zs.map V.str).all flatV = true := by
  rw [List.all_eq_true]
  intro x hx
  obtain ⟨z, _, rfl⟩ := List.mem_map.mp hx
  rfl
theorem strs_at {zs : List Str} {j : Nat} {k : Str} (h1 : zs[j]? = some k) : (zs.map V.str)[j]? = some (.str k) := by rw [List.getElem?_map, h1]; rfl
theorem strs_eq (k : Str) : eqV (.str k) (.str k) = true := by simp [eqV]
theorem strs_no {zs : List Str} {j : Nat} {k : Str} (h2 : ∀ m, m < j → zs[m]? ≠ some k) : ∀ (m : Nat) (z' : V), m < j → (zs.map V.str)[m]? = some z' → eqV z' (.str k) = false := by
  intro m z' hm e
  rw [List.getElem?_map] at e
  cases e2 : zs[m]? with
  | none => rw [e2] at e; cases e
  | some y =>
    rw [e2] at e
    obtain rfl := Option.some.inj e
    have : y ≠ k := fun h => h2 m hm (by rw [e2, h])
    simp [eqV, this]
theorem in_strs (z : Str) (zs : List Str) : inV (.str z) (zs.map V.str) = decide (z ∈ zs) := by
  rw [Bool.eq_iff_iff, decide_eq_true_iff]
  unfold inV
  rw [List.any_eq_true]
  constructor
  · rintro ⟨y, hy, q⟩
    obtain ⟨x, hx, rfl⟩ := List.mem_map.mp hy
    have q : V.str x = V.str z := by simpa [eqV] using q
    rw [← V.str.inj q]
    exact hx
  · intro h
    exact ⟨.str z, List.mem_map.mpr ⟨z, h, rfl⟩, by simp [eqV]⟩
end R7

set_option maxRecDepth 100000
set_option maxHeartbeats 1000000
/-! GxA: all(..) of a generator expression whose element calls: the consumer. -/
namespace My
open PySem PySem.Spec PyProof.Rows L2 GenW
/-- amid two turns the consumer changes nothing that stood -/
structure Woke (s s' : Shared) : Prop where
  os : s'.os = s.os
  bare : AllBare s'.gens
  keep : ∀ b o, s.heap.get? b = some o → s'.heap.get? b = some o
/-- a truth is handed out -/
def AY (a : Addr) (g : Nat) (Fw : Bool → Shared → Prop) : Protocol := fun _ _ v s kap =>
  AllBare s.gens ∧ ∃ b : Bool, v = .bool b ∧ (b = false → Fw false s) ∧ (b = true → s.heap.NoLimit ∧ s.heap.IsGen a g ∧ ∀ s', Woke s s' → kap (.send .none) s')
/-- all were true -/
def AR (Fw : Bool → Shared → Prop) : GenEnd := fun _ _ r s => r = .ok .next ∧ AllBare s.gens ∧ Fw true s
section
variable {P : Program} {w : World} {A : Around} {E : Value → Shared → Prop} {Fw : Bool → Shared → Prop} {a : Addr} {g : Nat} {R : Result → Shared → Prop}
theorem all_walk (hh : A.handled = none) (hd : A.depth < recursionLimit) (st : ∀ b s s', Woke s s' → Fw b s → Fw b s') (hR : ∀ b s, Fw b s → R (.ok (.ret (.bool b))) s) :
    ∀ (n : Nat) (s : Shared), s.heap.IsGen a g → s.heap.NoLimit → (∃ gs, s.gens[g]? = some gs ∧ gs.Goes (model P w) A.in1.in1 (AR Fw) (AY a g Fw) n (.send .none) (s.setGen g .running)) →
      codeAny (model P w) A (.builtin "all.loop" ⟨[.ref a], []⟩) R s := by
  intro n
  induction n with
  | zero =>
    intro s hg hl ⟨gs, hgs, hgo⟩
    refine (codeAny_builtin F.entry_all_loop ?_)
    (rw [Around.under_plainId F.plain_all_loop _])
    show (wpAny _ A.in1 (pyNext (.ref a) >>= _) _ _ s)
    refine wpAny_bind (wpAny_pyNext_genexpQ (A := A.in1) (P := fun _ _ s₁ => AllBare s₁.gens ∧ Fw true s₁) hh hl hd hg hgs hgo (fun v s₁ gs' hb hv => ?_) fun s₁ hp h' hk => ?_)
    · obtain ⟨hb1, b, rfl, hf, ht⟩ := hv
      refine wpAny_bind (wpAny_holding (wpAny_truthy_bool (wpAny_bind (wpAny_letGo ?_))))
      cases b with
      | true => exact False.elim ((ht rfl).2.2 s₁ ⟨rfl, hb1, fun _ _ e => e⟩)
      | false =>
        simp only [if_false, Bool.false_eq_true]
        exact wpAny_bind (wpAny_rule (wpAny_pure (hR false _ (st false s₁ _ ⟨rfl, allBare_setGen hb1 hb, fun _ _ e => e⟩ (hf rfl)))))
    · refine wpAny_bind (wpAny_rule (wpAny_pure (hR true _ (st true s₁ _ ⟨rfl, allBare_setGen hp.1 rfl, hk⟩ hp.2))))
  | succ n ih =>
    intro s hg hl ⟨gs, hgs, hgo⟩
    have hgl : (g < s.gens.size) := (Array.getElem?_eq_some_iff.mp hgs).1
    refine (codeAny_builtin F.entry_all_loop ?_)
    (rw [Around.under_plainId F.plain_all_loop _])
    show (wpAny _ A.in1 (pyNext (.ref a) >>= _) _ _ s)
    refine wpAny_bind (wpAny_gsz (n := g + 1) hgl (wpAny_pyNext_genexpQ (A := A.in1) (P := fun _ _ s₁ => AllBare s₁.gens ∧ Fw true s₁) hh hl hd hg hgs hgo (fun v s₁ gs' hb hv => ?_) fun s₁ hp h' hk => ?_))
    · intro hsz
      obtain ⟨hb1, b, rfl, hf, ht⟩ := hv
      refine wpAny_bind (wpAny_holding (wpAny_truthy_bool (wpAny_bind (wpAny_letGo ?_))))
      have hw : Woke s₁ (s₁.setGen g gs') := ⟨rfl, allBare_setGen hb1 hb, fun _ _ e => e⟩
      cases b with
      | true =>
        simp only [if_true]
        obtain ⟨hl1, hg1, hk⟩ := ht rfl
        have hsz1 : (g < s₁.gens.size) := by
          have q : ((s₁.setGen g gs').gens.size = s₁.gens.size) := setGen_size _ _ _
          omega
        refine wpAny_pure ⟨plainId_quiet F.plain_all_loop _, ih _ hg1 hl1 ⟨gs', setGen_at hsz1, ?_⟩⟩
        exact hk _ ⟨rfl, allBare_setGen (allBare_setGen hb1 hb) rfl, fun _ _ e => e⟩
      | false =>
        simp only [if_false, Bool.false_eq_true]
        exact wpAny_bind (wpAny_rule (wpAny_pure (hR false _ (st false s₁ _ hw (hf rfl)))))
    · intro _
      exact wpAny_bind (wpAny_rule (wpAny_pure (hR true _ (st true s₁ _ ⟨rfl, allBare_setGen hp.1 rfl, hk⟩ hp.2))))
/-- all(g), g a generator that has not begun -/
theorem call_all_own {Q : Value → Shared → Prop} {s : Shared} {c : Code} {n : Nat} (hh : A.handled = none) (hd : A.depth < recursionLimit) (st : ∀ b s s', Woke s s' → Fw b s → Fw b s') (hQ : ∀ b s, Fw b s → Q (.bool b) s)
    (hg : s.heap.IsGen a g) (hl : s.heap.NoLimit) (hgs : s.gens[g]? = some (.fresh c)) (hgo : Seg (model P w) A.in1.in1 (AR Fw) (AY a g Fw) n (s.setGen g .running) c ((model P w).den c) [] (s.setGen g .running)) :
    wpAny (model P w) A (call (.builtin "all") [.ref a]) Q E s := by
  refine (call_function_tree F.kind_all F.plain_all F.entry_all (F.args_all1 _) ?_)
  unfold Builtin.«all»
  refine (wpAny_bind (m := oneArg "all" _) (wpAny_pure ?_))
  refine wpAny_bind (wpAny_pyIter_gen hg ?_)
  exact wpAny_pure ⟨plainId_quiet F.plain_all_loop _, all_walk hh hd st hQ n s hg hl ⟨_, hgs, rfl, hgo⟩⟩
end
end My

set_option maxRecDepth 100000
set_option maxHeartbeats 1800000
/-! GxB: a generator expression's code, turn by turn. -/
namespace My
open PySem PySem.Spec PyProof.Rows L2 GenW
abbrev gxLoop (elt tg iter : Expr) (scope : Scope) (pos : Pos) (it : Addr) (env : Env) : Code := .compLoop (.GeneratorExp elt [⟨tg, iter, [], 0⟩] scope pos) 0 (.ref it) .none env
abbrev gxStart (elt tg iter : Expr) (scope : Scope) (pos : Pos) (it : Addr) (env : Env) : Code := .compStart (.GeneratorExp elt [⟨tg, iter, [], 0⟩] scope pos) 0 (.ref it) .none env
/-- what is wanted at each turn -/
def GxT (J : It) (g : TG) (te : TE) (vs : List Nat) (σ : L2.St) (QF : Bool → Hp → Prop) (W : Nat → Nat → Hp → Prop) : Prop :=
  ∀ i m H, W i m H → (J.stop i H ∧ QF true H) ∨ (J.go i H ∧ ∃ Nx : Hp → Prop, (∀ H', Nx H' → ∃ m', m' < m ∧ W (i + 1) m' H') ∧ ∀ x H', J.yld i H x H' → g x σ H' fun σ2 H2 => wipe σ2 vs = σ ∧ te σ2 H2 fun y H3 => ∃ b : Bool, y = .bl b ∧ (b = true → Nx H3) ∧ (b = false → QF false H3))
section
variable {G : Cx} {A : Around} {a it : Addr} {g : Nat} {Fw : Bool → Shared → Prop} {elt tg iter : Expr} {scope : Scope} {pos : Pos} {fp : List Addr} {tn : Nat → Heap → Prop} {J : It} {gt : TG} {te : TE} {vs : List Nat} {σ0 : L2.St} {QF : Bool → Hp → Prop} {W : Nat → Nat → Hp → Prop}
/-- how such code stands -/
structure GxOk (G : Cx) (A : Around) (a : Addr) (g : Nat) (Fw : Bool → Shared → Prop) (elt tg iter : Expr) (scope : Scope) (pos : Pos) (it : Addr) (fp : List Addr) (tn : Nat → Heap → Prop) (J : It) (gt : TG) (te : TE) (vs : List Nat) (σ0 : L2.St) (QF : Bool → Hp → Prop) (W : Nat → Nat → Hp → Prop) : Prop where
  noX : ∀ e s, ¬ G.xe e s
  calm : G.calm = true
  over : A.over (gxLoop elt tg iter scope pos it G.env) [] = G.A
  co : G.env.scope.isCoroutine = false
  ex : G.ex = fp
  pf : ∀ p ∈ G.pn, p.1 ∉ fp
  T : Turn G.prog G.w G.K tg J fp it tn
  pg : PG G tg gt
  pe : PE G elt te
  gen : ∀ pins σ H s, Inv G pins σ H s → s.heap.IsGen a g
  back : ∀ pins σ H s b, Inv G pins σ H s → QF b H → Fw b s
  wide : ∀ σ2 : L2.St, wipe σ2 vs = σ0 → σ2.length = σ0.length
  turn : GxT J gt te vs σ0 QF W
theorem gx_loop (o : GxOk G A a g Fw elt tg iter scope pos it fp tn J gt te vs σ0 QF W) : ∀ (m n i : Nat) (H' : Hp) (s s₀ : Shared), m < n → Inv G [] σ0 H' s → tn i s.heap → (∀ b ∈ fp, H' b = none) → W i m H' →
    Seg (model G.prog G.w) A (AR Fw) (AY a g Fw) n s₀ (gxLoop elt tg iter scope pos it G.env) ((model G.prog G.w).den (gxLoop elt tg iter scope pos it G.env)) [] s := by
  obtain ⟨noX, calm, over, co, ex, pf, T, pg, pe, gen, back, wide, turn⟩ := o
  have nox : ∀ {α : Type} {t : Sem α} {Q Q' : α → Shared → Prop} {E : Value → Shared → Prop} {s : Shared}, wpAny (model G.prog G.w) G.A t Q G.xe s → (∀ a s, Q a s → Q' a s) → wpAny (model G.prog G.w) G.A t Q' E s :=
    fun h k => wpAny_mono h k fun e s z => absurd z (noX e s)
  have stand : ∀ {σ' : L2.St} {H' : Hp} {s' : Shared}, Inv G [] σ' H' s' → (∀ b ∈ fp, H' b = none) → ∀ b ∈ fp, FpOk G [] H' b := fun {σ' H' s'} I' hn b hb => by
    have hb' : b ∈ G.ex := by rw [ex]; exact hb
    exact ⟨hn b hb, (I'.ok.exf b hb').1, I'.ok.exfs b hb', .inl hb', fun x c e => (I'.ok.exf b hb').2 x c e, fun p hp z => by
      rw [List.append_nil] at hp
      exact pf p hp (z ▸ hb)⟩
  intro m
  induction m using Nat.strongRecOn with -- case by case
  | ind m ih =>
    intro n i H1 s s₀ hmn I1 st1 n1 w1
    show Seg _ A _ _ _ s₀ _ ((compTurn (.GeneratorExp elt [⟨tg, iter, [], 0⟩] scope pos) 0 (.ref it) .none G.env).onRaise (leaving G.env)) [] s
    (rw [compTurn_gen, Sem.onRaise_eq_wrap])
    refine (seg_bind_wrap (wpAny_standAt ?_))
    refine seg_bind_wrap ?_
    rw [over]
    rcases turn i m H1 w1 with ⟨ss, qe⟩ | ⟨gg, Nf, gN, stp⟩
    · refine thnF (T.done G rfl rfl rfl calm i [] s _ H1 (fun _ _ => False) I1 (stand I1 n1) st1 ss) fun r s2 ⟨er, I2⟩ => ?_
      subst er
      exact seg_end (.ok .next) ⟨rfl, I2.bare, back _ _ _ _ _ I2 qe⟩
    · refine thnF (T.item G rfl rfl rfl calm i [] s _ H1 (fun _ _ => False) I1 (stand I1 n1) st1 gg) fun r s2 ⟨u, er, h2⟩ => ?_
      subst er
      refine seg_bind_wrap ?_
      rw [over]
      refine thnF h2 fun _ s3 ⟨x, H3, I3, rx, yx, st3, n3⟩ => ?_
      have I3' := I3.pinned (stand I3 n3) (T.obj _ _ st3)
      refine seg_bind_wrap ?_
      rw [over]
      refine nox (pg.run _ s3 _ H3 x u _ I3' rx (stp x H3 yx)) fun _ s4 ⟨σ4, H4, I4, hw4, q4⟩ => ?_
      refine seg_bind_wrap ?_
      rw [over, List.forIn_nil]
      refine wpAny_pure ?_
      simp only [if_true]
      have hy : ∀ v, yieldOut G.env v = yieldValue v := fun v => by simp only [yieldOut, co, Bool.false_eq_true, if_false]
      simp only [hy]
      (rw [Sem.bind_eq_wrap', Sem.bind_eq_wrap', Sem.wrap_wrap, Sem.wrap_wrap])
      refine seg_wrap ?_
      rw [over]
      refine nox (pe.run _ s4 σ4 H4 _ I4 q4) fun z s5 ⟨y, H5, I5, rz, b, eb, bt, bf⟩ => ?_
      subst eb
      have ez : z = .bool b := rz
      subst ez
      obtain ⟨k, rfl⟩ : ∃ k, n = k + 1 := ⟨n - 1, by omega⟩
      refine seg_at (seg_yield rfl rfl rfl ⟨I5.bare, b, rfl, fun hb => back _ _ _ _ _ I5 (bf hb), fun hb => ⟨I5.nolimit, gen _ _ _ _ I5, fun s6 wk => ?_⟩⟩)
      obtain ⟨m', lm, w'⟩ := gN H5 (bt hb)
      have pin' : ∀ b ∈ fp, ∀ o, s3.heap.get? b = some o → s5.heap.get? b = some o ∧ H5 b = none := fun b hb o e =>
        let z := I5.pin (b, o) (List.mem_append_right _ (List.mem_append_right _ (mem_pinsAt hb e)))
        ⟨z.1, z.2.1⟩
      have J5 : Inv G [] σ0 H5 s5 := (I5.unpinned (pins := [])).weak (wide σ4 hw4).symm fun j v e => by
        rw [← hw4] at e
        exact (wipe_some e).1
      have J6 : Inv G [] σ0 H5 s6 := J5.call' (ch := []) wk.os (Un.kept wk.keep) (J5.hok.kept wk.keep) wk.bare fun _ z => nomatch z
      refine seg_again rfl (ih m' lm k (i + 1) H5 s6 s6 (by omega) J6 (T.keep _ _ _ st3 fun b hb o e => wk.keep b o (pin' b hb o e).1) (fun b hb => ?_) w')
      obtain ⟨o, e, _⟩ := T.obj _ _ st3 b hb
      exact (pin' b hb o e).2
theorem gx_start (o : GxOk G A a g Fw elt tg iter scope pos it fp tn J gt te vs σ0 QF W) {m n : Nat} {H' : Hp} {s s₀ : Shared} (hmn : m < n) (I : Inv G [] σ0 H' s) (st : tn 0 s.heap) (n1 : ∀ b ∈ fp, H' b = none) (w1 : W 0 m H') :
    Seg (model G.prog G.w) A (AR Fw) (AY a g Fw) n s₀ (gxStart elt tg iter scope pos it G.env) ((model G.prog G.w).den (gxStart elt tg iter scope pos it G.env)) [] s := by
  have loop := gx_loop o m n 0 H' s s₀ hmn I st n1 w1
  show Seg _ A _ _ _ s₀ _ ((compStart (.GeneratorExp elt [⟨tg, iter, [], 0⟩] scope pos) 0 (.ref it) .none G.env).onRaise (leaving G.env)) [] s
  unfold compStart
  rw [Sem.onRaise_eq_wrap]
  show (Seg _ A _ _ _ s₀ _ ((ask >>= _).wrap _ _ _ _) [] s)
  refine (seg_bind_wrap (wpAny_askSetting ?_))
  split
  · exact seg_again rfl loop
  · refine seg_bind_wrap (wpAny_rule ?_)
    show Seg _ A _ _ _ s₀ _ ((standAt iter.pos >>= _).wrap _ _ _ _) [] s
    exact seg_bind_wrap (wpAny_standAt (seg_bind_wrap (o.T.self _ 0 s _ _ st (seg_again rfl loop))))
end
end My

set_option maxRecDepth 100000
set_option maxHeartbeats 1800000
/-! GxD: where a generator expression's code begins. -/
namespace My
open PySem PySem.Spec PyProof.Rows L2 GenW
/-- the context of a generator expression's code -/
abbrev GxC (X : Cx) (B : Around) (s : Shared) (H : Hp) (scope : Scope) (cenv : Env) (fp : List Addr) (pn : List (Addr × Obj)) : Cx :=
  { X with A := B, s_0 := s, H_0 := H, env := cenv, outer := X.stack, stack := cenv :: X.stack, ex := fp, fn := fun x => scope.names.lookup x == some .cell, pn := pn, xe := fun _ _ => False }
section
variable {X : Cx} {pins : List (Addr × Obj)} {σ : L2.St} {H : Hp} {s s1 : Shared}
theorem gx_begin {B : Around} {scope : Scope} {own : List (Str × Nat)} {fp : List Addr} {C a bi : Addr} {code : Value} {m : Str → Option Value} {go : Obj} (I : Inv X pins σ H s) (ok : BlkOk X.N X.env.scope scope own) (nc : ∀ y ∈ scope.names, y.2 ≠ .cell) (hN : X.N.Nodup)
    (hfp : ∀ b ∈ fp, FpOk X pins H b ∧ b < s.heap.objs.size) (hA : B.handled = none) (hC : C = s.heap.objs.size) (hbi : bi = builtinsNs) (hf : B.frames = some (genEnv scope (cloFrom X.env.cells scope.names []) C code bi X.env :: X.stack))
    (kp : ∀ b o, s.heap.get? b = some o → s1.heap.get? b = some o) (hos : s1.os = s.os) (hb : AllBare s1.gens) (hn : s1.heap.Ns C m) (ha : s1.heap.get? a = some go) (hgo : ∀ v, go.data ≠ .cell v) (haC : C < a) :
    Inv (GxC X B s H scope (genEnv scope (cloFrom X.env.cells scope.names []) C code bi X.env) fp [(a, go)]) [] (wipe σ (own.map (·.2))) H s1 := by
  have hfree : (∀ y ∈ scope.names, y.2 = .free → ∃ c, X.env.cells.lookup y.1 = some c) := fun y hy e => by
    rcases (ok.free y hy e) with k | k
    · exact I.ok.has _ (.inl k)
    · exact I.ok.has _ (.inr k)
  have cm : (∀ {y c}, (y, c) ∈ cloFrom X.env.cells scope.names [] → X.env.cells.lookup y = some c ∧ c < s.heap.objs.size) := fun {y c} hm => by
    rcases (cloFrom_mem hm) with hm | ⟨h1, rfl⟩
    · cases hm
    · obtain ⟨c, hc⟩ := (hfree _ h1 rfl)
      rw [hc]
      obtain ⟨w, z⟩ := (I.cell _ _ hc)
      exact ⟨rfl, z.lt⟩
  have mem : ∀ {y c}, (cloFrom X.env.cells scope.names []).lookup y = some c → X.env.cells.lookup y = some c ∧ c < s.heap.objs.size := fun {y c} e => cm (PySem.mem_of_lookup e)
  have look : ∀ {y}, scope.names.lookup y = some .free → ∃ c, (cloFrom X.env.cells scope.names []).lookup y = some c ∧ X.env.cells.lookup y = some c := fun {y} hl => by
    obtain ⟨c', e'⟩ := mem_lookup (cloFrom_has (cells := X.env.cells) (acc := []) (PySem.mem_of_lookup hl))
    exact ⟨c', e', (mem e').1⟩
  have noCell : ∀ {y}, scope.names.lookup y ≠ some .cell := fun {y} e => nc _ (PySem.mem_of_lookup e) rfl
  have stkLt : ∀ b ∈ frs X.stack, b < s.heap.objs.size := fun b hb => by
    obtain ⟨_, o, e, _⟩ := I.stack.mem hb
    exact Heap.lt_size e
  have okG : (GxC X B s H scope (genEnv scope (cloFrom X.env.cells scope.names []) C code bi X.env) fp [(a, go)]).Ok := by
    refine ⟨I.ok.mod, ok.kind, I.ok.glob, hbi, Nat.le_of_eq hC.symm, fun y z c e1 e2 => I.ok.inj y z c (mem e1).1 (mem e2).1, fun y hy => ?_, fun y c z e => ?_, fun _ => hA, hf, .inr ⟨rfl, rfl⟩,
      fun b hb => ⟨?_, fun y c e z => ?_⟩, I.bs, Nat.le_trans I.ok.bsz I.sz, fun b o e hb => ?_, fun b hb z => ?_, I.stack, I.stkFree⟩
    · rcases hy with hy | hy
      · exact absurd hy noCell
      · obtain ⟨c, h1, _⟩ := look hy
        exact ⟨c, h1⟩
    · have z : ((scope.names.lookup y == some NameKind.cell) = true) := z
      exact absurd (by simpa using z) (noCell (y := y))
    · show b ≠ C
      rw [hC]; exact Nat.ne_of_lt (hfp b hb).2
    · exact (hfp b hb).1.2.2.2.2.1 y c (mem e).1 z
    · rcases ((hfp b hb).1.2.2.2.1) with z | z
      · exact I.ok.noex b o e z
      · exact (absurd (Nat.lt_of_lt_of_le (Heap.lt_size e) (Nat.le_trans I.ok.bsz z)) (Nat.lt_irrefl _))
    · rcases (List.mem_cons.mp (I.stkSub b z)) with z | z
      · exact (hfp b hb).1.2.1 z
      · exact (hfp b hb).1.2.2.1 z
  refine ⟨okG, hos, hb, Un.kept kp, ⟨m, hn, fun i y av e1 e2 e3 => ?_⟩, fun y c e => ?_, ?_, fun y c e => ?_, fun p hp => ?_, I.hok.kept kp, by rw [wipe_length]; exact I.len⟩
  · obtain ⟨e2, hne⟩ := (wipe_some e2)
    have hfr : scope.names.lookup y = some .free := by
      have e3 : Vis scope y := e3
      rcases e3 with k | k | k
      · rcases ok.own _ (PySem.mem_of_lookup k) (.inl rfl) with e' | e'
        · obtain ⟨p, hp, hpy⟩ := (List.mem_map.mp e')
          have e3 := ok.ix p hp
          have : p.1 = y := hpy
          rw [this] at e3
          exact absurd (List.mem_map.mpr ⟨p, hp, nodup_ix hN e3 e1⟩) hne
        · exact absurd (List.mem_of_getElem? e1) e'
      · exact absurd k noCell
      · exact k
    obtain ⟨m', hn', hl⟩ := I.loc
    have hvis : Vis X.env.scope y := (ok.free _ (PySem.mem_of_lookup hfr) rfl).elim (fun k => .inr (.inl k)) (fun k => .inr (.inr k))
    obtain ⟨w, r, q⟩ := (hl i y av e1 e2 hvis)
    refine ⟨w, r, .inr ⟨.inr hfr, ?_⟩⟩
    obtain ⟨c, h1, h2⟩ := look hfr
    rcases (q) with ⟨k, _⟩ | ⟨_, c', e', z⟩
    · have k : (X.env.scope.names.lookup y = some .local) := k
      rcases ok.free _ (PySem.mem_of_lookup hfr) rfl with k' | k' <;> rw [show X.env.scope.names.lookup y = _ from k'] at k <;> cases k
    · rw [h2] at e'; cases e'
      exact ⟨c, h1, z.keeps kp⟩
  · obtain ⟨w, z⟩ := I.cell y c (mem e).1
    exact ⟨w, z.keeps kp⟩
  · show H C = none
    rw [hC]; exact I.hok.fresh (Nat.le_refl _)
  · exact I.freeC y c (mem e).1
  · obtain rfl := List.mem_singleton.mp (show p ∈ [(a, go)] from by simpa using hp)
    refine ⟨ha, I.hok.fresh (Nat.le_of_lt (by rw [← hC]; exact haC)), Nat.ne_of_gt haC, fun hm => ?_, hgo⟩
    have := stkLt a hm
    rw [← hC] at this
    exact absurd (Nat.lt_trans haC this) (Nat.lt_irrefl _)
end
end My

set_option maxRecDepth 100000
set_option maxHeartbeats 1800000
/-! GxE: all(elt for tg in iter), the element any expression that raises nothing: the rule. -/
namespace My
open PySem PySem.Spec PyProof.Rows L2 GenW GxR
/-- the generator expression's own scope -/
structure GxS (scope : Scope) : Prop where
  co : (scope.isCoroutine = false)
  nc : ∀ y ∈ scope.names, y.2 ≠ .cell
  dot : (scope.names.lookup (".0" : Str) = some NameKind.local)
/-- all(..): the def's table may have grown ahead of the first turn -/
def tAllX (P : Addr) (wi : TI) (g : TG) (te : TE) (vs : List Nat) : TE := fun σ H Q => wi σ H fun J H1 => TabG H1 P ∧ ∀ H2, Tabbed P H1 H2 → ∃ W : Nat → Nat → Hp → Prop, (∃ m, W 0 m H2) ∧ GxT J g te vs (wipe σ vs) (fun b H3 => Q (.bl b) H3) W
/-- the around of such code is a deeper one -/
theorem gx_over {A : Around} {elt tg iter : Expr} {scope : Scope} {pos : Pos} {it : Addr} {env : Env} : A.over (gxLoop elt tg iter scope pos it env) [] = A.deeper env := by
  obtain ⟨hd, d, fr, gs, u⟩ := (A)
  cases fr <;> cases gs <;> simp [Around.over, Around.deeper, marksOver, frameCount, unitsOf, envsOf, guardsOf, pushEnvs, pushGuards, Code.envs, Code.env?, Code.isFrame, Code.guards, Code.isGuard, Code.weight, Code.frames, Code.isCreation, Code.isCaller, Code.cUnits]
theorem in2_room {k : Nat} {A : Around} (r : Room (k + 1) A) (env : Env) : Room k (A.in1.in1.deeper env) :=
  ⟨r.hd, by have := r.dp; show A.depth + 1 + 3 * k + 5 < _; omega, by have := r.un; show A.units + 1 + 1 + 3 + 16 * k + 200 < _; omega⟩
theorem in2_frames {A : Around} {env : Env} {l : List Env} (h : A.frames = some l) : (A.in1.in1.deeper env).frames = some (env :: l) := Around.frames_deeper (A := A.in1.in1) h
section
variable {X : Cx} {k : Nat} {c P : Addr} {elt tg iter : Expr} {p pos gpos : Pos} {scope : Scope} {own : List (Str × Nat)} {wi : TI} {g : TG} {te : TE}
theorem pe_allX (hr : Room (k + 1) X.A) (hc : X.calm = true) (hN : X.N.Nodup) (hg : Gl X "all") (hm : X.mg "all" = none) (hb : bootBuiltins "all" = some (.builtin "all")) (TB : TabB X.base X.mg c P) (hcode : X.env.code = .ref c) (S : GxS scope) (ok : BlkOk X.N X.env.scope scope own) (hi : PI X tg iter wi)
    (hpg : ∀ (B : Around) (s : Shared) (H : Hp) (C : Addr) (cd : Value) (fp : List Addr) (pn : List (Addr × Obj)), Room k B → PG (GxC X B s H scope (genEnv scope (cloFrom X.env.cells scope.names []) C cd builtinsNs X.env) fp pn) tg g)
    (hpe : ∀ (B : Around) (s : Shared) (H : Hp) (C : Addr) (cd : Value) (fp : List Addr) (pn : List (Addr × Obj)), Room k B → PE (GxC X B s H scope (genEnv scope (cloFrom X.env.cells scope.names []) C cd builtinsNs X.env) fp pn) elt te)
    (hs : ∀ u, genFold iter X.env u = pure u)
    (he : starEach [.GeneratorExp elt [⟨tg, iter, [], 0⟩] scope gpos] X.env = (false, eval (.GeneratorExp elt [⟨tg, iter, [], 0⟩] scope gpos) X.env) :: starEach [] X.env := by rfl) :
    PE X (.Call (.Name "all" p) [.GeneratorExp elt [⟨tg, iter, [], 0⟩] scope gpos] [] pos) (tAllX P wi g te (own.map (·.2))) := by
  refine (⟨fun pins s σ H Q I h => ?_⟩)
  refine (wpAny_Call_Name_kw (ld_blt I hg hm hb ?_))
  refine (PyProof.Rows.callWith_builtin1 ?_ he (by rfl))
  rw [he]
  show wpAny _ _ (spliced ((false, eval (.GeneratorExp elt [⟨tg, iter, [], 0⟩] scope gpos) X.env) :: backTo pos (starEach [] X.env))) _ _ s
  have hfree : (∀ y ∈ scope.names, y.2 = .free → ∃ c, X.env.cells.lookup y.1 = some c) := fun y hy e => by
    rcases (ok.free y hy e) with k | k
    · exact I.ok.has _ (.inl k)
    · exact I.ok.has _ (.inr k)
  refine Calls.spliced_cons (wpAny_GeneratorExp_make S.co (closure_ok hfree) S.nc S.dot ok.kind (by have := hr.dp; omega) ?_ hs)
  refine thn (hi.run pins s σ H _ I h) fun xv s1 h1 => thn h1 fun itv s2 h2 => ?_
  obtain ⟨it, fp, tn, J, H2, rfl, I2, T, st2, f2, ⟨ps, hP, ht⟩, q⟩ := h2
  have hPs : s2.heap.get? P = some { cls := .none, data := .fields ps } := I2.hok P _ hP
  have cd : PySem.W.CodeHd s2.heap c P := TB.code.keeps I2.bk
  refine ⟨I2.nolimit, ?_⟩
  have cont : ∀ (code : Value) (h3 : Heap) (tk : Nat) (ps' : Array Value), Heap.ExtBut P s2.heap h3 → s2.heap.objs.size ≤ h3.objs.size → h3.get? P = some { cls := .none, data := .fields ps' } → (∃ more, ps' = ps ++ more) → TriplesOk ps'.toList →
      wpAny (model X.prog X.w) X.A (builtinsFor X.env.globals X.env.builtins) (fun bi s4 => ∀ h', h'.Ns s4.heap.objs.size (fun y => if y = ".0" then some (.ref it) else none) → Heap.SameBut s4.heap.objs.size (s4.heap.push { cls := .type "frame", data := .dict #[] }) h' →
        wpAny (model X.prog X.w) X.A (spliced (backTo pos (starEach [] X.env))) (fun us s6 => wpAny (model X.prog X.w) X.A (call (.builtin "all") (Value.ref h'.objs.size :: us)) (EP X pins σ Q) X.xe s6) X.xe { s4 with
          gens := s4.gens.push (.fresh (gxStart elt tg iter scope gpos it (genEnv scope (cloFrom X.env.cells scope.names []) s4.heap.objs.size code bi X.env)))
          toks := s4.toks + 1 + 1 + 1
          heap := h'.push { cls := .type "generator", data := .fields #[.int s4.gens.size 0, .str "<genexpr>" (s4.toks + 1), .str (X.env.qual ++ "<genexpr>") (s4.toks + 1 + 1)] } }) X.xe { s2 with heap := h3, toks := tk } := by
    intro code h3 tk ps'; intro hx hsz hP3 hmore ht3
    obtain ⟨bm, ob, e1, e2, e3, e4, e5, e6, e7, e8⟩ := (TB.bm)
    obtain ⟨more, rfl⟩ := hmore
    have keep3 : ∀ b u, b ≠ P → s2.heap.get? b = some u → h3.get? b = some u := fun b u hb e => hx b u hb e
    have I3 : Inv X pins σ (upd H2 P (.tbl (ps ++ more))) { s2 with heap := h3, toks := tk } := inv_tab (more := more) (h' := h3) (g' := s2.gens) (d' := s2.drawn) (t' := tk) I2 hP keep3 hP3 I2.bare
    have hT : Tabbed P H2 (upd H2 P (.tbl (ps ++ more))) := ⟨⟨ps ++ more, upd_same, ht3⟩, fun b hb => upd_ne hb⟩
    have nP : ∀ b ∈ fp, b ≠ P := fun b hb z => by
      have := (f2 b hb).1
      rw [z, hP] at this; cases this
    have sz : ∀ b ∈ fp, b < h3.objs.size := fun b hb => by
      obtain ⟨o, e, _⟩ := (T.obj _ _ st2 b hb)
      exact Nat.lt_of_lt_of_le (Heap.lt_size e) hsz
    have f3 : ∀ b ∈ fp, FpOk X pins (upd H2 P (.tbl (ps ++ more))) b ∧ b < h3.objs.size := fun b hb =>
      ⟨⟨by rw [upd_ne (nP b hb)]; exact (f2 b hb).1, (f2 b hb).2⟩, sz b hb⟩
    have st3 : tn 0 h3 := T.keep _ _ _ st2 fun b hb o e => keep3 b o (nP b hb) e
    refine wpAny_builtinsFor (m := X.mg) (by rw [I.ok.glob]; exact (I.mod.glob.keeps I2.bk).extBut hx TB.gP) e1 e2 (keep3 _ _ e4 (I2.bk _ _ e5)) e6 e7 e8 ?_
    intro h' hn' hs'
    obtain ⟨W, ⟨m0, w0⟩, turn⟩ := q _ hT
    generalize upd H2 P (.tbl (ps ++ more)) = H4 at I3 f3 w0 turn
    generalize es4 : ({ s2 with heap := h3, toks := tk } : Shared) = s4 at I3 hn' hs' ⊢
    have eh : s4.heap = h3 := by rw [← es4]
    rw [← eh] at f3 st3
    have hsz' : h'.objs.size = s4.heap.objs.size + 1 := by rw [hs'.1, Heap.size_push]
    have kp' : ∀ b o, s4.heap.get? b = some o → h'.get? b = some o := fun b o e => hs'.extBut b o (Nat.ne_of_lt (Heap.lt_size e)) (Heap.get?_push_of_some _ e)
    refine Calls.spliced_nil ?_
    obtain ⟨go, ego⟩ : ∃ go : Obj, go = { cls := .type "generator", data := .fields #[.int s4.gens.size 0, .str "<genexpr>" (s4.toks + 1), .str (X.env.qual ++ "<genexpr>") (s4.toks + 1 + 1)] } := ⟨_, rfl⟩
    rw [← ego]
    have hga : (h'.push go).get? h'.objs.size = some go := by rw [ego]; exact Heap.get?_push_size _ rfl
    have hgen : ∀ h : Heap, h.get? h'.objs.size = some go → h.IsGen h'.objs.size s4.gens.size := fun h e => ⟨go, _, _, e, by rw [ego], by rw [ego], by rw [ego]⟩
    have hgd : ∀ v, go.data ≠ .cell v := fun v => by rw [ego]; exact fun e => by cases e
    have kp5 : ∀ b o, s4.heap.get? b = some o → (h'.push go).get? b = some o := fun b o e => Heap.get?_push_of_some _ (kp' b o e)
    have hbg : AllBare (s4.gens.push (.fresh (gxStart elt tg iter scope gpos it (genEnv scope (cloFrom X.env.cells scope.names []) s4.heap.objs.size code builtinsNs X.env)))) := AllBare.push I3.bare rfl
    have st : ∀ (b : Bool) (s s' : Shared), Woke s s' → (∃ H', Inv X pins σ H' s ∧ Q (.bl b) H') → ∃ H', Inv X pins σ H' s' ∧ Q (.bl b) H' := fun b s s' wk ⟨H', J', q'⟩ =>
      ⟨H', J'.call' (ch := []) wk.os (Un.kept wk.keep) (J'.hok.kept wk.keep) wk.bare fun _ z => (nomatch z), q'⟩
    refine call_all_own (a := h'.objs.size) (g := s4.gens.size) (n := m0 + 1) (Fw := fun b s' => ∃ H', Inv X pins σ H' s' ∧ Q (.bl b) H') hr.hd (by have := hr.dp; omega) st (fun b s' ⟨H', J', q'⟩ => ⟨.bl b, H', J', rfl, q'⟩)
      (hgen _ hga) (I3.nolimit.keeps kp5) (Array.getElem?_push_size ..) ?_
    obtain ⟨ce, ece⟩ : ∃ ce, ce = genEnv scope (cloFrom X.env.cells scope.names []) s4.heap.objs.size code builtinsNs X.env := ⟨_, rfl⟩
    have IG := gx_begin (B := X.A.in1.in1.deeper ce) (C := s4.heap.objs.size) (a := h'.objs.size) (bi := builtinsNs) (code := code) (go := go) (s1 := ({ s4 with gens := s4.gens.push (.fresh (gxStart elt tg iter scope gpos it (genEnv scope (cloFrom X.env.cells scope.names []) s4.heap.objs.size code builtinsNs X.env))), toks := s4.toks + 1 + 1 + 1, heap := h'.push go } : Shared).setGen s4.gens.size .running)
      I3 ok S.nc hN f3 hr.hd rfl rfl (by rw [← ece]; exact in2_frames I3.ok.frames) kp5 rfl (allBare_setGen (s := { s4 with gens := _, toks := _, heap := _ }) hbg rfl) (hn'.push _) hga hgd (Nat.lt_of_lt_of_eq (Nat.lt_succ_self _) hsz'.symm)
    have pgG := hpg (X.A.in1.in1.deeper ce) s4 H4 s4.heap.objs.size code fp [(h'.objs.size, go)] (in2_room hr ce)
    have peG := hpe (X.A.in1.in1.deeper ce) s4 H4 s4.heap.objs.size code fp [(h'.objs.size, go)] (in2_room hr ce)
    rw [← ece] at IG pgG peG ⊢
    have cL : ce.locals = s4.heap.objs.size := by rw [ece]; rfl
    have cS : ce.scope = scope := by rw [ece]; rfl
    have wide : ∀ σ2 : L2.St, wipe σ2 (own.map (·.2)) = wipe σ (own.map (·.2)) → σ2.length = (wipe σ (own.map (·.2))).length := fun σ2 e => by
      have := congrArg List.length e
      rw [wipe_length, wipe_length] at this
      rw [wipe_length]
      exact this
    have bck : ∀ (pins' : List (Addr × Obj)) (σ' : L2.St) (H' : Hp) (s' : Shared) (b : Bool), Inv (GxC X (X.A.in1.in1.deeper ce) s4 H4 scope ce fp [(h'.objs.size, go)]) pins' σ' H' s' → Q (.bl b) H' → ∃ H', Inv X pins σ H' s' ∧ Q (.bl b) H' := fun pins' σ' H' s' b I' q' =>
      ⟨H', I3.call' (ch := fp) I'.os I'.base I'.hok I'.bare fun b hb => ⟨(f3 b hb).1.2.2.2.1, (f3 b hb).1.2.1, (f3 b hb).1.2.2.2.2.1, (f3 b hb).1.2.2.2.2.2⟩, q'⟩
    refine gx_start (G := GxC X (X.A.in1.in1.deeper ce) s4 H4 scope ce fp [(h'.objs.size, go)]) ⟨fun _ _ z => z, hc, gx_over, by show ce.scope.isCoroutine = false; rw [cS]; exact S.co, rfl, fun pp hp hm => ?_, T, pgG, peG,
      fun pins' σ' H' s' I' => hgen _ (I'.pin (h'.objs.size, go) (List.mem_append_left _ (List.mem_singleton.mpr rfl))).1, bck, wide, turn⟩ (Nat.lt_succ_self m0) IG (T.keep _ _ _ st3 fun b _ o e => kp5 b o e) (fun b hb => (f3 b hb).1.1) w0
    obtain rfl := (List.mem_singleton.mp hp)
    have h9 : h'.objs.size < s4.heap.objs.size := (f3 _ hm).2
    rw [hsz'] at h9
    exact absurd h9 (Nat.not_lt.mpr (Nat.le_succ _))
  cases hf : codeAmong gpos ps.toList with -- case by case
  | none =>
    refine wpAny_genexprCodeX hcode (cd.code hPs ht) (cd.tab hPs) hf fun c' h' tk hx hge hlt hco' _ htab' _ => ?_
    obtain ⟨o1, vs, f1, tf, fl, tg', inF, tx, tt, op, _, _, _, _, _, _, _, _, _, htr, _⟩ := hco'
    exact (cont _ h' tk _ hx (Nat.le_trans hge (Nat.le_of_lt hlt)) htab'.2 ⟨_, rfl⟩ htr)
  | some cv =>
    refine wpAny_genexprCode_hit hcode (cd.code hPs ht) hf ?_
    exact cont cv s2.heap s2.toks ps (Heap.ExtBut.refl _ _) (Nat.le_refl _) hPs ⟨#[], by simp⟩ ht
end
end My

set_option maxRecDepth 100000
set_option maxHeartbeats 1600000
/-! ZipM: zip of a list and a tuple. -/
namespace My
open PySem PySem.Spec PyProof.Rows L2 RZ
/-- the list at a and the tuple at b as they stand at each turn -/
def ItzM (K : PySem.W.Frag) (a b : Addr) : It where
  go i H := ∃ (xs ys : List V) (x y : V), SqL K H a xs ∧ SqT K H b ys ∧ xs[i]? = some x ∧ ys[i]? = some y
  yld i H v H' := ∃ T x y, v = .ref T ∧ H T = none ∧ H' = upd H T (.tup [x, y]) ∧ (∀ xs, SqL K H a xs → xs[i]? = some x) ∧ ∀ ys, SqT K H b ys → ys[i]? = some y
  stop i H := ∃ xs ys : List V, SqL K H a xs ∧ SqT K H b ys ∧ xs.length = i ∧ ys.length = i
theorem sep_of {z TI TO i1 i2 a b : Addr} (D : ZipApart z TI TO i1 i2 a b) : ZipSep2 z TI TO i1 i2 [i1, a] [i2, b] where
  TIz := D.TIz
  TOz := D.TOz
  TITO := D.TITO
  TIi1 := D.TIi1
  mem1 := by simp
  zf1 := by simp [D.i1z.symm, D.l1z.symm]
  Tf1 := by simp [D.TOi1, D.l1TO.symm]
  TIi2 := D.TIi2
  mem2 := by simp
  zf2 := by simp [D.i2z.symm, D.l2z.symm]
  Tf2 := by simp [D.TOi2, D.l2TO.symm]
  sep1_2 := by simp [D.i12, D.l2i1.symm]
  sep2_1 := by simp [D.i12.symm, D.l1i2.symm]
theorem turn_zipM {P : Program} {w : World} {K : PySem.W.Frag} {elts : List Expr} {kk : Nat} {tpos : Pos} {a b z TI TO i1 i2 : Addr} (D : ZipApart z TI TO i1 i2 a b) :
    Turn P w K (.Tuple elts kk tpos) (ItzM K a b) [z, TI, TO, i1, i2] z (fun i h => IsZip h z TI TO .none ∧ IsPair h TI (.ref i1) (.ref i2) ∧ (∃ x y, IsPair h TO x y) ∧ h.IsListIter i1 a i ∧ h.IsTupleIter i2 b i) where
  mem := by simp
  obj := fun i h st c hc => by
    obtain ⟨hz, hTI, ⟨x, y, hTO⟩, ⟨o1, e1, _, d1⟩, ⟨o2, e2, _, d2⟩⟩ := (st)
    have cs : c = z ∨ c = TI ∨ c = TO ∨ c = i1 ∨ c = i2 := by simpa using hc
    rcases cs with rfl | rfl | rfl | rfl | rfl
    · exact ⟨_, hz, nofun⟩
    · exact ⟨_, hTI, nofun⟩
    · exact ⟨_, hTO, nofun⟩
    · exact ⟨o1, e1, fun v q => by rw [d1] at q; cases q⟩
    · exact ⟨o2, e2, fun v q => by rw [d2] at q; cases q⟩
  keep := fun i h h' st k => by
    obtain ⟨hz, hTI, ⟨x, y, hTO⟩, h1, h2⟩ := (st)
    exact ⟨k z (by simp) _ hz, k TI (by simp) _ hTI, ⟨x, y, k TO (by simp) _ hTO⟩, h1.at fun o => k i1 (by simp) o, h2.at fun o => k i2 (by simp) o⟩
  item := by
    intro X hP hw hK; intro hc i pins s σ H E I hf st hg
    subst hP hw hK
    obtain ⟨hz, hTI, ⟨x0, y0, hTO⟩, h1, h2⟩ := (st)
    obtain ⟨xs, ys, x, y, hqx, hqy, hx, hy⟩ := (hg)
    obtain ⟨its, rv, p, _⟩ := (I.list hqx)
    obtain ⟨its2, rv2, p2, _⟩ := (I.tuple hqy)
    obtain ⟨u, hu, ru⟩ := (rv.get hx)
    obtain ⟨u2, hu2, ru2⟩ := (rv2.get hy)
    have zlt : z < s.heap.objs.size := Heap.lt_size hz
    have hh : X.A.in1.handled = none := I.ok.hd hc
    have lt1 : i < its.toArray.size := by rw [List.size_toArray]; exact (List.getElem?_eq_some_iff.mp hu).1
    have lt2 : i < its2.toArray.size := by rw [List.size_toArray]; exact (List.getElem?_eq_some_iff.mp hu2).1
    refine wpAny_pyNext_zipD2_item (i := i) (sep_of D) (Draws.list hh i1 a D.l1i1 its.toArray) (Draws.tuple hh i2 b D.l2i2 its2.toArray) hz hTI hTO ⟨h1, p.isList⟩ ⟨h2, p2⟩ lt1 lt2 fun v1 v2 h' tk e1 e2 z' TO' s1 s2 hT hsz hk => ?_
    obtain rfl : u = v1 := by
      have e1 : its.toArray[i]? = some v1 := e1
      rw [List.getElem?_toArray, hu] at e1
      exact Option.some.inj e1
    obtain rfl : u2 = v2 := by
      have e2 : its2.toArray[i]? = some v2 := e2
      rw [List.getElem?_toArray, hu2] at e2
      exact Option.some.inj e2
    refine ⟨_, rfl, wpAny_letOwnedTupleGo_zip (s := { s with heap := h', toks := tk }) z' fun h'' z'' sb => ?_⟩
    have hT2 : h''.get? s.heap.objs.size = some { cls := .type "tuple", data := .seq #[u, u2] } := (sb.2 _ (Nat.ne_of_gt zlt)).trans hT
    have up : ∀ c o, c ∉ [z, TI, TO, i1, i2] → s.heap.get? c = some o → h''.get? c = some o := fun c o hb q => by
      simp only [List.mem_cons, List.not_mem_nil, or_false, not_or] at hb
      exact (sb.2 c hb.1).trans (hk c o hb.1 hb.2.2.1 hb.2.2.2.1 hb.2.2.2.2 q)
    have I1 : Inv X pins σ (upd H s.heap.objs.size (.tup [x, y])) { s with heap := h'', toks := tk } :=
      I.turnedNew (t' := tk) (ch := [z, TI, TO, i1, i2]) up hf (Nat.le_refl _) ⟨by show 2 ≤ sizeLine; decide, [u, u2], .cons ru (.cons ru2 .nil), ⟨_, hT2, rfl, _, rfl⟩⟩
    refine ⟨.ref s.heap.objs.size, _, I1, rfl, ⟨_, x, y, rfl, I.hok.fresh (Nat.le_refl _), rfl, fun l hl => by rw [I.list_inj hl hqx]; exact hx, fun l hl => by rw [I.tuple_inj hl hqy]; exact hy⟩,
      ⟨z'', (sb.2 _ D.TIz).trans (hk _ _ D.TIz D.TITO D.TIi1 D.TIi2 hTI), ⟨u, u2, (sb.2 _ D.TOz).trans TO'⟩, s1.1.at fun o q => (sb.2 _ D.i1z).trans q, s2.1.at fun o q => (sb.2 _ D.i2z).trans q⟩, fun c hcm => ?_⟩
    have hlt : c < s.heap.objs.size := by
      have cs : c = z ∨ c = TI ∨ c = TO ∨ c = i1 ∨ c = i2 := by simpa using hcm
      rcases cs with rfl | rfl | rfl | rfl | rfl
      · exact zlt
      · exact Heap.lt_size hTI
      · exact Heap.lt_size hTO
      · obtain ⟨_, q, _⟩ := h1; exact Heap.lt_size q
      · obtain ⟨_, q, _⟩ := h2; exact Heap.lt_size q
    (rw [upd_ne (Nat.ne_of_lt hlt)])
    exact (hf c hcm).1
  done := by
    intro X hP hw hK; intro hc i pins s σ H E I hf st hg
    subst hP hw hK
    obtain ⟨hz, hTI, ⟨x0, y0, hTO⟩, h1, h2⟩ := (st)
    obtain ⟨xs, ys, hqx, hqy, l1, l2⟩ := hg
    obtain ⟨its, rv, p, _⟩ := (I.list hqx)
    obtain ⟨its2, rv2, p2, _⟩ := (I.tuple hqy)
    have hh : X.A.in1.handled = none := I.ok.hd hc
    have q1 : its.toArray.size = i := by rw [List.size_toArray, ← rv.length]; exact l1
    have q2 : its2.toArray.size = i := by rw [List.size_toArray, ← rv2.length]; exact l2
    refine wpAny_pyNext_zipD2_end (i := i) (sep_of D) (Draws.list hh i1 a D.l1i1 its.toArray) (Draws.tuple hh i2 b D.l2i2 its2.toArray) hz hTI hTO ⟨h1, p.isList⟩ ⟨h2, p2⟩ (Nat.le_of_eq q1.symm) (Nat.le_of_eq q2.symm) (.inl q1.symm) fun h' tk hk => ⟨rfl, ?_⟩
    refine I.turnedL (t' := tk) (ch := [z, TI, TO, i1, i2]) (fun c o hb q => ?_) hf
    simp only [List.mem_cons, List.not_mem_nil, or_false, not_or] at hb
    exact hk c o hb.1 hb.2.2.1 hb.2.2.2.1 hb.2.2.2.2 q
  self := fun A i s Q E st h => (wpAny_pyIter_zip st.1 h)
/-- zip of two lists or of a list and a tuple -/
def iZipM (K : PySem.W.Frag) (ta : TA) : TI := fun σ H R => ta σ H fun vs H1 => ∃ a b xs ys, vs = [.ref a, .ref b] ∧ SqL K H1 a xs ∧ ((SqT K H1 b ys ∧ R (ItzM K a b) H1) ∨ (SqL K H1 b ys ∧ R (Itz K a b) H1))
theorem pi_zipM {X : Cx} {e e2 : Expr} {ta : TA} {p pos tpos : Pos} {elts : List Expr} {kk : Nat} (hg : Gl X "zip") (hm : X.mg "zip" = none) (ha : PA X [e, e2] ta)
    (hs : (starEach [e, e2] X.env = (false, eval e X.env) :: starEach [e2] X.env) := by rfl) (hpl : (backTo pos (starEach [e2] X.env)).any (·.1) = false := by rfl) :
    PI X (.Tuple elts kk tpos) (.Call (.Name "zip" p) [e, e2] [] pos) (iZipM X.K ta) := by
  refine (⟨fun pins s σ H R I h => ?_⟩)
  refine (Call_ (ld_blt I hg hm PyProof.Rows.boot_zip (PyProof.Rows.callWith_type1 (thn (ha.run pos pins s σ H _ I h) fun us s1 ⟨vs, H1, I1, r1, q1⟩ => ?_) hs hpl)))
  obtain ⟨a, b, xs, ys, rfl, hqx, q⟩ := q1
  cases r1 with
  | cons r rr =>
    cases rr with
    | cons r' rr =>
      cases rr
      cases r
      cases r'
      have fresh5 : (∀ c, c ∈ [s1.heap.objs.size + 4, s1.heap.objs.size + 2, s1.heap.objs.size + 3, s1.heap.objs.size, s1.heap.objs.size + 1] → FpOk X pins H1 c) := fun c hcm => by
        have hle : (s1.heap.objs.size ≤ c) := by
          have cs : c = s1.heap.objs.size + 4 ∨ c = s1.heap.objs.size + 2 ∨ c = s1.heap.objs.size + 3 ∨ c = s1.heap.objs.size ∨ c = s1.heap.objs.size + 1 := by simpa using hcm
          rcases cs with rfl | rfl | rfl | rfl | rfl <;> first | exact Nat.le_add_right _ _ | exact Nat.le_refl _
        exact (I1.fpOk hle (I1.hok.fresh hle))
      obtain ⟨its, rv, p1, _⟩ := (I1.list hqx)
      rcases q with ⟨hqy, q⟩ | ⟨hqy, q⟩
      rotate_left
      · obtain ⟨its2, rv2, p2, _⟩ := I1.list hqy
        refine zip_begins2 (begins_list a its.toArray) (begins_list b its2.toArray) p1.isList p2.isList fun h' hz hTI hTO e1 e2 hsz hk => wpAny_pyIter_zip hz ?_
        exact ⟨s1.heap.objs.size + 4, [s1.heap.objs.size + 4, s1.heap.objs.size + 2, s1.heap.objs.size + 3, s1.heap.objs.size, s1.heap.objs.size + 1], _, _, H1, rfl, I1.kept (t' := s1.toks) hk,
          turn_zip (PySem.W.ktu_apart s1.heap.objs.size a b p1.lt p2.lt), ⟨hz, hTI, ⟨_, _, hTO⟩, ⟨_, e1, rfl, rfl⟩, ⟨_, e2, rfl, rfl⟩⟩, fresh5, q⟩
      obtain ⟨its2, rv2, p2, _⟩ := (I1.tuple hqy)
      obtain ⟨o2, ho2, _⟩ := id p2
      refine zip_begins2 (begins_list a its.toArray) (begins_tuple b its2.toArray) p1.isList p2 fun h' hz hTI hTO e1 e2 hsz hk => wpAny_pyIter_zip hz ?_
      exact ⟨s1.heap.objs.size + 4, [s1.heap.objs.size + 4, s1.heap.objs.size + 2, s1.heap.objs.size + 3, s1.heap.objs.size, s1.heap.objs.size + 1], _, _, H1, rfl, I1.kept (t' := s1.toks) hk,
        turn_zipM (PySem.W.ktu_apart s1.heap.objs.size a b p1.lt (Heap.lt_size ho2)), ⟨hz, hTI, ⟨_, _, hTO⟩, ⟨_, e1, rfl, rfl⟩, ⟨_, e2, rfl, rfl⟩⟩, fresh5, q⟩
end My

set_option maxRecDepth 100000
set_option maxHeartbeats 1000000
/-! list(a text) -/
namespace My
open PySem PySem.Spec PyProof.Rows L2
theorem vals_of : ∀ {xs : List V} {us : List Value}, xs.length = us.length → (∀ (j : Nat) (x : V) (u : Value), xs[j]? = some x → us[j]? = some u → RelV x u) → Vals xs us
  | [], [], _, _ => .nil
  | x :: xs, u :: us, h, k => .cons (k 0 x u rfl rfl) (vals_of (by simpa using h) fun j y v a b => k (j + 1) y v (by simpa using a) (by simpa using b))
def signsV (z : Str) : List V := z.cps.toList.map fun c => V.str ⟨#[c]⟩
def rListT : List V → Hp → VK → Prop := fun xs H Q => ∃ z, xs = [.str z] ∧ z.length ≤ sizeLine ∧ ∀ l, H l = none → Q (.ref l) (upd H l (.lst (signsV z)))
theorem call_list_text {X : Cx} (hc : X.calm = true) : CallR X (.type "list") rListT := by
  intro pins s σ H xs us Q I r h
  obtain ⟨z, rfl, hz, q⟩ := h
  obtain ⟨u, rfl, rx⟩ := vals1 r
  obtain ⟨t, rfl⟩ := rx
  refine call_list_str (I.ok.hd hc) z t (hn := hz) fun h' tk acc' c' hk hS' hacc => ?_
  have hl : (signsV z).length = acc'.toList.length := by
    have := hacc.1
    simp [signsV, this]
  have hv : Vals (signsV z) acc'.toList := vals_of hl fun j x v a b => by
    obtain ⟨c, w, hc2, rfl⟩ := hacc.2 j v (by simpa using b)
    unfold signsV at a
    rw [List.getElem?_map] at a
    have e : z.cps.toList[j]? = some c := by simpa using hc2
    rw [e] at a
    obtain rfl := Option.some.inj a
    exact ⟨_, rfl⟩
  refine ⟨.ref s.heap.objs.size, _, I.laid (t' := tk) hk (Nat.le_refl _) (show ObjOk X.prog X.w _ h' _ (.lst (signsV z)) from ⟨?_, acc'.toList, c', hv, by simpa using hS'⟩), rfl, q _ (I.hok.fresh (Nat.le_refl _))⟩
  simpa [signsV, Str.length] using hz
end My

set_option maxRecDepth 100000
set_option maxHeartbeats 400000
/-! small data: what repr asks of them -/
namespace My
open PySem PySem.Spec PyProof.Rows L2 GxR Gd TL
structure Sm (d : PyData) (k m : Nat) : Prop where
  lay : d.canLay0 = true
  dep : d.depth ≤ k
  wt : d.weight ≤ m
  ish : d.intsShort 13 = true
  sh : d.showable = true
theorem Sm.rep {d : PyData} {k m : Nat} (h : Sm d k m) (hk : k ≤ 64) (hm : m ≤ 2 ^ 20) : d.showable = true ∧ d.depth ≤ 100 ∧ d.shown.length ≤ sizeLine := by
  refine ⟨h.sh, Nat.le_trans h.dep (by omega), Nat.le_trans (shown_le13 ?_ h.ish) (by rw [sizeLine_eq]; decide)⟩
  unfold PyData.layable0
  rw [Bool.and_eq_true, Bool.and_eq_true, decide_eq_true_eq, decide_eq_true_eq]
  exact ⟨⟨h.lay, Nat.le_trans h.dep hk⟩, Nat.le_trans h.wt hm⟩
theorem Sm.mono {d : PyData} {k m k' m' : Nat} (h : Sm d k m) (hk : k ≤ k') (hm : m ≤ m') : Sm d k' m' := ⟨h.lay, Nat.le_trans h.dep hk, Nat.le_trans h.wt hm, h.ish, h.sh⟩
theorem sm_none : Sm .none 0 0 := ⟨rfl, Nat.le_refl 0, Nat.le_refl 0, rfl, rfl⟩
theorem sm_bool (b : Bool) : Sm (.bool b) 0 0 := ⟨rfl, Nat.le_refl 0, Nat.le_refl 0, rfl, rfl⟩
theorem sm_int {i : Int} (h : i.natAbs ≤ 1000) : Sm (.int i) 0 20 := by
  have hl : i.natAbs.log2 ≤ 10 := by
    by_cases z : i.natAbs = 0
    · rw [z]; decide
    · have : i.natAbs.log2 < 11 := (Nat.log2_lt z).mpr (by omega)
      omega
  refine ⟨rfl, Nat.le_refl 0, ?_, ?_, ?_⟩
  · unfold PyData.weight
    split
    · omega
    · omega
  · exact intsShort_of_noneOrIn (lo := -2000) (hi := 2000) (by decide) (by decide) (.int i) (by simp [noneOrIn]; omega)
  · unfold PyData.showable
    rw [decide_eq_true_eq]
    omega
theorem sm_str {z : Str} (g : Good z) (h : z.length ≤ 6) : Sm (.str z) 0 6 := by
  refine ⟨?_, Nat.le_refl 0, h, rfl, rfl⟩
  unfold PyData.canLay0
  unfold PyData.strOk
  rw [Array.all_eq_true_iff_forall_mem]
  intro c hc
  exact decide_eq_true (g c (Array.mem_toList_iff.mpr hc))
theorem sm_all {k m : Nat} : ∀ {ds : List PyData}, (∀ d ∈ ds, Sm d k m) → PyData.canLayAll0 ds = true ∧ PyData.depthAll ds ≤ k ∧ PyData.weightAll ds ≤ ds.length * (m + 1) ∧ PyData.intsShortAll 13 ds = true ∧ PyData.showableAll ds = true
  | [], _ => ⟨rfl, Nat.zero_le _, Nat.zero_le _, rfl, rfl⟩
  | d :: r, h => by
    obtain ⟨a1, a2, a3, a4, a5⟩ := sm_all (ds := r) fun x hx => h x (List.mem_cons_of_mem _ hx)
    have b := h d List.mem_cons_self
    refine ⟨?_, ?_, ?_, ?_, ?_⟩
    · unfold PyData.canLayAll0; rw [b.lay, a1]; rfl
    · unfold PyData.depthAll; exact Nat.max_le.mpr ⟨b.dep, a2⟩
    · unfold PyData.weightAll
      have := b.wt
      rw [List.length_cons, Nat.succ_mul]
      omega
    · unfold PyData.intsShortAll; rw [b.ish, a4]; rfl
    · unfold PyData.showableAll; rw [b.sh, a5]; rfl
theorem sm_list {k m : Nat} {ds : List PyData} (h : ∀ d ∈ ds, Sm d k m) : Sm (.list ds) (k + 1) (ds.length * (m + 1)) := by
  obtain ⟨a1, a2, a3, a4, a5⟩ := sm_all h
  exact ⟨by unfold PyData.canLay0; exact a1, by unfold PyData.depth; omega, by unfold PyData.weight; exact a3, by unfold PyData.intsShort; exact a4, by unfold PyData.showable; exact a5⟩
theorem sm_tuple {k m : Nat} {ds : List PyData} (h : ∀ d ∈ ds, Sm d k m) : Sm (.tuple ds) (k + 1) (ds.length * (m + 1)) := by
  obtain ⟨a1, a2, a3, a4, a5⟩ := sm_all h
  exact ⟨by unfold PyData.canLay0; exact a1, by unfold PyData.depth; omega, by unfold PyData.weight; exact a3, by unfold PyData.intsShort; exact a4, by unfold PyData.showable; exact a5⟩
theorem sm_dP {p : Str × Int} (g : Good p.1) (h : p.1.length ≤ 6) (hr : p.2.natAbs ≤ 1000) : Sm (dP p) 1 42 :=
  sm_tuple (k := 0) (m := 20) (ds := [.str p.1, .int p.2]) fun d hd => by
    simp only [List.mem_cons, List.not_mem_nil, or_false] at hd
    rcases hd with rfl | rfl
    · exact (sm_str g h).mono (Nat.le_refl 0) (by decide)
    · exact sm_int hr
theorem sm_names {a b : Str} (ha : NameOk a) (hb : NameOk b) : Sm (.tuple [.str a, .str b]) 1 14 :=
  sm_tuple (k := 0) (m := 6) (ds := [.str a, .str b]) fun d hd => by
    simp only [List.mem_cons, List.not_mem_nil, or_false] at hd
    rcases hd with rfl | rfl
    · exact sm_str ha.good ha.2.1
    · exact sm_str hb.good hb.2.1
end My

set_option maxRecDepth 100000
set_option maxHeartbeats 400000
/-! the numbers from a to b - 1, as values and as data -/
namespace My
open PySem PySem.Spec PyProof.Rows L2 GxR Gd TL
theorem rgV_snoc {f i : Int} (h : f ≤ i) : rgV f (i + 1) = rgV f i ++ [.int i] := by
  unfold rgV
  rw [show (i + 1 - f).toNat = (i - f).toNat + 1 by omega, List.range_succ, List.map_append]
  congr 1
  show [V.int (f + ((i - f).toNat : Nat))] = _
  rw [show f + ((i - f).toNat : Int) = i by omega]
theorem rgV_nil {f l : Int} (h : l ≤ f) : rgV f l = [] := by
  unfold rgV
  rw [show (l - f).toNat = 0 by omega]
  rfl
/-- how far a row has come that takes just the numbers from f to l - 1 -/
def upTo (f l : Int) (i : Nat) : Int := min l (max f (i : Int))
theorem upTo_in {f l : Int} {i : Nat} (h1 : f ≤ (i : Int)) (h2 : (i : Int) < l) : rgV f (upTo f l (i + 1)) = rgV f (upTo f l i) ++ [.int (i : Nat)] := by
  have e1 : upTo f l (i + 1) = (i : Int) + 1 := by unfold upTo; push_cast; omega
  have e2 : upTo f l i = (i : Int) := by unfold upTo; omega
  rw [e1, e2]
  exact rgV_snoc h1
theorem upTo_out {f l : Int} {i : Nat} (h : ¬ (f ≤ (i : Int) ∧ (i : Int) < l)) : upTo f l (i + 1) = upTo f l i := by
  unfold upTo
  push_cast
  omega
theorem upTo_all {f l : Int} {n : Nat} (h1 : f ≤ l) (h2 : l ≤ (n : Int)) : upTo f l n = l := by unfold upTo; omega
theorem upTo_0 {f l : Int} (h1 : 0 ≤ f) : rgV f (upTo f l 0) = [] := rgV_nil (by unfold upTo; omega)
def rgD (a b : Int) : List PyData := (List.range (b - a).toNat).map fun i => PyData.int (a + (i : Nat))
theorem rg_dp {K : PySem.W.Frag} {H : Hp} (a b : Int) : DpAll K H (rgV a b) (rgD a b) := by
  unfold rgV rgD
  generalize List.range (b - a).toNat = r
  induction r with
  | nil => exact .nil
  | cons i r ih => exact .cons (.int _) ih
theorem rg_sm {a b : Int} (h0 : 0 ≤ a) (h1 : b ≤ 1000) : Sm (.list (rgD a b)) 1 ((rgD a b).length * 21) := sm_list (k := 0) (m := 20) fun d hd => by
  unfold rgD at hd
  obtain ⟨i, hi, rfl⟩ := List.mem_map.mp hd
  have := List.mem_range.mp hi
  exact sm_int (by omega)
theorem rgD_len (a b : Int) : (rgD a b).length = (b - a).toNat := by unfold rgD; rw [List.length_map, List.length_range]
theorem rgV_len (a b : Int) : (rgV a b).length = (b - a).toNat := by unfold rgV; rw [List.length_map, List.length_range]
end My

set_option maxRecDepth 100000
set_option maxHeartbeats 400000
namespace R7
open PySem PySem.Spec PyProof.Rows L2 GxR Gd TL My
/-! ### several tables -/
def Tabs (T : List Addr) (H : Hp) : Prop := ∀ p ∈ T, TabG H p
/-- H' is H with more, but for the tables -/
structure KM (T : List Addr) (H H' : Hp) : Prop where
  keep : ∀ c o, c ∉ T → H c = some o → H' c = some o
  tab : Tabs T H'
theorem KM.refl {T : List Addr} {H : Hp} (t : Tabs T H) : KM T H H := ⟨fun _ _ _ h => h, t⟩
theorem KM.trans {T : List Addr} {H H1 H2 : Hp} (a : KM T H H1) (b : KM T H1 H2) : KM T H H2 := ⟨fun c o n h => b.keep c o n (a.keep c o n h), b.tab⟩
theorem tabs_same {T : List Addr} {H H' : Hp} (t : Tabs T H) (s : Same H H') : Tabs T H' := fun p hp => by
  obtain ⟨ps, e, q⟩ := t p hp
  exact ⟨ps, s _ _ e, q⟩
theorem KM.same {T : List Addr} {H H' : Hp} (t : Tabs T H) (s : Same H H') : KM T H H' := ⟨fun c o _ h => s c o h, tabs_same t s⟩
theorem KM.kt {T : List Addr} {p : Addr} {H H' : Hp} (t : Tabs T H) (hp : p ∈ T) (k : KT p H H') : KM T H H' := by
  refine ⟨fun c o n h => k.keep c o (fun e => n (e ▸ hp)) h, fun q hq => ?_⟩
  by_cases e : q = p
  · rw [e]; exact k.tab
  · obtain ⟨ps, e1, r⟩ := t q hq
    exact ⟨ps, k.keep _ _ e e1, r⟩
theorem KM.tabbed {T : List Addr} {p : Addr} {H H' : Hp} (t : Tabs T H) (hp : p ∈ T) (k : Tabbed p H H') : KM T H H' := KM.kt t hp (KT.of k)
theorem tabs_ne {T : List Addr} {H : Hp} {c : Addr} {o : HO} (t : Tabs T H) (h : H c = some o) (n : ∀ ps, o ≠ .tbl ps) : c ∉ T := fun hm => by
  obtain ⟨ps, e, _⟩ := t c hm
  rw [h] at e
  exact n ps (Option.some.inj e)
theorem KM.nt {T : List Addr} {H H' : Hp} (t : Tabs T H) (k : KM T H H') : Nt H H' := fun c o n h => k.keep c o (tabs_ne t h n) h
theorem KM.alloc {T : List Addr} {H : Hp} {a : Addr} {o : HO} (t : Tabs T H) (h : H a = none) : KM T H (upd H a o) := KM.same t (same_alloc h)
theorem KM.put {T : List Addr} {L : Addr} {H H' : Hp} {o : HO} (t : Tabs T H) (k : KM T H H') (n : H L = none) : KM T H (upd H' L o) := by
  have nL : L ∉ T := fun hm => by
    obtain ⟨ps, e, _⟩ := t L hm
    rw [n] at e; cases e
  refine ⟨fun c u q h => ?_, fun p hp => ?_⟩
  · rw [upd_ne (fun e => by rw [e, n] at h; cases h)]
    exact k.keep c u q h
  · obtain ⟨ps, e, r⟩ := k.tab p hp
    exact ⟨ps, by rw [upd_ne (fun z : p = L => nL (by rw [← z]; exact hp))]; exact e, r⟩
theorem KM.none {T : List Addr} {H H' : Hp} {c : Addr} (k : KM T H H') (hc : c ∉ T) (h : H' c = none) : H c = none := by
  cases e : H c with
  | none => rfl
  | some o => rw [k.keep c o hc e] at h; cases h
theorem KM.lst {T : List Addr} {H H' : Hp} {c : Addr} {xs : List V} (t : Tabs T H) (k : KM T H H') (h : H c = some (.lst xs)) : H' c = some (.lst xs) := KM.nt t k _ _ (by simp) h
/-! ### the parts of a deed -/
inductive Pa
  | s (z : Str) | n (i : Int)
def Pa.v : Pa → V
  | .s z => .str z
  | .n i => .int i
def Pa.t : Pa → Str
  | .s z => z
  | .n i => Str.ofString (toString i)
def Pa.d : Pa → PyData
  | .s z => .str z
  | .n i => .int i
inductive So
  | name | time
def So.w : So → Str
  | .name => Str.ofString "NAME"
  | .time => Str.ofString "TIME"
def So.okB : So → Pa → Bool
  | .name, p => nm p.v
  | .time, p => wh 0 9999 p.v
/-- the form of a run -/
def runF : Str := Str.ofString "NAME NAME NAME TIME TIME"
def runS : List So := [.name, .name, .name, .time, .time]
theorem run_split : PySem.Txt.split runF (Str.ofString " ") = runS.map So.w := by decide +kernel
theorem runF_len : runF.length ≤ 40 := by decide +kernel
/-- these parts are a run's -/
def okRun (ps : List Pa) : Bool := ps.length == 5 && (runS.zip ps).all fun q => q.1.okB q.2
theorem okRun_at {ps : List Pa} (h : ps.length = 5) : okRun ps = (runS.zip ps).all fun q => q.1.okB q.2 := by
  unfold okRun
  rw [h]
  rfl
end R7

set_option maxRecDepth 100000
set_option maxHeartbeats 400000
namespace R7
open PySem PySem.Spec PyProof.Rows L2 GxR Gd TL My
/-- a global tuple of texts -/
def Cst (K : PySem.W.Frag) (a : Addr) (zs : List Str) : Prop := (∀ H : Hp, SqT K H a (zs.map V.str)) ∧ ∃ o, K.lookup a = some o ∧ o.cls = .type "tuple" ∧ o.dict = none
/-- a call of a local name that holds one of several defs -/
def tCallJ {J : Type} (i : Nat) (f : J → Addr) (sp : J → Sp) (t : TA) : TE := fun σ H Q => ∃ j, σ[i]? = some (some (.ref (f j))) ∧ t σ H fun vs H1 => sp j vs H1 Q (fun _ _ _ => False)
theorem pe_callJ {J : Type} {X : Cx} {k i : Nat} {x : Str} {p pos : Pos} {e : Expr} {es : List Expr} {t : TA} {f : J → Addr} {sp : J → Sp} (A : ∀ j, Held X.prog X.w X.K X.mg X.base k (f j) (sp j)) (hr : Room k X.A) (hN : X.N[i]? = some x) (hv : Vis X.env.scope x) (ha : PA X (e :: es) t)
    (hdb : (x == ("__debug__" : Str)) = false := by decide) (hcd : (x == ("__classdict__" : Str)) = false := by decide)
    (he : starEach (e :: es) X.env = (false, eval e X.env) :: starEach es X.env := by rfl) (hpl : (backTo pos (starEach es X.env)).any (·.1) = false := by rfl) : PE X (.Call (.Name x p) (e :: es) [] pos) (tCallJ i f sp t) := by
  refine ⟨fun pins s σ H Q I h => ?_⟩
  obtain ⟨j, hs, ht⟩ := h
  refine (pe_callA (S := fun g => if g = f j then some (sp j) else none) (fun g sp' h => ?_) hr hN hv ha hdb hcd he hpl).run pins s σ H Q I ⟨f j, sp j, hs, if_pos rfl, ht⟩
  by_cases e : g = f j
  · subst e
    rw [if_pos rfl] at h
    obtain rfl := Option.some.inj h
    exact A j
  · rw [if_neg e] at h
    cases h
def WOk (z : Str) : Prop := z.length ≤ 200000 ∧ Good z
theorem WOk.th {H : Hp} {z : Str} (h : WOk z) : Th H (.str z) := .str z (by have := h.1; omega) h.2
theorem WOk.line {z : Str} (h : WOk z) : z.length ≤ sizeLine := small_line (by have := h.1; omega)
def PaOk : Pa → Prop
  | .s z => WOk z
  | .n _ => True
theorem pa_th {H : Hp} {p : Pa} (h : PaOk p) : Th H p.v := by
  cases p with
  | s z => exact WOk.th h
  | n i => exact .int i
section
variable {P : Program} {w : World} {K : PySem.W.Frag} {mg : Str → Option Value} {base : Heap} {P1 P2 P3 aSORTS : Addr} {tM : Tok}
abbrev s_is_name : Stmt := top 12
theorem sc_is_name : FnScope ["thing"] ["thing"] (defScope s_is_name) := ⟨rfl, rfl, rfl, by decide +kernel, rfl, by decide +kernel, by decide +kernel⟩
abbrev s_is_time : Stmt := top 14
theorem sc_is_time : FnScope ["thing"] ["thing"] (defScope s_is_time) := ⟨rfl, rfl, rfl, by decide +kernel, rfl, by decide +kernel, by decide +kernel⟩
abbrev s_is_of : Stmt := top 19
theorem sc_is_of : FnScope ["sort", "part", "check"] ["sort", "part"] (defScope s_is_of) := ⟨rfl, rfl, rfl, by decide +kernel, rfl, by decide +kernel, by decide +kernel⟩
def spChk (T : List Addr) (x : So) : Sp := fun vs H Q _ => ∃ (p : Pa), vs = [p.v] ∧ PaOk p ∧ Tabs T H ∧ ∀ H', KM T H H' → Q (.bl (x.okB p)) H'
theorem ok_chk_name {T : List Addr} {f f1 : Addr} {fd fd1 : FuncData} (hp : P1 ∈ T) (F : Fun K "_is_name" "_is_name" s_is_name f fd)
    (Nis_name : Fn K mg "is_name" sName ["thing"] f1 fd1) (Gis_name : FnOk P w K mg base CX0 2 f1 fd1 ["thing"] (spName P1)) : FnOk P w K mg base CX0 3 f fd ["thing"] (spChk T .name) := by
  refine F.ok sc_is_name (fun vs H Q E h => ?_) (fun cdv A outer s H vs Q E hr h => ?_)
  · obtain ⟨p, rfl, _⟩ := h
    rfl
  · obtain ⟨p, rfl, hx, tb, k⟩ := h
    refine ⟨_, pss_one (ps_ret (pe_call Gis_name (hr.mono (by decide)) (by rfl) Nis_name.g Nis_name.kp Nis_name.b .nil pass0 (pa_cons (pv 0) pa_nil))), ?_⟩
    exact ⟨_, rfl, p.v, rfl, pa_th hx, tb P1 hp, fun H' kt => k H' (KM.kt tb hp kt)⟩
theorem ok_chk_time {T : List Addr} {f f1 : Addr} {fd fd1 : FuncData} (F : Fun K "_is_time" "_is_time" s_is_time f fd) (gMOST : mg "MOST_TIME" = some (.int 9999 tM))
    (Nis_whole : Fn K mg "is_whole" sWhole ["thing", "low", "high"] f1 fd1) (Gis_whole : FnOk P w K mg base CX0 1 f1 fd1 ["thing", "low", "high"] spWhole) : FnOk P w K mg base CX0 3 f fd ["thing"] (spChk T .time) := by
  refine F.ok sc_is_time (fun vs H Q E h => ?_) (fun cdv A outer s H vs Q E hr h => ?_)
  · obtain ⟨p, rfl, _⟩ := h
    rfl
  · obtain ⟨p, rfl, hx, tb, k⟩ := h
    refine ⟨_, pss_one (ps_ret (pe_call Gis_whole (hr.mono (by decide)) (by rfl) Nis_whole.g Nis_whole.kp Nis_whole.b .nil pass0 (pa_cons (pv 0) (pa_cons pe_int (pa_cons (pe_glob (v := .int 9999) (by rfl) gMOST ⟨_, rfl⟩) pa_nil))))), ?_⟩
    exact ⟨_, rfl, p.v, 0, 9999, rfl, pa_th hx, k H (KM.refl tb)⟩
/-- _is_of(sort, part) -/
def spOf (T : List Addr) : Sp := fun vs H Q _ => ∃ (x : So) (p : Pa), vs = [.str x.w, p.v] ∧ PaOk p ∧ Tabs T H ∧ ∀ H', KM T H H' → Q (.bl (x.okB p)) H'
theorem ok_is_of {T : List Addr} {f : Addr} {fd : FuncData} {fs : So → Addr} (F : Fun K "_is_of" "_is_of" s_is_of f fd) (gSORTS : mg "SORTS" = some (.ref aSORTS)) (cSORTS : ∀ x : So, KDct K w aSORTS x.w (.ref (fs x)))
    (HA : ∀ x, Held P w K mg base 3 (fs x) (spChk T x)) : FnOk P w K mg base CX0 4 f fd ["sort", "part"] (spOf T) := by
  refine F.ok sc_is_of (fun vs H Q E h => ?_) (fun cdv A outer s H vs Q E hr h => ?_)
  · obtain ⟨x, p, rfl, _⟩ := h
    rfl
  · obtain ⟨x, p, rfl, hx, tb, k⟩ := h
    refine ⟨_, pss_cons (ps_set (i := 2) sc_is_of.nd rfl (Or.inl rfl) (pe_ix ix_kdict (pe_glob (v := .ref aSORTS) (by rfl) gSORTS rfl) (pv 0) (fun _ _ => rfl)))
      (pss_one (ps_ret (pe_callJ HA (hr.mono (by decide)) (i := 2) rfl (.inl rfl) (pa_cons (pv 1) pa_nil)))), ?_⟩
    refine ⟨_, rfl, aSORTS, x.w, _, rfl, rfl, cSORTS x, ?_⟩
    exact ⟨x, rfl, _, rfl, p, rfl, hx, tb, k⟩
end
end R7

set_option maxRecDepth 100000
set_option maxHeartbeats 400000
/-! GxW: all(..) over what is walked in a told number of turns. -/
namespace My
open PySem PySem.Spec PyProof.Rows L2
theorem gx_it {J : It} {n : Nat} {G : Hp → Prop} {Y : Nat → Hp → V → Hp → Prop} (w : Walk J n G Y) {g : TG} {te : TE} {vs : List Nat} {σ : L2.St} {QF : Bool → Hp → Prop} {H : Hp} (Pv : Nat → Hp → Prop) (h0 : Pv 0 H) (hG : ∀ i H, i ≤ n → Pv i H → G H)
    (hs : ∀ i x H H', i < n → Pv i H → Y i H x H' → g x σ H' fun σ2 H2 => wipe σ2 vs = σ ∧ te σ2 H2 fun y H3 => ∃ b : Bool, y = .bl b ∧ (b = true → Pv (i + 1) H3) ∧ (b = false → QF false H3)) (hd : ∀ H, Pv n H → QF true H) :
    ∃ W : Nat → Nat → Hp → Prop, (∃ m, W 0 m H) ∧ GxT J g te vs σ QF W := by
  refine (⟨fun i m H => m = n - i ∧ i ≤ n ∧ Pv i H, ⟨n, by simp, Nat.zero_le _, h0⟩, ?_⟩)
  rintro i m H ⟨rfl, hi, p⟩
  have q := hG i H hi p
  by_cases hlt : i < n
  · exact .inr ⟨w.goes i H hlt q, Pv (i + 1), fun H' p' => ⟨n - (i + 1), by omega, rfl, hlt, p'⟩, fun x H' y => hs i x H H' hlt p (w.yields i H x H' hlt q y)⟩
  · obtain rfl : i = n := by omega
    exact (.inl ⟨w.stops H q, hd H p⟩)
theorem walk_zipM {K : PySem.W.Frag} {a b : Addr} {xs ys : List V} (hn : xs.length = ys.length) : Walk (ItzM K a b) xs.length (fun H => SqL K H a xs ∧ SqT K H b ys) (YPair (fun i => xs[i]?) (fun i => ys[i]?)) := by
  refine ⟨fun i H hi q => ?_, fun H q => ⟨xs, ys, q.1, q.2, rfl, hn.symm⟩, fun i H v H' _ q y => ?_⟩
  · exact ⟨xs, ys, xs[i], ys[i]'(hn ▸ hi), q.1, q.2, by simp [hi], List.getElem?_eq_getElem _⟩
  · obtain ⟨T, x, z, h1, h2, h3, h4, h5⟩ := (y)
    exact (⟨T, x, z, h1, h2, h3, h4 xs q.1, h5 ys q.2⟩)
end My

set_option maxRecDepth 100000
set_option maxHeartbeats 800000
namespace R7
open PySem PySem.Spec PyProof.Rows L2 GxR Gd TL My
theorem ixL {X : Cx} {K : PySem.W.Frag} (h : X.K = K) : IxR X (rIxL K) := h ▸ ix_list
theorem inKD {X : Cx} {K : PySem.W.Frag} {w : World} {d : Addr} {es : Array DictEntry} {n : Nat} (hK : X.K = K) (hw : X.w = w) (D : KDict K w d es n) :
    OpR X (compareOp .In) (fun x y H Q => ∃ (z : Str) (r : Option Value), x = .str z ∧ y = .ref d ∧ PySem.W.nsIn K d z = some r ∧ Q (.bl r.isSome) H) := by
  subst hK hw
  exact op_in_kd D
theorem notInKD {X : Cx} {K : PySem.W.Frag} {w : World} {d : Addr} {es : Array DictEntry} {n : Nat} (hK : X.K = K) (hw : X.w = w) (D : KDict K w d es n) :
    OpR X (compareOp .NotIn) (fun x y H Q => ∃ (z : Str) (r : Option Value), x = .str z ∧ y = .ref d ∧ PySem.W.nsIn K d z = some r ∧ Q (.bl (!r.isSome)) H) := by
  subst hK hw
  exact op_notIn_kd D
/-- the sorts' dict -/
structure SoD (K : PySem.W.Frag) (w : World) (a : Addr) (fs : So → Addr) (es : Array DictEntry) (n : Nat) : Prop where
  d : KDict K w a es n
  yes : ∀ x : So, PySem.W.nsIn K a x.w = some (some (.ref (fs x)))
theorem SoD.item {K : PySem.W.Frag} {w : World} {a : Addr} {fs : So → Addr} {es : Array DictEntry} {n : Nat} (S : SoD K w a fs es n) (x : So) : KDct K w a x.w (.ref (fs x)) := ⟨es, n, _, S.d.at_, S.d.lit, S.yes x, rfl⟩
theorem same_nt {H H' : Hp} (s : Same H H') : Nt H H' := fun c o _ h => s c o h
theorem all_step {α : Type} {f : α → Bool} {l : List α} {i : Nat} {x : α} (h : l[i]? = some x) : (l.take (i + 1)).all f = ((l.take i).all f && f x) := by
  rw [take_at h, List.all_append]
  simp
theorem all_no {α : Type} {f : α → Bool} {l : List α} {i : Nat} {x : α} (h : l[i]? = some x) (e : f x = false) : l.all f = false := by
  cases q : l.all f with
  | false => rfl
  | true =>
    rw [List.all_eq_true.mp q x (List.mem_of_getElem? h)] at e
    cases e
section
variable {P : Program} {w : World} {K : PySem.W.Frag} {mg : Str → Option Value} {base : Heap} {P1 P2 P3 aSORTS aFORMS : Addr} {fs : So → Addr} {es : Array DictEntry} {nS : Nat}
abbrev s_fits : Stmt := top 18
theorem sc_fits : FnScope ["form", "parts", "sorts", "word", "sort", "part"] ["form", "parts"] (defScope s_fits) := ⟨rfl, rfl, rfl, by decide +kernel, rfl, by decide +kernel, by decide +kernel⟩
def spFits (K : PySem.W.Frag) (T : List Addr) : Sp := fun vs H Q _ => ∃ (b : Addr) (ps : List Pa), vs = [.str runF, .ref b] ∧ ps.length = 5 ∧ (∀ p ∈ ps, PaOk p) ∧ SqL K H b (ps.map Pa.v) ∧ Tabs T H ∧ ∀ H', KM T H H' → Q (.bl (okRun ps)) H'
theorem ok_fits {T0 : List Addr} {f f1 c : Addr} {fd1 : FuncData} {oc kV doc pm ct : Value} {od an : Option Addr} {osl : Array (Option Value)} (hp : P3 ∈ T0)
    (lk : K.lookup f = some ⟨oc, od, .func (PySem.W.fnOf "fits" "fits" (defArgs s_fits) (defBody s_fits) (defScope s_fits) .none kV doc pm an (.ref c) ct), osl⟩) (hcd : PySem.W.codeIn K (.ref c) "fits" = true)
    (T : Txt mg) (TB : TabB base mg c P3) (gSORTS : mg "SORTS" = some (.ref aSORTS)) (SD : SoD K w aSORTS fs es nS)
    (Nis_of : Fn K mg "_is_of" s_is_of ["sort", "part"] f1 fd1) (Gis_of : FnOk P w K mg base CX0 4 f1 fd1 ["sort", "part"] (spOf T0)) :
    FnOk P w K mg base CX0 6 f (PySem.W.fnOf "fits" "fits" (defArgs s_fits) (defBody s_fits) (defScope s_fits) .none kV doc pm an (.ref c) ct) ["form", "parts"] (spFits K T0) := by
  refine fn_of lk hcd sc_fits (fun vs H Q E h => ?_) (fun A outer s H vs Q E hr h => ?_)
  · obtain ⟨b, ps, rfl, _⟩ := h
    rfl
  · obtain ⟨b, ps, rfl, l5, pok, hb, tb, k⟩ := h
    refine ⟨_, pss_cons (ps_setLc (i := 2) (own := [("word", 3)]) (g := gName 3) rfl sc_fits.nd rfl rfl (sw_true rfl rfl rfl (by decide +kernel)) (pi_list (pe_split (pv 0) pe_str)) (blkOk_by (own := [("word", 3)]) (N := ["form", "parts", "sorts", "word", "sort", "part"]) (sc := defScope s_fits) (by decide +kernel)) (fun _ _ _ _ _ => (pg_name (i := 3) sc_fits.nd rfl (Or.inl rfl))) (fun _ _ _ _ _ => pts_one (pt_cmpR (inKD rfl rfl SD.d) (pv 3) (pe_glob (v := .ref aSORTS) (by rfl) gSORTS rfl) rfl)) (fun _ _ _ _ _ => (pv 3)))
      (pss_one (ps_ret (pe_and (pe_cmpR op_eq (pe_callB call_len_seq (by rfl) T.len_ PySem.boot_len (pa_cons (pv 2) pa_nil)) (pe_callB call_len_seq (by rfl) T.len_ PySem.boot_len (pa_cons (pv 1) pa_nil)) (nomark _)) (pe_one (pe_allX (k := 4) (g := gTup K 2 (gCons (gName 4) (gCons (gName 5) gNil))) hr rfl sc_fits.nd (by rfl) T.all_ (by decide +kernel) TB rfl ⟨rfl, by decide +kernel, by decide +kernel⟩ (blkOk_by (own := [("sort", 4), ("part", 5)]) (N := ["form", "parts", "sorts", "word", "sort", "part"]) (sc := defScope s_fits) (by decide +kernel)) (pi_zipM (by rfl) T.zip_ (pa_cons (pv 2) (pa_cons (pv 1) pa_nil))) (fun _ _ _ _ _ _ _ _ => (pg_tup (by rfl) (pgs_cons (pg_name (i := 4) sc_fits.nd rfl (Or.inl rfl)) (pgs_cons (pg_name (i := 5) sc_fits.nd rfl (Or.inl rfl)) pgs_nil)))) (fun _ _ _ _ _ _ _ hB => (pe_call Gis_of hB (by rfl) Nis_of.g Nis_of.kp Nis_of.b .nil pass0 (pa_cons (pv 4) (pa_cons (pv 5) pa_nil)))) (fun _ => rfl)))))), ?_⟩
    refine ⟨_, rfl, ⟨_, rfl⟩, _, _, rfl, rfl, rfl, Nat.le_trans (Nat.add_le_add_right runF_len 2) (by decide), fun p hp0 => ?_⟩
    rw [run_split]
    have tb1 : Tabs T0 (upd H p (.lst ((runS.map So.w).map V.str))) := tabs_same tb (same_alloc hp0)
    have hb1 : SqL K (upd H p (.lst ((runS.map So.w).map V.str))) b (ps.map Pa.v) := (KM.nt tb (KM.alloc tb hp0)).seq hb
    have k1 : ∀ H', KM T0 (upd H p (.lst ((runS.map So.w).map V.str))) H' → Q (.bl (okRun ps)) H' := fun H' km => k H' ((KM.alloc tb hp0).trans km)
    have hl : SqL K (upd H p (.lst ((runS.map So.w).map V.str))) p ((runS.map So.w).map V.str) := SqL.of upd_same
    generalize upd H p (.lst ((runS.map So.w).map V.str)) = H1 at tb1 hb1 k1 hl ⊢
    refine ⟨p, rfl, ⟨_, hl⟩, fun D hD => lc_it (walk_list (K := K) (xs := (runS.map So.w).map V.str)) (fun i H' => KB D H1 H' ∧ H' D = some (.lst ((runS.take i).map fun x => V.str x.w))) ⟨KB.alloc hD, upd_same⟩ (fun i H' _ h => (same_nt (KB.same hD h.1)).seq hl) ?_ ?_⟩
    · rintro i v H' H'' hi ⟨kb, e⟩ ⟨rfl, hv⟩
      have hi5 : i < 5 := hi
      obtain ⟨x, hx⟩ : ∃ x, runS[i]? = some x := ⟨_, List.getElem?_eq_getElem hi5⟩
      have ev : v = .str x.w := by
        rw [List.getElem?_map, List.getElem?_map, hx] at hv
        exact (Option.some.inj hv).symm
      subst ev
      refine ⟨rfl, _, rfl, _, _, rfl, rfl, SD.yes x, _, rfl, ?_⟩
      refine ⟨_, rfl, _, e, ?_, fun c o n h => by rw [upd_ne n]; exact kb c o n h, ?_⟩
      · rw [List.length_map, List.length_take]
        exact lt_line _ (by omega)
      · rw [upd_same, take_at hx, List.map_append]
        rfl
    · rintro H' ⟨kb, e⟩
      rw [List.length_map, List.length_map, List.take_of_length_le (Nat.le_refl _)] at e
      have sm := KB.same hD kb
      have tb2 := tabs_same tb1 sm
      have k2 : ∀ H2, KM T0 H' H2 → Q (.bl (okRun ps)) H2 := fun H2 km => k1 H2 ((KM.same tb1 sm).trans km)
      have hb2 : SqL K H' b (ps.map Pa.v) := (same_nt sm).seq hb1
      clear hb1 k1 kb tb1 sm hl
      refine ⟨_, rfl, D, _, rfl, .inl (SqL.of e), _, rfl, b, _, rfl, .inl hb2, ?_⟩
      have ln : (runS.map fun x => V.str x.w).length = (ps.map Pa.v).length := by rw [List.length_map, List.length_map, l5]; rfl
      refine ⟨rfl, _, rfl, ?_⟩
      rw [decide_eq_true (show V.int ↑(runS.map fun x => V.str x.w).length = V.int ↑(ps.map Pa.v).length by rw [ln]), if_pos rfl]
      refine ⟨_, rfl, _, rfl, D, b, _, ps.map Pa.v, rfl, SqL.of e, ?_⟩
      refine .inr ⟨hb2, tb2 P3 hp, fun H2 ht => gx_it (walk_zip (K := K) (n := (runS.map fun x => V.str x.w).length) (by rw [ln, Nat.min_self])) (fun i H3 => KM T0 H' H3 ∧ ((runS.zip ps).take i).all (fun q => q.1.okB q.2) = true) ⟨KM.tabbed tb2 hp ht, rfl⟩ (fun i H3 _ km => ⟨(KM.nt tb2 km.1).seq (SqL.of e), (KM.nt tb2 km.1).seq hb2⟩) ?_ (fun H3 km => ?_)⟩
      · rintro i x H3 H4 hi ⟨km, al⟩ ⟨t, u, v, rfl, ht, rfl, h1, h2⟩
        have hi5 : i < 5 := hi
        obtain ⟨y, hy⟩ : ∃ y, runS[i]? = some y := ⟨_, List.getElem?_eq_getElem hi5⟩
        obtain ⟨q, hq⟩ : ∃ q, ps[i]? = some q := ⟨_, List.getElem?_eq_getElem (by omega)⟩
        have h1 : (runS.map fun x => V.str x.w)[i]? = some u := h1
        have h2 : (ps.map Pa.v)[i]? = some v := h2
        rw [List.getElem?_map, hy] at h1
        rw [List.getElem?_map, hq] at h2
        obtain rfl := Option.some.inj h1
        obtain rfl := Option.some.inj h2
        have hz : (runS.zip ps)[i]? = some (y, q) := by rw [List.getElem?_zip_eq_some]; exact ⟨hy, hq⟩
        have tb4 : Tabs T0 (upd H3 t (.tup [.str y.w, q.v])) := tabs_same km.tab (same_alloc ht)
        have km4 : KM T0 H' (upd H3 t (.tup [.str y.w, q.v])) := km.trans (KM.alloc km.tab ht)
        refine ⟨t, [.str y.w, q.v], rfl, SqT.of upd_same, rfl, ?_⟩
        refine ⟨_, _, rfl, _, _, rfl, rfl, rfl, _, rfl, _, rfl, y, q, rfl, pok q (List.mem_of_getElem? hq), tb4, fun H5 km5 => ⟨y.okB q, rfl, fun ye => ⟨km4.trans km5, by rw [all_step hz, al]; exact ye⟩, fun no => ?_⟩⟩
        have r := k2 H5 (km4.trans km5)
        rw [okRun_at l5, all_no hz no] at r
        exact r
      · have r := k2 H3 km.1
        have q := km.2
        rw [List.take_of_length_le (by rw [List.length_zip, l5]; exact Nat.le_refl _)] at q
        rw [okRun_at l5, q] at r
        exact r
end
end R7

set_option maxRecDepth 100000
set_option maxHeartbeats 800000
namespace R7
open PySem PySem.Spec PyProof.Rows L2 GxR Gd TL My
/-! ### the words of a row -/
def Wok (z : Str) : Prop := 1 ≤ z.length ∧ z.length ≤ 7 ∧ (32 : Nat) ∉ tl z
theorem nm_name {z : Str} (h : nm (.str z) = true) : NameOk z := by
  unfold nm at h
  simp only [Bool.and_eq_true, decide_eq_true_eq] at h
  exact ⟨h.1.1, h.1.2, h.2⟩
theorem wh_int {lo hi : Int} {v : V} (h : wh lo hi v = true) : ∃ i : Int, v = .int i ∧ lo ≤ i ∧ i ≤ hi := by
  cases v with
  | int i =>
    simp only [wh, Bool.and_eq_true, decide_eq_true_eq] at h
    exact ⟨i, rfl, h.1, h.2⟩
  | _ => cases h
theorem name_wok {z : Str} (h : NameOk z) : Wok z := ⟨h.1, by have := h.2.1; omega, fun hm => by
  have := List.all_eq_true.mp h.2.2 32 hm
  exact absurd this (by decide)⟩
theorem num_wok {i : Int} (h0 : 0 ≤ i) (h1 : i ≤ 999999) : Wok (Str.ofString (toString i)) ∧ (Str.ofString (toString i)).length ≤ 6 := by
  obtain ⟨n, rfl⟩ := Int.eq_ofNat_of_zero_le h0
  have l6 := numL_len (n := n) (k := 6) (by decide) (by omega)
  have e : (Str.ofString (toString ((n : Nat) : Int))).length = (numL n).length := by rw [len_tl, tl_num]
  refine ⟨⟨?_, by omega, by rw [tl_num]; exact numL_free (.inl (by decide))⟩, by omega⟩
  rw [e]
  exact List.length_pos_iff.mpr (numL_ne n)
/-- a part of its sort -/
inductive PaIs : So → Pa → Prop
  | name (z : Str) (h : NameOk z) : PaIs .name (.s z)
  | time (i : Int) (h0 : 0 ≤ i) (h1 : i ≤ 9999) : PaIs .time (.n i)
theorem okB_iff {x : So} {p : Pa} : x.okB p = true ↔ PaIs x p := by
  refine ⟨fun h => ?_, fun h => ?_⟩
  · cases x with
    | name =>
      cases p with
      | s z => exact .name z (nm_name h)
      | n i => cases h
    | time =>
      obtain ⟨i, e, h0, h1⟩ := wh_int h
      cases p with
      | s z => cases e
      | n k =>
        cases e
        exact .time i h0 h1
  · cases h with
    | name z h => exact NameOk.nm h
    | time i h0 h1 =>
      show wh 0 9999 (.int i) = true
      simp [wh, h0, h1]
theorem PaIs.wok {x : So} {p : Pa} (h : PaIs x p) : Wok p.t := by
  cases h with
  | name z h => exact name_wok h
  | time i h0 h1 => exact (num_wok h0 (by omega)).1
theorem PaIs.log {x : So} {p : Pa} (h : PaIs x p) : ∀ i, p = .n i → i.natAbs.log2 < 1920 := by
  rintro i rfl
  cases h with
  | time i h0 h1 =>
    have : i.natAbs < 2 ^ 20 := by omega
    by_cases e : i.natAbs = 0
    · rw [e]; decide
    · have := (Nat.log2_lt e).mpr this
      omega
theorem PaIs.ok {x : So} {p : Pa} (h : PaIs x p) : PaOk p := by
  cases h with
  | name z h => exact ⟨by have := h.2.1; omega, h.good⟩
  | time i _ _ => trivial
theorem okRun_is {ps : List Pa} (h : okRun ps = true) : ps.length = 5 ∧ ∀ p ∈ ps, ∃ x, PaIs x p := by
  unfold okRun at h
  rw [Bool.and_eq_true] at h
  have l5 : ps.length = 5 := eq_of_beq h.1
  refine ⟨l5, fun p hp => ?_⟩
  obtain ⟨i, hi⟩ := List.mem_iff_getElem?.mp hp
  have i5 : i < 5 := by
    have := (List.getElem?_eq_some_iff.mp hi).1
    omega
  obtain ⟨x, hx⟩ : ∃ x, runS[i]? = some x := ⟨_, List.getElem?_eq_getElem i5⟩
  have hz : (runS.zip ps)[i]? = some (x, p) := by rw [List.getElem?_zip_eq_some]; exact ⟨hx, hi⟩
  exact ⟨x, okB_iff.mp (List.all_eq_true.mp h.2 _ (List.mem_of_getElem? hz))⟩
theorem sum_wok : ∀ {l : List Str}, (∀ z ∈ l, Wok z) → (l.map (·.length)).sum ≤ 7 * l.length
  | [], _ => Nat.le_refl _
  | z :: l, h => by
    have a := (h z (List.mem_cons_self ..)).2.1
    have b := sum_wok (l := l) fun y hy => h y (List.mem_cons_of_mem _ hy)
    show z.length + (l.map (·.length)).sum ≤ 7 * (l.length + 1)
    omega
theorem row_split {l : List Str} (hn : l ≠ []) (h : ∀ z ∈ l, Wok z) : Txt.split (Txt.join (Str.ofString " ") l) (Str.ofString " ") = l :=
  split_join (s := 32) (S := []) (by decide +kernel) (by decide +kernel) hn fun p hp => (h p hp).2.2
def rowT (ps : List Pa) : Str := Txt.join (Str.ofString " ") (ps.map Pa.t)
section
variable {P : Program} {w : World} {K : PySem.W.Frag} {mg : Str → Option Value} {base : Heap} {P1 P2 P3 aSORTS aFORMS : Addr} {fs : So → Addr} {es : Array DictEntry} {nS : Nat} {tM : Tok}
theorem call_str_is {X : Cx} : CallR X (.type "str") (fun xs H Q => ∃ p : Pa, xs = [p.v] ∧ (∀ i, p = .n i → i.natAbs.log2 < 1920) ∧ Q (.str p.t) H) := by
  intro pins s σ H xs us Q I rs h
  obtain ⟨p, rfl, hi, h⟩ := h
  cases p with
  | s z => exact SkE.call_str_str pins s σ H _ us Q I rs ⟨z, rfl, h⟩
  | n i => exact call_str_int pins s σ H _ us Q I rs ⟨i, rfl, hi i rfl, h⟩
abbrev s_write_row : Stmt := top 20
theorem sc_write_row : FnScope ["form", "parts", "left", "words", "word"] ["form", "parts"] (defScope s_write_row) := ⟨rfl, rfl, rfl, by decide +kernel, rfl, by decide +kernel, by decide +kernel⟩
def spWrite (K : PySem.W.Frag) : Sp := fun vs H Q _ => ∃ (b : Addr) (ps : List Pa), vs = [.str runF, .ref b] ∧ okRun ps = true ∧ SqT K H b (ps.map Pa.v) ∧ ∀ H', Same H H' → Q (.str (rowT ps)) H'
theorem ok_write_row {f : Addr} {fd : FuncData} (F : Fun K "write_row" "write_row" s_write_row f fd) (T : Txt mg) (gSORTS : mg "SORTS" = some (.ref aSORTS)) (SD : SoD K w aSORTS fs es nS) : FnOk P w K mg base CX0 1 f fd ["form", "parts"] (spWrite K) := by
  refine F.ok sc_write_row (fun vs H Q E h => ?_) (fun cdv A outer s H vs Q E hr h => ?_)
  · obtain ⟨b, ps, rfl, _⟩ := h
    rfl
  · obtain ⟨b, ps, rfl, okr, hb, k⟩ := h
    refine ⟨_, pss_cons (ps_set (i := 2) sc_write_row.nd rfl (Or.inl rfl) (pe_callTy call_list_of (by rfl) T.list_ (by decide +kernel) (pa_cons (pv 1) pa_nil)))
      (pss_cons (ps_set (i := 3) sc_write_row.nd rfl (Or.inl rfl) (pe_lst pa_nil))
      (pss_cons (ps_for PassesOwn.never rfl (pi_list (pe_split (pv 0) pe_str)) (pg_name (i := 4) sc_write_row.nd rfl (Or.inl rfl)) (pss_one (ps_expr (pe_bm PySem.F.plainAttrs_list PySem.F.slot_list_append PySem.F.type_list_append mt_append (pv 3) (pa_cons (pe_ifExp (pt_cmpR (inKD rfl rfl SD.d) (pv 4) (pe_glob (v := .ref aSORTS) (by rfl) gSORTS rfl) rfl) (pe_callTy call_str_is (by rfl) T.str_ (by decide +kernel) (pa_cons (pe_bm PySem.F.plainAttrs_list PySem.F.slot_list_pop PySem.F.type_list_pop mt_popAt (pv 2) (pa_cons pe_int pa_nil)) pa_nil)) (pv 4)) pa_nil)))))
      (pss_one (ps_ret (pe_join pe_str (pv 3)))))), ?_⟩
    obtain ⟨l5, pis⟩ := okRun_is okr
    refine ⟨_, rfl, b, _, rfl, .inr hb, fun l hl => ?_⟩
    refine ⟨Nat.zero_le _, fun m hm => ?_⟩
    have nml : m ≠ l := fun z => by rw [z, upd_same] at hm; cases hm
    have hmH : H m = none := by rw [upd_ne nml] at hm; exact hm
    refine ⟨_, rfl, ⟨_, rfl⟩, _, _, rfl, rfl, rfl, Nat.le_trans (Nat.add_le_add_right (runF_len) 2) (by decide), fun p hp0 => ?_⟩
    rw [run_split]
    have npm : p ≠ m := fun z => by rw [z, upd_same] at hp0; cases hp0
    have npl : p ≠ l := fun z => by rw [z, upd_ne nml.symm, upd_same] at hp0; cases hp0
    have hw : upd (upd (upd H l (.lst (ps.map Pa.v))) m (.lst [])) p (.lst ((runS.map So.w).map V.str)) p = some (.lst ((runS.map So.w).map V.str)) := upd_same
    have el : upd (upd (upd H l (.lst (ps.map Pa.v))) m (.lst [])) p (.lst ((runS.map So.w).map V.str)) l = some (.lst (ps.map Pa.v)) := by rw [upd_ne npl.symm, upd_ne nml.symm, upd_same]
    have em : upd (upd (upd H l (.lst (ps.map Pa.v))) m (.lst [])) p (.lst ((runS.map So.w).map V.str)) m = some (.lst []) := by rw [upd_ne npm.symm, upd_same]
    have kH : Same H (upd (upd (upd H l (.lst (ps.map Pa.v))) m (.lst [])) p (.lst ((runS.map So.w).map V.str))) := fun c o h => by
      rw [same_alloc hp0 c o (same_alloc hm c o (same_alloc hl c o h))]
    have hpH : H p = none := by rw [upd_ne npm, upd_ne npl] at hp0; exact hp0
    generalize upd (upd (upd H l (.lst (ps.map Pa.v))) m (.lst [])) p (.lst ((runS.map So.w).map V.str)) = H1 at hw el em kH ⊢
    refine ⟨p, rfl, ⟨_, SqL.of hw⟩, for_it (D := ⟨_, _, fun _ _ => False, fun _ _ => False⟩) (walk_list (K := K) (xs := (runS.map So.w).map V.str))
      (fun i σ H' => ∃ (x : Option V) (rest : List Pa) (done : List Str), σ = [some (.str (runF)), some (.ref b), some (.ref l), some (.ref m), x] ∧ H' l = some (.lst (rest.map Pa.v)) ∧ H' m = some (.lst (done.map V.str)) ∧ H' p = some (.lst ((runS.map So.w).map V.str)) ∧ rest = ps.drop i ∧ done = (ps.take i).map Pa.t ∧ Same H H')
      ⟨_, ps, [], rfl, el, em, hw, rfl, rfl, kH⟩ (fun i σ H' _ h => by obtain ⟨_, _, _, _, _, _, h, _⟩ := h; exact SqL.of h) ?_ ?_⟩
    · rintro i v σ H' H'' hi ⟨x, rest, done, rfl, h1, h2, h3, h4, h5, h7⟩ ⟨rfl, hv⟩
      have i5 : i < 5 := hi
      obtain ⟨x0, hx⟩ : ∃ x0, runS[i]? = some x0 := ⟨_, List.getElem?_eq_getElem i5⟩
      obtain ⟨q, hq⟩ : ∃ q, ps[i]? = some q := ⟨_, List.getElem?_eq_getElem (by omega)⟩
      have ev : v = .str x0.w := by
        rw [List.getElem?_map, List.getElem?_map, hx] at hv
        exact (Option.some.inj hv).symm
      subst ev
      obtain ⟨xq, isq⟩ := pis q (List.mem_of_getElem? hq)
      have ed := drop_atG hq
      subst h4 h5
      rw [ed] at h1
      refine ⟨_, rfl, .inl ⟨rfl, _, SqL.of h2⟩, _, rfl, _, _, rfl, rfl, SD.yes x0, _, rfl, ?_⟩
      refine ⟨_, rfl, .inl ⟨rfl, _, SqL.of h1⟩, l, _, 0, 0, q.v, rfl, rfl, h1, by decide, by decide, by simp [seqIndex?], rfl, q, rfl, isq.log, ?_⟩
      refine ⟨m, _, _, rfl, rfl, by rw [upd_ne nml]; exact h2, ?_, _, ps.drop (i + 1), (ps.take (i + 1)).map Pa.t, rfl, by rw [upd_ne nml.symm, upd_same]; rfl, ?_, by rw [upd_ne npm, upd_ne npl]; exact h3, rfl, rfl, fun c o h => by rw [upd_ne (ne_of_none h hmH), upd_ne (ne_of_none h hl)]; exact h7 c o h⟩
      · rw [List.length_map, List.length_map, List.length_take]
        exact lt_line _ (by omega)
      · rw [upd_same, take_at hq, List.map_append, List.map_append]
        rfl
    · rintro σ H' ⟨x, rest, done, rfl, h1, h2, h3, h4, h5, h7⟩
      have e5 : ps.take ((runS.map So.w).map V.str).length = ps := List.take_of_length_le (by rw [l5]; exact Nat.le_refl _)
      rw [e5] at h5
      subst h5
      have wk : ∀ z ∈ ps.map Pa.t, Wok z := fun z hz => by
        obtain ⟨p, hp, rfl⟩ := List.mem_map.mp hz
        obtain ⟨x, h⟩ := pis p hp
        exact h.wok
      have s7 := sum_wok wk
      have rl : (ps.map Pa.t).length = 5 := by rw [List.length_map, l5]
      refine ⟨⟨_, rfl⟩, _, rfl, _, m, _, rfl, rfl, .inl (SqL.of h2), ?_, k _ h7⟩
      rw [show (Str.ofString " ").length = 1 by decide +kernel]
      rw [rl] at s7 ⊢
      omega
end
end R7

set_option maxRecDepth 100000
set_option maxHeartbeats 800000
namespace R7
open PySem PySem.Spec PyProof.Rows L2 GxR Gd TL My
def dg (c : Nat) : Bool := decide (48 ≤ c) && decide (c ≤ 57)
theorem dg_eq (c : Nat) : (!decide ([c] < [48]) && !decide ([57] < [c])) = dg c := by
  unfold dg
  rw [Bool.eq_iff_iff]
  simp only [Bool.and_eq_true, Bool.not_eq_true', decide_eq_false_iff_not, decide_eq_true_eq, one_lt]
  omega
theorem dg_fun : (fun c : Nat => !decide ([c] < (Str.ofString "0").cps.toList) && !decide ((Str.ofString "9").cps.toList < [c])) = dg := by
  funext c
  rw [show (Str.ofString "0").cps.toList = [48] by decide +kernel, show (Str.ofString "9").cps.toList = [57] by decide +kernel]
  exact dg_eq c
theorem fold_lt : ∀ (l : List Nat) (a : Nat), NumText.AllDigits l → l.foldl (fun acc c => acc * 10 + (c - 48)) a < (a + 1) * 10 ^ l.length
  | [], a, _ => by simp
  | c :: r, a, h => by
    have hc := h c (List.mem_cons_self ..)
    have ih := fold_lt r (a * 10 + (c - 48)) fun x hx => h x (List.mem_cons_of_mem _ hx)
    rw [List.foldl_cons, List.length_cons, Nat.pow_succ, Nat.mul_comm (10 ^ r.length) 10, ← Nat.mul_assoc]
    exact Nat.lt_of_lt_of_le ih (Nat.mul_le_mul_right _ (by omega))
theorem vals_lt {l : List Nat} (h : NumText.AllDigits l) : NumText.digitsVal l < 10 ^ l.length := by
  have := fold_lt l 0 h
  rw [Nat.zero_add, Nat.one_mul] at this
  exact this
theorem all_dg {l : List Nat} : l.all dg = true ↔ NumText.AllDigits l := by
  refine ⟨fun h c hc => ?_, fun h => List.all_eq_true.mpr fun c hc => ?_⟩
  · have := List.all_eq_true.mp h c hc
    unfold dg at this
    simp at this
    omega
  · have := h c hc
    unfold dg
    simp
    omega
/-- the number that a word's figures come to -/
def valOf (z : Str) : Nat := NumText.digitsVal (tl z)
def digs (z : Str) : Bool := decide (1 ≤ z.length) && decide (z.length ≤ 6) && (tl z).all dg
def partOf (z : Str) : Pa := if digs z = true then (if Str.ofString (toString ((valOf z : Nat) : Int)) = z then .n ((valOf z : Nat) : Int) else .s z) else .s z
theorem int_read {z : Str} (h : digs z = true) : intText? z = some ((valOf z : Nat) : Int) := by
  unfold digs at h
  simp only [Bool.and_eq_true, decide_eq_true_eq] at h
  refine intText_digits (all_dg.mp h.2) (fun e => ?_) (by omega)
  have e : tl z = [] := e
  have := h.1.1
  rw [len_tl, e] at this
  exact absurd this (by decide)
theorem valOf_lt {z : Str} (h : digs z = true) : valOf z < 10 ^ 6 := by
  unfold digs at h
  simp only [Bool.and_eq_true, decide_eq_true_eq] at h
  have l := h.1.2
  rw [len_tl] at l
  have := vals_lt (all_dg.mp h.2)
  exact Nat.lt_of_lt_of_le this (Nat.pow_le_pow_right (by decide) l)
section
variable {P : Program} {w : World} {K : PySem.W.Frag} {mg : Str → Option Value} {base : Heap} {P1 P2 P3 aSORTS aFORMS : Addr} {fs : So → Addr} {es : Array DictEntry} {nS : Nat} {tM : Tok}
abbrev s_part_of : Stmt := top 22
theorem sc_part_of : FnScope ["word", "number", "sign"] ["word"] (defScope s_part_of) := ⟨rfl, rfl, rfl, by decide +kernel, rfl, by decide +kernel, by decide +kernel⟩
def spPart (T : List Addr) : Sp := fun vs H Q _ => ∃ (z : Str), vs = [.str z] ∧ WOk z ∧ Tabs T H ∧ ∀ H', KM T H H' → Q (partOf z).v H'
theorem ok_part_of {T0 : List Addr} {f c : Addr} {oc kV doc pm ct : Value} {od an : Option Addr} {osl : Array (Option Value)}
    (lk : K.lookup f = some ⟨oc, od, .func (PySem.W.fnOf "_part_of" "_part_of" (defArgs s_part_of) (defBody s_part_of) (defScope s_part_of) .none kV doc pm an (.ref c) ct), osl⟩) (hcd : PySem.W.codeIn K (.ref c) "_part_of" = true)
    (hp : P2 ∈ T0) (T : Txt mg) (TB : TabB base mg c P2) (gMOST : mg "MOST_NUMBER" = some (.int 999999 tM)) : FnOk P w K mg base CX0 1 f (PySem.W.fnOf "_part_of" "_part_of" (defArgs s_part_of) (defBody s_part_of) (defScope s_part_of) .none kV doc pm an (.ref c) ct) ["word"] (spPart T0) := by
  refine fn_of lk hcd sc_part_of (fun vs H Q E h => ?_) (fun A outer s H vs Q E hr h => ?_)
  · obtain ⟨z, rfl, _⟩ := h
    rfl
  · obtain ⟨z, rfl, wz, tb, k⟩ := h
    refine ⟨_, pss_cons (ps_if (PW.pt (pw_or (pt_not (pt_chain op_le op_le pe_int (pe_callB call_len_str (by rfl) T.len_ PySem.boot_len (pa_cons (pv 0) pa_nil)) (pe_callB call_len_str (by rfl) T.len_ PySem.boot_len (pa_cons (pe_callTy call_str_int (by rfl) T.str_ (by decide +kernel) (pa_cons (pe_glob (v := .int 999999) (by rfl) gMOST ⟨_, rfl⟩) pa_nil)) pa_nil)))) (pw_or1 (pt_not (pt_val (pe_allS hr (by rfl) T.all_ (by decide +kernel) TB rfl ⟨rfl, rfl, by decide +kernel, by decide +kernel, by decide +kernel, fun y hy e => absurd e (no_free y hy)⟩ (pv 0) (elt_between (by rfl) (by decide +kernel)) (fun _ => rfl))))))) (pss_one (ps_ret (pv 0))) pss_nil)
      (pss_cons (ps_set (i := 1) sc_part_of.nd rfl (Or.inl rfl) (pe_callTy call_int_str (by rfl) T.int_ (by decide +kernel) (pa_cons (pv 0) pa_nil)))
      (pss_one (ps_ret (pe_ifExp (pt_cmpR op_eq (pe_callTy call_str_int (by rfl) T.str_ (by decide +kernel) (pa_cons (pv 1) pa_nil)) (pv 0) (nomark _)) (pv 1) (pv 0))))), ?_⟩
    have L6 : (Str.ofString (toString (999999 : Int))).length = 6 := by decide +kernel
    have no : digs z = false → ∀ H', KM T0 H H' → Q (.str z) H' := fun h H' km => by
      have q := k H' km
      unfold partOf at q
      rw [h, if_neg Bool.false_ne_true] at q
      exact q
    rw [dg_fun]
    refine ⟨_, rfl, z, rfl, wz.line, _, _, rfl, rfl, _, rfl, ite2 (fun c0 => ?_) (fun c0 => ?_)⟩
    · have c0' : (1 : Int) ≤ (z.length : Int) := of_decide_eq_true c0
      refine ⟨_, rfl, by decide +kernel, _, rfl, by rw [L6]; decide, ?_⟩
      rw [L6]
      refine ⟨_, _, rfl, rfl, _, rfl, ite2 (fun c1 => ?_) (fun c1 => ?_)⟩
      · have c1' : ¬ (z.length : Int) ≤ 6 := by simpa using c1
        refine iteT ⟨_, rfl, no ?_ H (KM.refl tb)⟩
        unfold digs
        rw [decide_eq_false (by omega : ¬ z.length ≤ 6)]
        simp
      · have c1' : (z.length : Int) ≤ 6 := by simpa using c1
        refine ⟨_, rfl, z, rfl, tb P2 hp, fun H2 ht => ⟨_, rfl, ?_⟩⟩
        have km := KM.tabbed tb hp ht
        by_cases hd : z.cps.toList.all dg = true
        · rw [hd]
          have hg : digs z = true := by
            unfold digs
            rw [decide_eq_true (by omega : 1 ≤ z.length), decide_eq_true (by omega : z.length ≤ 6)]
            exact hd
          have vl := valOf_lt hg
          have lg : ((valOf z : Nat) : Int).natAbs.log2 < 1920 := by
            rw [Int.natAbs_natCast]
            by_cases e : valOf z = 0
            · rw [e]; decide
            · have := (Nat.log2_lt e).mpr (show valOf z < 2 ^ 20 by omega)
              omega
          refine iteF ⟨_, rfl, _, _, rfl, int_read hg, by omega, ?_⟩
          refine ⟨_, rfl, _, rfl, lg, _, rfl, rfl, _, rfl, ?_⟩
          have q := k H2 km
          unfold partOf at q
          rw [hg, if_pos rfl] at q
          by_cases e : Str.ofString (toString ((valOf z : Nat) : Int)) = z
          · rw [if_pos e] at q
            rw [decide_eq_true (by rw [e])]
            exact ⟨_, rfl, q⟩
          · rw [if_neg e] at q
            rw [decide_eq_false (fun h => e (V.str.inj h))]
            exact ⟨_, rfl, q⟩
        · have hd : z.cps.toList.all dg = false := by simpa using hd
          rw [hd]
          refine iteT ⟨_, rfl, no ?_ H2 km⟩
          unfold digs
          rw [show (tl z).all dg = false from hd]
          simp
    · have c0' : ¬ (1 : Int) ≤ (z.length : Int) := by simpa using c0
      refine ⟨_, rfl, iteT ⟨_, rfl, no ?_ H (KM.refl tb)⟩⟩
      unfold digs
      rw [decide_eq_false (by omega : ¬ 1 ≤ z.length)]
      simp
end
end R7

set_option maxRecDepth 100000
set_option maxHeartbeats 800000
namespace R7
open PySem PySem.Spec PyProof.Rows L2 GxR Gd TL My
theorem joinL_of {S : List Nat} {c : Nat} : ∀ {ps : List (List Nat)} {p : List Nat}, p ∈ ps → c ∈ p → c ∈ joinL S ps
  | [], _, h, _ => by cases h
  | [q], p, h, hc => by
    obtain rfl := List.mem_singleton.mp h
    exact hc
  | q :: q2 :: r, p, h, hc => by
    show c ∈ q ++ (S ++ joinL S (q2 :: r))
    rcases List.mem_cons.mp h with rfl | h
    · exact List.mem_append.mpr (.inl hc)
    · exact List.mem_append.mpr (.inr (List.mem_append.mpr (.inr (joinL_of h hc))))
theorem split_mem {x y p : Str} (h : p ∈ PySem.Txt.split x y) {c : Nat} (hc : c ∈ tl p) : c ∈ tl x := by
  have e : tl (Str.join y (PySem.Txt.split x y)) = tl x := by rw [StrLaws.join_split]
  rw [← e, tl_join]
  exact joinL_of (List.mem_map.mpr ⟨p, h, rfl⟩) hc
theorem split_wok {x y : Str} (w : WOk x) {p : Str} (h : p ∈ PySem.Txt.split x y) : WOk p :=
  ⟨Nat.le_trans (PyProof.Rows.part_short h) w.1, fun c hc => w.2 c (split_mem h hc)⟩
theorem split_ne (x y : Str) : ∃ k r, PySem.Txt.split x y = k :: r := by
  have := PyProof.Rows.split_pos x y
  match e : PySem.Txt.split x y with
  | [] => rw [e] at this; simp at this
  | k :: r => exact ⟨k, r, rfl⟩
def wordsOf (z : Str) : List Str := PySem.Txt.split z (Str.ofString " ")

theorem tl_inj1 {a b : Str} (h : tl a = tl b) : a = b := by
  rw [← mk_tl a, h, mk_tl]
theorem len_ne {z : Str} (h : z ≠ Str.empty) : z.length ≠ 0 := fun e => h (tl_inj1 (by
  have : (tl z).length = 0 := by rw [tl_len]; exact e
  rw [List.length_eq_zero_iff.mp this]
  rfl))

def runOf (z : Str) : Option (List Pa) := if (wordsOf z).length = 5 ∧ okRun ((wordsOf z).map partOf) = true then some ((wordsOf z).map partOf) else none
theorem partOf_ok {z : Str} (h : WOk z) : PaOk (partOf z) := by
  unfold partOf
  split
  · split
    · trivial
    · exact h
  · exact h
section
variable {P : Program} {w : World} {K : PySem.W.Frag} {mg : Str → Option Value} {base : Heap} {aSORTS : Addr} {fs : So → Addr} {es : Array DictEntry} {nS : Nat}
abbrev s_read_row : Stmt := top 21
theorem sc_read_row : FnScope ["form", "row", "asked", "words", "parts", "sort", "word"] ["form", "row"] (defScope s_read_row) := ⟨rfl, rfl, rfl, by decide +kernel, rfl, by decide +kernel, by decide +kernel⟩
def spRead (T : List Addr) : Sp := fun vs H Q _ => ∃ (z : Str), vs = [.str runF, .str z] ∧ WOk z ∧ Tabs T H ∧ (runOf z = none → ∀ H', KM T H H' → Q .non H') ∧ ∀ ps, runOf z = some ps → ∀ t H', H t = none → KM T H H' → H' t = some (.tup (ps.map Pa.v)) → Q (.ref t) H'
theorem ok_read_row {T0 : List Addr} {f f1 f2 : Addr} {fd fd1 fd2 : FuncData} (F : Fun K "read_row" "read_row" s_read_row f fd) (T : Txt mg) (gSORTS : mg "SORTS" = some (.ref aSORTS)) (SD : SoD K w aSORTS fs es nS)
    (Nfits : Fn K mg "fits" s_fits ["form", "parts"] f1 fd1) (Gfits : FnOk P w K mg base CX0 6 f1 fd1 ["form", "parts"] (spFits K T0))
    (Npart_of : Fn K mg "_part_of" s_part_of ["word"] f2 fd2) (Gpart_of : FnOk P w K mg base CX0 1 f2 fd2 ["word"] (spPart T0)) : FnOk P w K mg base CX0 7 f fd ["form", "row"] (spRead T0) := by
  refine F.ok sc_read_row (fun vs H Q E h => ?_) (fun cdv A outer s H vs Q E hr h => ?_)
  · obtain ⟨z, rfl, _⟩ := h
    rfl
  · obtain ⟨z, rfl, wz, tb, kn, k⟩ := h
    refine ⟨_, pss_cons (ps_par (i := 2) (j := 3) rfl sc_read_row.nd rfl rfl (by decide) rfl rfl (pa_cons (pe_split (pv 0) pe_str) (pa_cons (pe_split (pv 1) pe_str) pa_nil)) (by rfl))
      (pss_cons (ps_if (pt_cmpR op_ne (pe_callB call_len_seq (by rfl) T.len_ PySem.boot_len (pa_cons (pv 2) pa_nil)) (pe_callB call_len_seq (by rfl) T.len_ PySem.boot_len (pa_cons (pv 3) pa_nil)) (nomark _)) (pss_one (ps_ret pe_non)) pss_nil)
      (pss_cons (ps_set (i := 4) sc_read_row.nd rfl (Or.inl rfl) (pe_lst pa_nil))
      (pss_cons (ps_for PassesOwn.never rfl (pi_zip (by rfl) T.zip_ (pa_cons (pv 2) (pa_cons (pv 3) pa_nil))) (pg_tup (by rfl) (pgs_cons (pg_name (i := 5) sc_read_row.nd rfl (Or.inl rfl)) (pgs_cons (pg_name (i := 6) sc_read_row.nd rfl (Or.inl rfl)) pgs_nil))) (pss_one (ps_if (pt_cmpR (inKD rfl rfl SD.d) (pv 5) (pe_glob (v := .ref aSORTS) (by rfl) gSORTS rfl) rfl) (pss_one (ps_expr (pe_bm PySem.F.plainAttrs_list PySem.F.slot_list_append PySem.F.type_list_append mt_append (pv 4) (pa_cons (pe_call Gpart_of (hr.mono (by decide)) (by rfl) Npart_of.g Npart_of.kp Npart_of.b .nil pass0 (pa_cons (pv 6) pa_nil)) pa_nil)))) (pss_one (ps_if (pt_cmpR op_ne (pv 5) (pv 6) (nomark _)) (pss_one (ps_ret pe_non)) pss_nil)))))
      (pss_one (ps_ret (pe_ifExp (pt_val (pe_call Gfits (hr.mono (by decide)) (by rfl) Nfits.g Nfits.kp Nfits.b .nil pass0 (pa_cons (pv 0) (pa_cons (pv 4) pa_nil)))) (pe_callTy call_tuple_of (by rfl) T.tuple_ (by decide +kernel) (pa_cons (pv 4) pa_nil)) pe_non)))))), ?_⟩
    have wr : ∀ p ∈ wordsOf z, WOk p := fun p hp => split_wok wz hp
    refine ⟨_, rfl, ⟨_, rfl⟩, _, _, rfl, rfl, rfl, Nat.le_trans (Nat.add_le_add_right runF_len 2) (by decide), fun a ha => ?_⟩
    rw [run_split]
    refine ⟨_, rfl, ⟨_, rfl⟩, _, _, rfl, rfl, rfl, small_line (by have := wz.1; omega), fun b hb => ?_⟩
    rw [show Txt.split z (Str.ofString " ") = wordsOf z from rfl]
    have km0 : KM T0 H (upd (upd H a (.lst ((runS.map So.w).map V.str))) b (.lst ((wordsOf z).map V.str))) := (KM.alloc tb ha).trans (KM.alloc (KM.alloc tb ha).tab hb)
    have nba : b ≠ a := fun z => by rw [z, upd_same] at hb; cases hb
    have ea : upd (upd H a (.lst ((runS.map So.w).map V.str))) b (.lst ((wordsOf z).map V.str)) a = some (.lst ((runS.map So.w).map V.str)) := by rw [upd_ne nba.symm, upd_same]
    have eb : upd (upd H a (.lst ((runS.map So.w).map V.str))) b (.lst ((wordsOf z).map V.str)) b = some (.lst ((wordsOf z).map V.str)) := upd_same
    generalize upd (upd H a (.lst ((runS.map So.w).map V.str))) b (.lst ((wordsOf z).map V.str)) = H0 at km0 ea eb ⊢
    refine ⟨_, _, rfl, _, rfl, a, _, rfl, .inl (SqL.of ea), _, rfl, b, _, rfl, .inl (SqL.of eb), rfl, _, rfl, ?_⟩
    by_cases l5 : (wordsOf z).length = 5
    · have ln : ((runS.map So.w).map V.str).length = ((wordsOf z).map V.str).length := by rw [List.length_map, List.length_map, List.length_map, l5]; rfl
      rw [decide_eq_true (show V.int ↑((runS.map So.w).map V.str).length = V.int ↑((wordsOf z).map V.str).length by rw [ln])]
      refine iteF ⟨Nat.zero_le _, fun D hD => ?_⟩
      have nDa : D ≠ a := fun z => by rw [z, ea] at hD; cases hD
      have nDb : D ≠ b := fun z => by rw [z, eb] at hD; cases hD
      have nt0 : ∀ {H1 : Hp} {c : Addr} {xs : List V}, KM T0 H0 H1 → H0 c = some (.lst xs) → H1 c = some (.lst xs) := fun km e => KM.lst km0.tab km e
      refine ⟨_, rfl, _, rfl, a, b, _, _, rfl, SqL.of (by rw [upd_ne nDa.symm]; exact ea), SqL.of (by rw [upd_ne nDb.symm]; exact eb), for_it (D := ⟨_, _, fun _ _ => False, fun _ _ => False⟩) (walk_zip (K := K) (xs := (runS.map So.w).map V.str) (ys := (wordsOf z).map V.str) (n := ((runS.map So.w).map V.str).length) (by rw [← ln, Nat.min_self]))
        (fun i σ H' => ∃ (u5 u6 : Option V), σ = [some (.str runF), some (.str z), some (.ref a), some (.ref b), some (.ref D), u5, u6] ∧ KM T0 H0 H' ∧ H' D = some (.lst ((((wordsOf z).take i).map partOf).map Pa.v)))
        ⟨_, _, rfl, KM.put km0.tab (KM.refl km0.tab) hD, upd_same⟩ (fun i σ H' _ h => by obtain ⟨_, _, _, km, _⟩ := h; exact ⟨SqL.of (nt0 km ea), SqL.of (nt0 km eb)⟩) ?_ ?_⟩
      · rintro i v σ H' H'' hi ⟨u5, u6, rfl, km, eD⟩ ⟨t, u, v, rfl, ht, rfl, h5, h6⟩
        have i5 : i < 5 := hi
        obtain ⟨x, hx⟩ : ∃ x, runS[i]? = some x := ⟨_, List.getElem?_eq_getElem i5⟩
        obtain ⟨y, hy⟩ : ∃ y, (wordsOf z)[i]? = some y := ⟨_, List.getElem?_eq_getElem (by omega)⟩
        have h5 : ((runS.map So.w).map V.str)[i]? = some u := h5
        have h6 : ((wordsOf z).map V.str)[i]? = some v := h6
        rw [List.getElem?_map, List.getElem?_map, hx] at h5
        rw [List.getElem?_map, hy] at h6
        obtain rfl := Option.some.inj h5
        obtain rfl := Option.some.inj h6
        have kmt : KM T0 H0 (upd H' t (.tup [.str x.w, .str y])) := km.trans (KM.alloc km.tab ht)
        have eDt : upd H' t (.tup [.str x.w, .str y]) D = some (.lst ((((wordsOf z).take i).map partOf).map Pa.v)) := by rw [upd_ne (fun z => by rw [← z, eD] at ht; cases ht)]; exact eD
        have te : SqT K (upd H' t (.tup [.str x.w, .str y])) t [.str x.w, .str y] := SqT.of upd_same
        generalize upd H' t (.tup [.str x.w, .str y]) = H3 at kmt eDt te ⊢
        refine ⟨t, _, rfl, te, rfl, _, _, rfl, _, _, rfl, rfl, _, rfl, _, _, rfl, rfl, SD.yes x, _, rfl, ?_⟩
        refine ⟨_, rfl, .inl ⟨rfl, _, SqL.of eDt⟩, _, rfl, y, rfl, wr y (List.mem_of_getElem? hy), kmt.tab, fun H4 km4 => ?_⟩
        refine ⟨D, _, _, rfl, rfl, KM.lst kmt.tab km4 eDt, ?_, _, _, rfl, KM.put km0.tab (kmt.trans km4) hD, ?_⟩
        · rw [List.length_map, List.length_map, List.length_take]
          exact lt_line _ (by omega)
        · rw [upd_same, take_at hy, List.map_append, List.map_append]; rfl
      · rintro σ H' ⟨u5, u6, rfl, km, eD⟩
        have e5 : (wordsOf z).take ((runS.map So.w).map V.str).length = wordsOf z := List.take_of_length_le (by rw [l5]; exact Nat.le_refl _)
        rw [e5] at eD
        refine ⟨_, rfl, _, rfl, D, (wordsOf z).map partOf, rfl, by rw [List.length_map, l5], fun p hp => ?_, SqL.of eD, km.tab, fun H4 km4 => ⟨_, rfl, ?_⟩⟩
        · obtain ⟨y, hy, rfl⟩ := List.mem_map.mp hp
          exact partOf_ok (wr y hy)
        have kk := km0.trans (km.trans km4)
        cases er : okRun ((wordsOf z).map partOf) with
        | true =>
          have ro : runOf z = some ((wordsOf z).map partOf) := if_pos ⟨l5, er⟩
          refine iteT ⟨_, rfl, D, _, rfl, .inl ⟨SqL.of (KM.lst km.tab km4 eD), fun l hl => ?_⟩⟩
          exact k _ ro l _ (kk.none (fun hm => by obtain ⟨ps', e, _⟩ := kk.tab l hm; rw [hl] at e; cases e) hl) (kk.trans (KM.alloc kk.tab hl)) upd_same
        | false =>
          refine iteF (kn (if_neg fun h => ?_) _ kk)
          rw [er] at h
          exact Bool.noConfusion h.2
    · rw [decide_eq_false (show ¬ V.int ↑((runS.map So.w).map V.str).length = V.int ↑((wordsOf z).map V.str).length from fun h => ?_)]
      · exact iteT (kn (if_neg fun h => l5 h.1) _ km0)
      · have h : (((runS.map So.w).map V.str).length : Int) = (((wordsOf z).map V.str).length : Nat) := V.int.inj h
        rw [List.length_map, List.length_map, List.length_map] at h
        have h5 : runS.length = 5 := rfl
        omega
end
end R7

set_option maxRecDepth 100000
set_option maxHeartbeats 1000000
/-! Refusals: a try with clauses, named or not, in any order; a class's def called by the class; isinstance of what was caught. -/
namespace My
open PySem PySem.Spec PyProof.Rows L2 GxR
/-! ### a try with clauses, named or not -/
abbrev Cl := Value × Option Nat × (Addr → Value → Option Addr → TS)
/-- what follows is the same by two ways: I holds there -/
theorem cutR {A : Prop} {G : Hp → Prop} (I : Hp → Prop) (main : (∀ H, I H → G H) → A) (last : ∀ H, I H → G H) : A := main last
def endsOff (i : Nat) (D : Ends) : Ends :=
  { nx := fun τ G => D.nx (τ.set i none) G, rt := D.rt, bk := fun τ G => D.bk (τ.set i none) G, ct := fun τ G => D.ct (τ.set i none) G }
def suiteOf (i : Option Nat) (t : TS) (a : Addr) (D : Ends) (σ : L2.St) (H : Hp) : Prop :=
  match i with
  | none => t D σ H
  | some i => t (endsOff i D) (σ.set i (some (.ref a))) H
/-- what the clauses wish, one behind the other -/
def wCl (K : PySem.W.Frag) (Wout : WX) (D : Ends) : List Cl → WX
  | [] => Wout
  | p :: l => fun cls d σ H => ∃ b, PySem.W.exmOne K cls p.1 = some b ∧
      (b = true → ∀ a, H a = none → suiteOf p.2.1 (p.2.2 a cls d) a D σ H) ∧ (b = false → wCl K Wout D l cls d σ H)
def SuiteOk (X : Cx) (ss : List Stmt) (ts : Addr → Value → Option Addr → TS) : Prop :=
  ∀ (a : Addr) (oe : Obj) (cls : Value) (d : Option Addr) (pn : List (Addr × Obj)), Zc cls d oe → (∃ fv, oe.data = .fields fv) → PSs (X.suite a ((a, oe) :: pn)) ss (ts a cls d)
inductive Clauses (X : Cx) : List ExceptHandler → List Cl → Prop
  | nil : Clauses X [] []
  | plain {x : Str} {c : Value} {ts : Addr → Value → Option Addr → TS} {st : Stmt} {ss : List Stmt} {p q : Pos} {hds : List ExceptHandler} {l : List Cl}
      (hc : Names X x c) (hsu : SuiteOk X (st :: ss) ts) (r : Clauses X hds l) : Clauses X (.ExceptHandler (some (.Name x p)) none (st :: ss) q :: hds) ((c, none, ts) :: l)
  | named {x n : Str} {i : Nat} {c : Value} {ts : Addr → Value → Option Addr → TS} {st : Stmt} {ss : List Stmt} {p q : Pos} {hds : List ExceptHandler} {l : List Cl}
      (hc : Names X x c) (hi : X.N[i]? = some n) (hn : X.env.kindOf n = some .local) (hsu : SuiteOk X (st :: ss) ts) (r : Clauses X hds l) :
      Clauses X (.ExceptHandler (some (.Name x p)) (some n) (st :: ss) q :: hds) ((c, some i, ts) :: l)
/-- an exception in hand -/
structure InHand (X : Cx) (pins : List (Addr × Obj)) (σ : L2.St) (H : Hp) (cls : Value) (d : Option Addr) (a : Addr) (B : Heap) (sI s : Shared) : Prop where
  inv : Inv X pins σ H sI
  grd : ∀ b o, sI.heap.get? b = some o → b ∉ frs X.stack → B.get? b = some o
  up : sI.heap.UpToSlots s.heap
  fly : HandSPX.FlyingZ B (X.env :: X.outer) a (Zc cls d) s.heap
  new : H a = none
  os : s.os = sI.os
  ag : AllBare s.gens
section
variable {X : Cx} {pins : List (Addr × Obj)} {σ : L2.St} {H : Hp} {cls : Value} {d : Option Addr} {a : Addr} {B : Heap} {sI s : Shared}
theorem InHand.now (h : InHand X pins σ H cls d a B sI s) : Inv X pins σ H s := h.inv.landed h.grd h.fly.1 h.up h.os h.ag
theorem InHand.move (h : InHand X pins σ H cls d a B sI s) {g : Heap} (f : HandSPX.FlyingZ B (X.env :: X.outer) a (Zc cls d) g) (u : s.heap.UpToSlots g) :
    InHand X pins σ H cls d a B sI { s with heap := g } := ⟨h.inv, h.grd, h.up.trans u, f, h.new, h.os, h.ag⟩
theorem InHand.seen (h : InHand X pins σ H cls d a B sI s) (hf : X.env.frame = some X.env.locals) :
    ∃ oe fv, s.heap.get? a = some oe ∧ Zc cls d oe ∧ oe.data = .fields fv ∧ a ≠ X.env.locals ∧ a ∉ X.fs := by
  obtain ⟨oe, fv, e1, e2, e3⟩ := h.fly.there
  have off : a ∉ frs (X.env :: X.outer) := by
    intro m
    obtain ⟨_, o2, e4, no⟩ := h.fly.2.2.1.mem m
    rw [e1] at e4
    obtain rfl := Option.some.inj e4
    exact no _ e3
  refine ⟨oe, fv, e1, e2, e3, fun z => off ?_, fun z => off ?_⟩
  · rw [z]
    exact List.mem_filterMap.mpr ⟨X.env, by simp, hf⟩
  · obtain ⟨v, hv, q⟩ := List.mem_filterMap.mp z
    exact List.mem_filterMap.mpr ⟨v, by simp [hv], q⟩
/-- the suite of a clause behind the try's own end -/
theorem InHand.leave (ok : X.Ok) {oe : Obj} {D : Ends} {f : Flow} {s2 : Shared} (h : SP (X.suite a ((a, oe) :: (X.pn ++ pins))) [] D f s2) : SP X pins D f s2 := by
  cases f with
  | ret u => obtain ⟨v, τ, G, J, r, q⟩ := h; exact ⟨v, τ, G, J.unsuite ok, r, q⟩
  | next => obtain ⟨τ, G, J, q⟩ := h; exact ⟨τ, G, J.unsuite ok, q⟩
  | brk => obtain ⟨τ, G, J, q⟩ := h; exact ⟨τ, G, J.unsuite ok, q⟩
  | cont => obtain ⟨τ, G, J, q⟩ := h; exact ⟨τ, G, J.unsuite ok, q⟩
/-- no clause took it -/
theorem InHand.out (hs : X.stack = X.env :: X.outer) (hf : X.env.frame = some X.env.locals) {Wout : WX} (tk : Takes X Wout) (h : InHand X pins σ H cls d a B sI s) (w : Wout cls d σ H) {Q : Flow → Shared → Prop} :
    wpAny (model X.prog X.w) X.A (handleBy (.ref a) X.env []) Q X.xe s := by
  have fly := h.fly
  refine wpAny_handleBy_nil ?_
  obtain ⟨_, _, _, oe, fv, T, _, _, e1, _, e2, e3, _⟩ := id h.fly
  unfold PySem.passOn
  refine wpAny_bind (wpAny_field e1 e2 e3 ?_)
  rw [if_neg (by simp)]
  have last : wpAny (model X.prog X.w) X.A (setFlight (.ref a) X.env.frame) (fun _ z => wpAny (model X.prog X.w) X.A (throw (.ref a) : Sem Flow) Q X.xe z) X.xe s := by
    rw [hf]
    refine HandSPX.setFlight_upZ fly fun g held up => wpAny_throw (tk _ _ ⟨a, B, sI, pins, σ, H, cls, d, rfl, h.inv, h.grd, h.up.trans up, .inr (.inr ?_), h.new, h.os, h.ag, w⟩)
    rw [hs]
    exact held
  first
    | exact wpAny_bind last
    | exact wpAny_bind (wpAny_pure (wpAny_bind last))
/-- the class that a clause names, told -/
theorem InHand.named (h : InHand X pins σ H cls d a B sI s) (hf : X.env.frame = some X.env.locals) {x : Str} {c : Value} {p : Pos} (hc : Names X x c) {Q : Value → Shared → Prop} {E : Value → Shared → Prop} (q : Q c s) :
    wpAny (model X.prog X.w) (X.A.mark (some (.ref a))) (eval (.Name x p) X.env) Q E s := by
  obtain ⟨oe, fv, e1, _, e3, n1, n2⟩ := h.seen hf
  have S := h.now.suite e1 e3 h.new n1 n2
  obtain ⟨hg, hd, hm | ⟨hm, hv, hn⟩⟩ := hc
  · exact ld_glob (X := X.suite a ((a, oe) :: (X.pn ++ pins))) S hg hm q hd
  · exact ld_blt (X := X.suite a ((a, oe) :: (X.pn ++ pins))) S hg hm hv q hn hd
theorem InHand.through (hs : X.stack = X.env :: X.outer) (hf : X.env.frame = some X.env.locals) (hN : X.N.Nodup) {Wout : WX} (tk : Takes X Wout) {D : Ends} {hds : List ExceptHandler} {l : List Cl}
    (ck : Clauses X hds l) : ∀ {s : Shared}, InHand X pins σ H cls d a B sI s → wCl X.K Wout D l cls d σ H → wpAny (model X.prog X.w) X.A (handleBy (.ref a) X.env hds) (SP X pins D) X.xe s := by
  induction ck with
  | nil => exact fun h w => h.out hs hf tk w
  | @plain x c ts st ss p q hds l hc hsu r ih =>
    rintro s h ⟨b, hb, yes, no⟩
    have fly := h.fly
    obtain ⟨oe, fv, e1, e2, _⟩ := h.seen hf
    have own : PySem.W.Looks (model X.prog X.w) s.heap (typeOf (.ref a)) cls := fun _ _ _ z k q => wpAny_typeOf_ref (k _ _ e1) (by rw [e2.1]; exact q)
    refine wpAny_handleBy_cons (codeAny_handlers_test (h.named hf hc ((PySem.W.exm_one h.now.kIn own hb).here ?_))) (fun z => by cases z)
    cases b with
    | false => exact ih h (no rfl)
    | true =>
      refine codeAny_handlers_suite (HandSPX.lands_againZ fly fun g f2 u2 => ?_)
      have h2 := h.move f2 u2
      obtain ⟨oe2, fv2, i1, i2, i3, i4, i5⟩ := h2.seen hf
      exact wpAny_mono ((hsu a oe2 cls d (X.pn ++ pins) i2 ⟨_, i3⟩).run [] _ _ _ _ (h2.now.suite i1 i3 h.new i4 i5) (yes rfl a h.new)) (fun f z y => InHand.leave h.inv.ok y) fun _ _ z => z.elim
  | @named x n i c ts st ss p q hds l hc hi hn hsu r ih =>
    rintro s h ⟨b, hb, yes, no⟩
    have fly := h.fly
    obtain ⟨oe, fv, e1, e2, _⟩ := h.seen hf
    have own : PySem.W.Looks (model X.prog X.w) s.heap (typeOf (.ref a)) cls := fun _ _ _ z k q => wpAny_typeOf_ref (k _ _ e1) (by rw [e2.1]; exact q)
    refine wpAny_handleBy_cons (codeAny_handlers_test (h.named hf hc ((PySem.W.exm_one h.now.kIn own hb).here ?_))) (fun z => by cases z)
    cases b with
    | false => exact ih h (no rfl)
    | true =>
      refine codeAny_handlers_suite_as (HandSPX.lands_againZ fly fun g f2 u2 => ?_)
      have h2 := h.move f2 u2
      obtain ⟨oe2, fv2, i1, i2, i3, i4, i5⟩ := h2.seen hf
      refine store_ok (X := X.suite a ((a, oe2) :: (X.pn ++ pins))) (v := .ref a) (h2.now.suite i1 i3 h.new i4 i5) hN hi (.inl hn) rfl (fun z J => ?_) (.inr hn)
      refine wpAny_mono ((hsu a oe2 cls d (X.pn ++ pins) i2 ⟨_, i3⟩).run [] z _ _ _ J (yes rfl a h.new)) (fun f y k => ?_) fun _ _ z => z.elim
      have k' := InHand.leave h.inv.ok k
      cases f with
      | next => obtain ⟨τ, G, J2, q2⟩ := k'; exact gone_ok J2 hN hi hn fun _ J3 => ⟨_, _, J3, q2⟩
      | brk => obtain ⟨τ, G, J2, q2⟩ := k'; exact gone_ok J2 hN hi hn fun _ J3 => ⟨_, _, J3, q2⟩
      | cont => obtain ⟨τ, G, J2, q2⟩ := k'; exact gone_ok J2 hN hi hn fun _ J3 => ⟨_, _, J3, q2⟩
      | ret u => obtain ⟨v, τ, G, J2, r2, q2⟩ := k'; exact gone_ok J2 hN hi hn fun _ J3 => ⟨_, _, _, J3, r2, q2⟩
end
/-- try: body, any clauses -/
theorem ps_try_cl {X : Cx} {body : List Stmt} {hd : ExceptHandler} {hds : List ExceptHandler} {l : List Cl} {pos : Pos} {tb : WX → TS} {Wout : WX} (hs : X.stack = X.env :: X.outer) (hf : X.env.frame = some X.env.locals) (hN : X.N.Nodup)
    (tk : Takes X Wout) (ck : Clauses X (hd :: hds) l)
    (hb : ∀ (W : WX) (pn : List (Addr × Obj)) (xe : Value → Shared → Prop), Takes (X.tr pn xe) W → PassesOwn (model X.prog X.w) X.A X.env xe → PSs (X.tr pn xe) body (tb W)) :
    PS X (.Try body (hd :: hds) [] [] pos) (fun D σ H => tb (wCl X.K Wout D l) D σ H) := by
  refine ⟨fun pins s σ H D I h => wpAny_Try_except ?_⟩
  have ok := I.ok
  have fr : X.A.frames = some (X.env :: X.outer) := by rw [ok.frames, hs]
  let xe : Value → Shared → Prop := fun e z => wpAny (model X.prog X.w) X.A (noteFrame e X.env) (fun _ z2 => wpAny (model X.prog X.w) X.A (setFlight e none)
    (fun _ z3 => wpAny (model X.prog X.w) X.A (handleBy e X.env (hd :: hds)) (SP X pins D) X.xe z3) X.xe z2) X.xe z
  have take : Takes (X.tr (X.pn ++ pins) xe) (wCl X.K Wout D l) := by
    rintro _ z ⟨a, B, sI, pn, τ, G, cls, d, rfl, J, grd, up, sky, new, os, ag, w⟩
    rw [show (X.tr (X.pn ++ pins) xe).stack = X.env :: X.outer from hs] at sky
    refine Sky.land Zc.steady fr hf sky fun g fly u => ?_
    exact InHand.through hs hf hN tk ck (s := { z with heap := g }) ⟨J.ofTry ok, grd, up.trans u, fly, new, os, ag⟩ w
  refine wpAny_mono ((hb _ _ xe take PassesOwn.looking).run [] s σ H D (I.toTry _) h) (fun f z k => ?_) fun _ _ z => z
  cases f with
  | next => obtain ⟨τ, G, J, q⟩ := k; exact wpAny_execs_nil ⟨τ, G, J.ofTry ok, q⟩
  | brk => obtain ⟨τ, G, J, q⟩ := k; exact ⟨τ, G, J.ofTry ok, q⟩
  | cont => obtain ⟨τ, G, J, q⟩ := k; exact ⟨τ, G, J.ofTry ok, q⟩
  | ret u => obtain ⟨v, τ, G, J, r, q⟩ := k; exact ⟨v, τ, G, J.ofTry ok, r, q⟩
/-! ### C.m(e, ..), C a class of the program -/
/-- what the written part says of a def f that a class at C tells by its name -/
structure ClsDef (K : PySem.W.Frag) (C f : Addr) (n : Str) : Prop where
  ga : PySem.W.specialIn K (.ref C) "__getattribute__" = some (some (.builtin "type.__getattribute__"))
  rd : PySem.W.readsIn K C (.type "type") = true
  at_ : PySem.W.findCls K (.ref C) (.type "type") n = some (.val (.ref f))
section
variable {X : Cx} {CX : CXT} {k : Nat} {C f : Addr} {fd : FuncData} {ps : List Str} {sp : Sp} {dvs : List V} {ds : List Value} {E : XK} {x n : Str} {p1 p2 pos : Pos} {e : Expr} {es : List Expr} {t : TA}
theorem pe_ccall {pl : Sem Bool} (T : ClsDef X.K C f n) (F : FnOk X.prog X.w X.K X.mg X.base CX k f fd ps sp) (hr : Room k X.A) (hg : Gl X x) (hm : X.mg x = some (.ref C)) (hk : PySem.W.keepIn X.K (.ref f) = true)
    (hb : Binds X.K fd ps ds) (hd : Vals dvs ds) (hx : Passes CX X E) (ha : PA X (e :: es) t) (hdb : (x == ("__debug__" : Str)) = false := by decide)
    (hc : eval (.Call (.Attribute (.Name x p1) n p2) (e :: es) [] pos) X.env = (do
      let ov ← eval (.Name x p1) X.env
      standAt p2.atName
      let (f, first) ← holding [ov] (getMethod ov n pl)
      callWith pos f first (backTo pos (starEach (e :: es) X.env)) (backToKw pos (keywordEach [] X.env))) := by rfl)
    (he : starEach (e :: es) X.env = (false, eval e X.env) :: starEach es X.env := by rfl) (hpl : (backTo pos (starEach es X.env)).any (·.1) = false := by rfl) :
    PE X (.Call (.Attribute (.Name x p1) n p2) (e :: es) [] pos) (tCall sp dvs E t) := by
  refine ⟨fun pins s σ H Q I h => PySem.W.methodCall_KW (ld_glob I hg hm ?_ hdb) hc⟩
  refine PySem.W.method_cls I.kIn T.ga (PySem.W.cls_value I.kIn T.rd T.at_ rfl ?_)
  refine PySem.W.callWith_K (h₀ := X.base) I.ok.mod.kin hk (thn (ha.run pos pins _ σ H _ (I.tok _) h) ?_) he hpl
  rintro us s1 ⟨vs, H1, I1, r, q⟩
  refine ⟨I1.kIn, ?_⟩
  have both := r.append hd
  have len : (us ++ ds).length = ps.length := (both.length).symm.trans (F.len _ _ _ _ q)
  refine wpAny_call (codeAny_mono (F.run X.A X.stack s1 H1 ⟨us, []⟩ (us ++ ds) (vs ++ dvs) Q E hr I1.env0 (hb s1 us I1.kIn len) both q) ?_)
  intro res z hz
  match res, hz with
  | .ok (.ret u), hz => exact I1.after hz
  | .error e, hz => exact hx pins σ H1 s1 e z I1 hz
  | .ok .next, hz => exact hz.elim
  | .ok .brk, hz => exact hz.elim
  | .ok .cont, hz => exact hz.elim
end
/-! ### o.m(e, ..) in a try's body -/
section
variable {X : Cx} {CX : CXT} {k : Nat} {C f : Addr} {fd : FuncData} {ps : List Str} {sp : Sp} {E : L2.St → XK} {m : Str} {pos apos : Pos} {e o : Expr} {es : List Expr} {ta : TE} {t : TA}
def tMethX (C : Addr) (m : Str) (sp : Sp) (E : L2.St → XK) (ta : TE) (t : TA) : TE := fun σ H Q => ta σ H fun x G => ∃ a dx fs, x = .ref a ∧ G a = some (.ins C dx fs) ∧ fs.lookup m = none ∧
  t σ G fun vs G2 => sp (x :: vs) G2 Q (E σ)
theorem pe_methX {pl : Sem Bool} (he : PE X o ta) (c : Cls X.K C) (hm : Meth X.K C m f) (F : FnOk X.prog X.w X.K X.mg X.base CX k f fd ps sp) (hr : Room k X.A) (hb : Binds X.K fd ps []) (hx : ∀ σ, PassesAt CX X σ (E σ)) (ha : PA X (e :: es) t)
    (hst : starEach (e :: es) X.env = (false, eval e X.env) :: starEach es X.env := by rfl) (hpl : (backTo pos (starEach es X.env)).any (·.1) = false := by rfl)
    (ht : eval (.Call (.Attribute o m apos) (e :: es) [] pos) X.env = (do
      let ov ← eval o X.env
      standAt apos.atName
      let (f, first) ← holding [ov] (getMethod ov m pl)
      callWith pos f first (backTo pos (starEach (e :: es) X.env)) (backToKw pos (keywordEach [] X.env))) := by rfl) :
    PE X (.Call (.Attribute o m apos) (e :: es) [] pos) (tMethX C m sp E ta t) := by
  refine ⟨fun pins s σ H Q I h => PySem.W.methodCall_KW (pl := pl) (thn (he.run pins s σ H _ I h) ?_) ht⟩
  rintro u z ⟨x, G, J, rx, a, dx, fs, rfl, ea, l, q⟩
  obtain rfl : u = Value.ref a := rx
  refine getmeth_ok J ea c hm l (PySem.W.callWith_K (first := [.ref a]) (h₀ := X.base) I.ok.mod.kin hm.kp (thn (ha.run pos pins z σ G _ J q) ?_) hst hpl)
  rintro us y ⟨vs, G2, J2, r, q2⟩
  exact ⟨J2.kIn, run_fnS (us := .ref a :: us) (vs := .ref a :: vs) F hr hb (hx σ) J2 (.cons rfl r) q2⟩
end
/-! ### the family: an __init__ over another class's, one field -/
/-- StaffError.__init__(self, text) and the like -/
def spUp (K : PySem.W.Frag) : Sp := fun vs H Q _ => ∃ (a C : Addr) (z : Str), vs = [.ref a, .str z] ∧ OexC K C ∧ H a = some (exo a C none) ∧ Q .non H
/-- C.__init__(self, x), its one field f -/
def spOne (K : PySem.W.Frag) (C : Addr) (f : Str) : Sp := fun vs H Q _ => ∃ (a : Addr) (v : V), vs = [.ref a, v] ∧ H a = some (exo a C none) ∧
  ∀ dx, H dx = none → dx ≠ a → Q .non (upd (upd H dx (exd dx [(f, v)])) a (exo a C (some dx)))
/-- what is left of a made exception: its dict alone -/
theorem made_eq {H : Hp} {a d C : Addr} {fs : List (Str × V)} (n : H a = none) (ne : d ≠ a) :
    upd (del (upd (upd (upd H a (exo a C none)) d (exd d fs)) a (exo a C (some d))) a) d (.xd fs) = upd H d (.xd fs) := by
  funext b
  by_cases hd : b = d
  · rw [hd, upd_same, upd_same]
  · rw [upd_ne hd, upd_ne hd]
    by_cases ha : b = a
    · rw [ha, del_same, n]
    · rw [del_ne ha, upd_ne ha, upd_ne hd, upd_ne ha]
/-- raise C(x): what is to be shown -/
theorem made_one {K : PySem.W.Frag} {C : Addr} {f : Str} {v : V} {H : Hp} {W : Value → Option Addr → Hp → Prop} (k : ∀ d, H d = none → W (.ref C) (some d) (upd H d (.xd [(f, v)]))) :
    ([v] : List V).length ≤ 1000 ∧ ∀ a, H a = none → spOne K C f (.ref a :: ([v] ++ [])) (upd H a (exo a C none))
      (fun u H2 => u = .non ∧ ∃ (d : Addr) (fs : List (Str × V)), H2 a = some (exo a C (some d)) ∧ H2 d = some (exd d fs) ∧ H d = none ∧ W (.ref C) (some d) (upd (del H2 a) d (.xd fs))) (fun _ _ _ => False) := by
  refine ⟨by simp, fun a n => ⟨a, v, rfl, upd_same, fun dx hdx ne => ⟨rfl, dx, [(f, v)], upd_same, ?_, ?_, ?_⟩⟩⟩
  · rw [upd_ne ne, upd_same]
  · rw [upd_ne ne] at hdx
    exact hdx
  · rw [made_eq n ne]
    rw [upd_ne ne] at hdx
    exact k dx hdx
/-- a class is its own -/
theorem sub_self {K : PySem.W.Frag} {C : Addr} {cd : ClassData} {r : List Value} (h : PySem.W.clsIn K C = some cd) (e : cd.mro = .ref C :: r) : PySem.W.subIn K (.ref C) (.ref C) = some true := by
  show PySem.W.mroIn K C (.ref C) = some true
  unfold PySem.W.mroIn
  rw [h]
  simp [e]
/-! ### isinstance of what was caught -/
structure CauC (K : PySem.W.Frag) (D : Addr) : Prop where
  cl : (PySem.W.clsIn K D).isSome = true
  ga : PySem.W.findIn K (.ref D) "__getattribute__" = some (some (.builtin "BaseException.__getattribute__"))
  gg : PySem.W.findIn K (.ref D) "__getattr__" = some none
  sub : PySem.W.subIn K (.ref D) (.type "BaseException") = some true
  co : PySem.W.findIn K (.ref D) "__class__" = some (some (.builtin "object.__class__"))
  cg : PySem.W.specialIn K (.builtin "object.__class__") "__get__" = some (some (.builtin "getset_descriptor.__get__"))
  ct : PySem.W.takesIn K (.builtin "object.__class__") = some true
  mo : PySem.W.mroIn K D (.type "object") = some true
/-- isinstance(e, c), e what the suite holds (cls its class, d its dict) -/
def rIsD (K : PySem.W.Frag) (D a : Addr) (cls : Value) (d : Option Addr) : List V → Hp → VK → Prop := fun xs H Q => ∃ (c : V) (cv : Value) (b : Bool) (dd : Addr) (fs : List (Str × V)),
  xs = [.ref a, c] ∧ (∀ u, RelV c u → u = cv) ∧ PySem.W.kitOne K (.ref D) cv = some b ∧ cls = .ref D ∧ d = some dd ∧ H dd = some (.xd fs) ∧ Q (.bl b) H
theorem call_isD {X : Cx} {a D : Addr} {cls : Value} {d : Option Addr} {oe : Obj} {pn : List (Addr × Obj)} (T : CauC X.K D) (hz : Zc cls d oe) (hf : ∃ fv, oe.data = .fields fv) :
    CallR (X.suite a ((a, oe) :: pn)) (.builtin "isinstance") (rIsD X.K D a cls d) := by
  rintro pins s σ H xs us Q I r ⟨c, cv, b, dd, fs, rfl, hcv, e, rfl, rfl, ed, q⟩
  cases r with
  | cons rx rr =>
    cases rr with
    | cons rt rr =>
      cases rr
      cases rx
      obtain rfl := hcv _ rt
      obtain ⟨hget, _⟩ := I.pin (a, oe) (by simp)
      obtain ⟨fv, hv⟩ := hf
      have hx : ObjOk X.prog X.w H s.heap dd (.xd fs) := I.hok dd _ ed
      obtain ⟨mA, hns, _⟩ := hx
      obtain ⟨od, ho, _⟩ := lookIn_ns hns
      have J : PySem.W.InstAt s.heap a oe D (some od) := ⟨hget, hz.1, by unfold PySem.W.notCls; rw [hv] <;> rfl, by rw [hz.2]; exact ho⟩
      exact PySem.W.kia_one (PySem.W.kitx_exc T.cl T.ga T.gg T.sub T.co T.cg T.ct T.mo) I.kIn J e (fun z => nomatch z) fun tk => ⟨.bl b, H, I.tok _, rfl, q⟩
/-- a call of a def that may raise, where it does not -/
theorem pass_no {X : Cx} : Passes (L2.CX X.prog X.w) X E0 := fun _ _ _ _ _ _ _ ⟨_, _, _, _, _, _, _, _, _, _, _, _, z⟩ => z.elim
theorem takes_never {X : Cx} : Takes X (fun _ _ _ _ => False) := fun _ _ ⟨_, _, _, _, _, _, _, _, _, _, _, _, _, _, _, _, z⟩ => z.elim
end My

set_option maxRecDepth 100000
set_option maxHeartbeats 400000
/-! Several refusals of one family: what the written part says of each. -/
namespace My
open PySem PySem.Spec PyProof.Rows L2 GxR Gd TL
/-- the class above them -/
structure SeT (K : PySem.W.Frag) (mg : Str → Option Value) (CS fS : Addr) (fdS : FuncData) (st : Stmt) : Prop where
  ve : mg "ValueError" = none
  vi : PySem.W.findCls K (.type "ValueError") (.type "type") "__init__" = some (.val (.builtin "ValueError.__init__"))
  g : mg "StaffError" = some (.ref CS)
  c : ClsDef K CS fS "__init__"
  k : PySem.W.keepIn K (.ref fS) = true
  F : Fun K "__init__" "StaffError.__init__" st fS fdS
  b : Binds K fdS ["self", "text"] []
/-- one of them -/
structure ExC (K : PySem.W.Frag) (mg : Str → Option Value) (x q : Str) (st : Stmt) (C f : Addr) (fd : FuncData) : Prop where
  g : mg x = some (.ref C)
  F : Fun K "__init__" q st f fd
  b : Binds K fd ["self", "found"] []
  o : OexC K C
  i : PySem.W.findIn K (.ref C) "__init__" = some (some (.ref f))
  t : PySem.W.typeIn K (.ref f) = some (.type "function")
  n : PySem.W.findIn K (.ref C) "found" = some none
  e : PySem.W.exmOne K (.ref C) (.ref C) = some true
  x : XfC K C
  u : CauC K C
section
variable {X : Cx} {CX : CXT} {k : Nat} {C f : Addr} {fd : FuncData} {ps : List Str} {sp : Sp} {E : L2.St → XK} {m : Str} {pos apos : Pos} {o : Expr} {ta : TE}
def tMethX0 (C : Addr) (m : Str) (sp : Sp) (E : L2.St → XK) (ta : TE) : TE := fun σ H Q => ta σ H fun x G => ∃ a dx fs, x = .ref a ∧ G a = some (.ins C dx fs) ∧ fs.lookup m = none ∧ sp [x] G Q (E σ)
/-- o.m() in a try's body -/
theorem pe_methX0 {pl : Sem Bool} (he : PE X o ta) (c : Cls X.K C) (hm : Meth X.K C m f) (F : FnOk X.prog X.w X.K X.mg X.base CX k f fd ps sp) (hr : Room k X.A) (hb : Binds X.K fd ps []) (hx : ∀ σ, PassesAt CX X σ (E σ))
    (ht : eval (.Call (.Attribute o m apos) [] [] pos) X.env = (do
      let who ← eval o X.env
      standAt apos.atName
      let (g, ahead) ← holding [who] (getMethod who m pl)
      callWith pos g ahead (backTo pos (starEach [] X.env)) (backToKw pos (keywordEach [] X.env))) := by rfl) :
    PE X (.Call (.Attribute o m apos) [] [] pos) (tMethX0 C m sp E ta) := by
  refine ⟨fun pins s σ H Q I h => PySem.W.methodCall_KW (pl := pl) (thn (he.run pins s σ H _ I h) ?_) ht⟩
  rintro u z ⟨x, G, J, rx, a, dx, fs, rfl, ea, l, q⟩
  obtain rfl := show u = Value.ref a from rx
  refine getmeth_ok J ea c hm l ?_
  exact PySem.W.callWith_K0 (first := [.ref a]) J.kIn hm.kp (run_fnS (us := [.ref a]) (vs := [.ref a]) F hr hb (hx σ) J (.cons rfl .nil) q)
end
end My

set_option maxRecDepth 100000
set_option maxHeartbeats 1000000
/-! An object made in a try's body, by an __init__ that may raise. -/
namespace My
open PySem PySem.Spec PyProof.Rows L2 GxR Gd TL
section
variable {X : Cx} {CX : CXT} {k : Nat} {f C : Addr} {fd : FuncData} {ps : List Str} {sp : Sp} {E : L2.St → XK} {x : Str} {p pos : Pos} {e : Expr} {es : List Expr} {t : TA} {dvs : List V} {ds : List Value}
def tMakeS (C : Addr) (sp : Sp) (dvs : List V) (E : L2.St → XK) (t : TA) : TE := fun σ H Q => t σ H fun vs G => ∀ a b, G a = none → G b = none → b ≠ a →
  sp (.ref a :: (vs ++ dvs)) (upd (upd G b (.own a)) a (.ins C b [])) (fun v G' => v = .non ∧ Q (.ref a) G') (E σ)
theorem run_makeS {pins : List (Addr × Obj)} {σ : L2.St} {H : Hp} {s : Shared} {Q : VK} {us : List Value} {vs : List V} (M : Mk X.K C f) (F : FnOk X.prog X.w X.K X.mg X.base CX k f fd ps sp) (hr : Room (k + 1) X.A) (hb : Binds X.K fd ps ds) (hd : Vals dvs ds)
    (hx : PassesAt CX X σ (E σ)) (I : L2.Inv X pins σ H s) (r : Vals vs us)
    (h : ∀ a b, H a = none → H b = none → b ≠ a → sp (.ref a :: (vs ++ dvs)) (upd (upd H b (.own a)) a (.ins C b [])) (fun v G => v = .non ∧ Q (.ref a) G) (E σ)) : wpAny (model X.prog X.w) X.A (call (.ref C) us) (EP X pins σ Q) X.xe s := by
  have n0 := I.hok.fresh (Nat.le_refl s.heap.objs.size)
  have n1 := I.hok.fresh (Nat.le_succ s.heap.objs.size)
  have q := h _ _ n1 n0 (Nat.ne_of_lt (Nat.lt_succ_self _))
  have J := Inv.made (C := C) I
  have rs : Vals (V.ref (s.heap.objs.size + 1) :: (vs ++ dvs)) (Value.ref (s.heap.objs.size + 1) :: (us ++ ds)) := .cons rfl (r.append hd)
  have len : (Value.ref (s.heap.objs.size + 1) :: us ++ ds).length = ps.length := by
    have := F.len _ _ _ _ q
    rw [← this]
    exact rs.length.symm
  apply wpAny_call
  apply make_map (f := f) I.kIn M.makes M.init (beq_iff_eq.mp M.fn)
  have run := F.run _ X.stack _ _ ⟨Value.ref (s.heap.objs.size + 1) :: us, []⟩ (Value.ref (s.heap.objs.size + 1) :: (us ++ ds)) _ _ (E σ) (hr.make C us []) (J.env0.make C us []) (hb _ (Value.ref (s.heap.objs.size + 1) :: us) J.kIn len) rs q
  apply codeAny_mono run
  intro r' s' hq
  match r', hq with
  | .error z, hq => exact hx pins _ _ z s' J hq
  | .ok (.ret u), hq =>
    obtain ⟨v, G, J', rv, ⟨ev, q'⟩⟩ := J.after hq
    subst ev
    exact ⟨rv, V.ref (s.heap.objs.size + 1), G, J', rfl, q'⟩
  | .ok .next, hq => exact hq.elim
  | .ok .brk, hq => exact hq.elim
  | .ok .cont, hq => exact hq.elim
theorem pe_makeS (M : Mk X.K C f) (F : FnOk X.prog X.w X.K X.mg X.base CX k f fd ps sp) (hr : Room (k + 1) X.A) (hg : Gl X x) (hm : X.mg x = some (.ref C)) (hb : Binds X.K fd ps ds) (hd : Vals dvs ds) (hx : ∀ σ, PassesAt CX X σ (E σ))
    (ha : PA X (e :: es) t) (hdb : (x == ("__debug__" : Str)) = false := by decide) (he : starEach (e :: es) X.env = (false, eval e X.env) :: starEach es X.env := by rfl) (hpl : (backTo pos (starEach es X.env)).any (·.1) = false := by rfl) :
    PE X (.Call (.Name x p) (e :: es) [] pos) (tMakeS C sp dvs E t) := by
  constructor
  intro pins s σ H Q I h
  apply wpAny_Call_Name_kw (ld_glob I hg hm ?_ hdb)
  apply PySem.W.callWith_K (h₀ := X.base) I.ok.mod.kin M.kp ?_ he hpl
  exact thn (ha.run pos pins s σ H _ I h) fun us s1 ⟨vs, G, J, r, q⟩ => ⟨J.kIn, run_makeS M F hr hb hd (hx σ) J r q⟩
end
end My

set_option maxRecDepth 100000
set_option maxHeartbeats 800000
namespace R7
open PySem PySem.Spec PyProof.Rows L2 GxR Gd TL My
/-! ### the refusals -/
abbrev sSE : Stmt := inClass (top 1) 0
theorem scSE : FnScope ["self", "text"] ["self", "text"] (defScope sSE) := ⟨rfl, rfl, rfl, by decide +kernel, rfl, by decide +kernel, by decide +kernel⟩
abbrev sNoRun : Stmt := inClass (top 2) 0
theorem scNoRun : FnScope ["self", "found"] ["self", "found"] (defScope sNoRun) := ⟨rfl, rfl, rfl, by decide +kernel, rfl, by decide +kernel, by decide +kernel⟩
section
variable {P : Program} {w : World} {K : PySem.W.Frag} {mg : Str → Option Value} {base : Heap} {CS fS C fN : Addr} {fdS fdN : FuncData}
theorem ok_SE (T : SeT K mg CS fS fdS sSE) {CX : CXT} : FnOk P w K mg base CX0 1 fS fdS ["self", "text"] (spUp K) := by
  refine T.F.ok scSE (fun vs H Q E h => ?_) (fun cdv A outer s H vs Q E hr h => ?_)
  · obtain ⟨a, C, z, rfl, _⟩ := h
    rfl
  · obtain ⟨a, C, z, rfl, o, e, k⟩ := h
    refine ⟨_, pss_one (ps_expr (pe_veinit (by rfl) T.ve T.vi (pa_cons (pv 0) (pa_cons (pv 1) pa_nil)))), ?_⟩
    exact ⟨_, rfl, _, rfl, a, C, _, rfl, by simp, o, e, k⟩
theorem ok_NoRun (S : SeT K mg CS fS fdS sSE) (T : ExC K mg "NoRun" "NoRun.__init__" sNoRun C fN fdN) : FnOk P w K mg base CX0 2 fN fdN ["self", "found"] (spOne K C "found") := by
  refine T.F.ok scNoRun (fun vs H Q E h => ?_) (fun cdv A outer s H vs Q E hr h => ?_)
  · obtain ⟨a, v, rfl, _⟩ := h
    rfl
  · obtain ⟨a, v, rfl, e, k⟩ := h
    refine ⟨_, pss_cons (ps_expr (pe_ccall S.c (ok_SE (CX := CX0) S) hr (by rfl) S.g S.k S.b .nil pass0 (pa_cons (pv 0) (pa_cons pe_str pa_nil))))
      (pss_one (ps_ost (pv 0) (pv 1))), ?_⟩
    refine ⟨_, rfl, a, C, _, rfl, T.o, e, ?_⟩
    exact ⟨_, rfl, _, rfl, a, C, rfl, T.o, T.n, .inl ⟨e, fun dx h1 h2 => k dx h1 h2⟩⟩
end
/-- an own exception that keeps a row -/
structure ExR (K : PySem.W.Frag) (mg : Str → Option Value) (x q : Str) (st : Stmt) (C f : Addr) (fd : FuncData) : Prop where
  g : mg x = some (.ref C)
  F : Fun K "__init__" q st f fd
  b : Binds K fd ["self", "row"] []
  o : OexC K C
  i : PySem.W.findIn K (.ref C) "__init__" = some (some (.ref f))
  t : PySem.W.typeIn K (.ref f) = some (.type "function")
  n : PySem.W.findIn K (.ref C) "row" = some none
  e : PySem.W.exmOne K (.ref C) (.ref C) = some true
  x : XfC K C
  u : CauC K C
abbrev sNoText : Stmt := inClass (top 3) 0
theorem scNoText : FnScope ["self", "row"] ["self", "row"] (defScope sNoText) := ⟨rfl, rfl, rfl, by decide +kernel, rfl, by decide +kernel, by decide +kernel⟩
def rowsIn (z : Str) : List Str := if z = Str.empty then [] else PySem.Txt.split z (Str.ofString "\n")
theorem rowsIn_wok {z : Str} (h : WOk z) : ∀ p ∈ rowsIn z, WOk p := by
  intro p hp
  unfold rowsIn at hp
  split at hp
  · cases hp
  · exact split_wok h hp
theorem rowsIn_len {z : Str} (h : WOk z) : (rowsIn z).length ≤ 200002 := by
  unfold rowsIn
  split
  · exact Nat.zero_le _
  · have := PyProof.Rows.split_le z (Str.ofString "\n")
    have := h.1
    omega
section
variable {P : Program} {w : World} {K : PySem.W.Frag} {mg : Str → Option Value} {base : Heap} {CS CT fS fT : Addr} {fdS fdT : FuncData} {aSORTS aRUN : Addr}
theorem ok_NoText (S : SeT K mg CS fS fdS sSE) (T : ExR K mg "NoText" "NoText.__init__" sNoText CT fT fdT) : FnOk P w K mg base CX0 2 fT fdT ["self", "row"] (spOne K CT "row") := by
  refine T.F.ok scNoText (fun vs H Q E h => ?_) (fun cdv A outer s H vs Q E hr h => ?_)
  · obtain ⟨a, v, rfl, _⟩ := h
    rfl
  · obtain ⟨a, v, rfl, e, k⟩ := h
    refine ⟨_, pss_cons (ps_expr (pe_ccall S.c (ok_SE (CX := CX0) S) hr (by rfl) S.g S.k S.b .nil pass0 (pa_cons (pv 0) (pa_cons pe_str pa_nil))))
      (pss_one (ps_ost (pv 0) (pv 1))), ?_⟩
    refine ⟨_, rfl, a, CT, _, rfl, T.o, e, ?_⟩
    exact ⟨_, rfl, _, rfl, a, CT, rfl, T.o, T.n, .inl ⟨e, fun dx h1 h2 => k dx h1 h2⟩⟩
abbrev s_rows_of : Stmt := top 23
theorem sc_rows_of : FnScope ["text"] ["text"] (defScope s_rows_of) := ⟨rfl, rfl, rfl, by decide +kernel, rfl, by decide +kernel, by decide +kernel⟩
def spRowsOf (CT : Addr) : Sp := fun vs H Q E => ∃ (v : V), vs = [v] ∧ Th H v ∧ (∀ z, v = .str z → WOk z ∧ ∀ p, H p = none → Q (.ref p) (upd H p (.lst ((rowsIn z).map V.str)))) ∧
  ((∀ z, v ≠ .str z) → ∀ e, H e = none → E (.ref CT) (some e) (upd H e (.xd [("row", .int 0)])))
theorem ok_rows_of {f : Addr} {fd : FuncData} (F : Fun K "rows_of" "rows_of" s_rows_of f fd) (T : Txt mg) (ES : SeT K mg CS fS fdS sSE) (ENoText : ExR K mg "NoText" "NoText.__init__" sNoText CT fT fdT) : FnOk P w K mg base (CX P w) 4 f fd ["text"] (spRowsOf CT) := by
  refine F.okX sc_rows_of (fun vs H Q E h => ?_) (fun cdv A outer s H vs Q E hr h => ?_)
  · obtain ⟨z, rfl, _⟩ := h
    rfl
  · obtain ⟨v, rfl, th, ks, kx⟩ := h
    refine ⟨_, pss_cons (ps_if (pt_not (pt_val (pe_callB call_isi (by rfl) T.isinstance_ (by decide +kernel) (pa_cons (pv 0) (pa_cons (pe_bltn (v := .ty "str") (by rfl) T.str_ (by decide +kernel) rfl) pa_nil))))) (pss_one (ps_raise rfl (takes_of rfl rfl rfl rfl) (pmk_oex ENoText.o ENoText.i ENoText.t (ok_NoText ES ENoText) (hr.mono (by decide)) ENoText.b .nil pass0 (by rfl) ENoText.g (pa_cons pe_int pa_nil)))) pss_nil)
      (pss_one (ps_ret (pe_ifExp (pt_truth (pv 0) (fun _ => rfl)) (pe_split (pv 0) pe_str) (pe_lst pa_nil)))), ?_⟩
    obtain ⟨t, ty, cs⟩ := th.ty (K := K)
    rcases cs with ⟨i, rfl, rfl⟩ | ⟨b, rfl, rfl⟩ | ⟨z, rfl, _, rfl⟩ | ⟨n1, n2, n3, ht⟩
    · exact ⟨_, rfl, _, _, _, _, false, rfl, .ty "str", ty, (by rfl), _, rfl, iteT (made_one (kx (fun z h => (by cases h))))⟩
    · exact ⟨_, rfl, _, _, _, _, false, rfl, .ty "str", ty, (by rfl), _, rfl, iteT (made_one (kx (fun z h => (by cases h))))⟩
    · obtain ⟨wz, kq⟩ := ks z rfl
      refine ⟨_, rfl, _, _, _, _, true, rfl, .ty "str", ty, (by rfl), _, rfl, iteF ?_⟩
      by_cases e : z = Str.empty
      · subst e
        refine ⟨_, rfl, false, ⟨wz.line, by decide +kernel⟩, iteF ⟨Nat.zero_le _, fun p hp => ?_⟩⟩
        exact kq p hp
      · refine ⟨_, rfl, true, ⟨wz.line, ?_⟩, iteT ⟨_, rfl, ⟨_, rfl⟩, z, _, rfl, rfl, by decide +kernel, fit2 (by have := wz.1; omega), fun p hp => ?_⟩⟩
        · have := len_ne e
          simp; omega
        · have q := kq p hp
          rw [show rowsIn z = PySem.Txt.split z (Str.ofString "\n") from if_neg e] at q
          exact q
    · have no : ∀ z, v ≠ .str z := n3
      rcases ht with rfl | rfl | rfl | rfl
      · exact ⟨_, rfl, _, _, _, _, false, rfl, .ty "str", ty, (by rfl), _, rfl, iteT (made_one (kx no))⟩
      · exact ⟨_, rfl, _, _, _, _, false, rfl, .ty "str", ty, (by rfl), _, rfl, iteT (made_one (kx no))⟩
      · exact ⟨_, rfl, _, _, _, _, false, rfl, .ty "str", ty, (by rfl), _, rfl, iteT (made_one (kx no))⟩
      · exact ⟨_, rfl, _, _, _, _, false, rfl, .ty "str", ty, (by rfl), _, rfl, iteT (made_one (kx no))⟩
end
end R7

set_option maxRecDepth 100000
set_option maxHeartbeats 4000000
/-! enumerate(a list, start=k) -/
namespace My
open PySem PySem.Spec PyProof.Rows L2
theorem callWith_typeK {M : Model} {A : Around} {E : Value → Shared → Prop} {s : Shared} {pos : Pos} {T : String} {first : List Value} {args : List (Bool × Sem Value)} {keywords : List (Option Str × Sem Value)} {Q : Value → Shared → Prop}
    (hplain : args.any (·.1) = false) (hkw : keywords.any (·.1.isNone) = false)
    (h : wpAny M A (evalArgs (.type T) true args keywords) (fun a s₁ => wpAny M A (call (.type T) (first ++ a.pos) a.kw) Q E s₁) E s) :
    wpAny M A (callWith pos (.type T) first args keywords) Q E s := by
  unfold callWith
  refine wpAny_bind (wpAny_holding (wpAny_mono h (fun a s₁ h₁ => wpAny_bind (wpAny_standAt ?_)) fun _ _ x => x))
  simp only [hplain, hkw, Bool.or_false]
  refine wpAny_bind (wpAny_pure ?_)
  exact wpAny_bind (wpAny_mono h₁ (fun r s₂ hr => wpAny_bind (wpAny_holding (wpAny_point (wpAny_pure hr)))) fun _ _ x => x)
theorem callWith_typeKw {M : Model} {A : Around} {E : Value → Shared → Prop} {s : Shared} {env : Env} {pos : Pos} {T : String} {e : Expr} {rest : List Expr} {kws : List Keyword} {Q : Value → Shared → Prop}
    (h : wpAny M A (spliced (backTo pos (starEach (e :: rest) env))) (fun vs s₁ => wpAny M A (evalAll ((backToKw pos (keywordEach kws env)).map (·.2)))
      (fun kvs s₂ => wpAny M A (call (.type T) vs (((backToKw pos (keywordEach kws env)).filterMap (·.1)).zip kvs)) Q E s₂) E s₁) E s)
    (he : backTo pos (starEach (e :: rest) env) = (false, eval e env) :: backTo pos (starEach rest env) := by rfl)
    (hplain : (backTo pos (starEach (e :: rest) env)).any (·.1) = false := by rfl)
    (hall : (backToKw pos (keywordEach kws env)).all (·.1.isSome) = true := by rfl)
    (hkw : (backToKw pos (keywordEach kws env)).any (·.1.isNone) = false := by rfl) :
    wpAny M A (callWith pos (.type T) [] (backTo pos (starEach (e :: rest) env)) (backToKw pos (keywordEach kws env))) Q E s := by
  refine callWith_typeK hplain hkw ?_
  rw [he] at h ⊢
  exact evalArgs_kwB hall h
/-- the list at a, each item in a new pair with its number, counted from k0 -/
def IteS (K : PySem.W.Frag) (k0 : Int) (a : Addr) : It :=
  ⟨fun i H => ∃ (xs : List V) (x : V), SqL K H a xs ∧ xs[i]? = some x,
   fun i H v H' => ∃ T x, v = .ref T ∧ H T = none ∧ H' = upd H T (.tup [.int (k0 + (i : Nat)), x]) ∧ ∀ xs, SqL K H a xs → xs[i]? = some x,
   fun i H => ∃ xs : List V, SqL K H a xs ∧ xs.length ≤ i⟩
theorem turn_enumS {P : Program} {w : World} {K : PySem.W.Frag} {elts : List Expr} {kk : Nat} {tp : Pos} (k0 : Int) (a e it : Addr) :
    Turn P w K (.Tuple elts kk tp) (IteS K k0 a) [e, it] e (fun i h => (∃ old, IsEnum h e it (k0 + (i : Nat)) old) ∧ h.IsListIter it a i ∧ e ≠ it) := by
  have two : ∀ {b : Addr}, b ∈ [e, it] → b = e ∨ b = it := fun {b} hb => by simpa using hb
  constructor
  case mem => exact List.mem_cons_self
  case obj =>
    rintro i h ⟨⟨old, he⟩, ⟨o, ho, hc, hd⟩, hne⟩ b hb
    rcases two hb with rfl | rfl
    · exact ⟨_, he, fun v q => nomatch q⟩
    · exact ⟨o, ho, fun v q => by rw [hd] at q; cases q⟩
  case keep =>
    rintro i h h' ⟨⟨old, he⟩, ⟨o, ho, r⟩, hne⟩ k
    exact ⟨⟨old, k e List.mem_cons_self _ he⟩, ⟨o, k it (by simp) _ ho, r⟩, hne⟩
  case self =>
    rintro A i s Q E ⟨⟨_, he⟩, _⟩ hQ
    exact wpAny_pyIter_enum he hQ
  case item =>
    rintro X rfl rfl rfl hc i pins s σ H E I hf ⟨⟨old, he⟩, hit, hne⟩ ⟨xs, x, hq, hx⟩
    obtain ⟨its, rv, p, hz⟩ := I.list hq
    have pt : s.heap.IsList a its.toArray := p.isList
    obtain ⟨u, hu, ru⟩ := rv.get hx
    have hi : i < its.toArray.size := by
      have := (List.getElem?_eq_some_iff.mp hu).1
      simpa using this
    have ane : a ≠ it := by
      rintro rfl
      obtain ⟨o1, h1, h2, _⟩ := hit
      obtain ⟨o2, h3, h4, _⟩ := pt
      rw [h1] at h3
      cases h3
      rw [h2] at h4
      simp at h4
    have aee : a ≠ e := by
      rintro rfl
      obtain ⟨o2, h3, h4, _⟩ := pt
      have h1 : s.heap.get? a = some _ := he
      rw [h1] at h3
      cases h3
      simp at h4
    have le : e < s.heap.objs.size := Heap.lt_size he
    have li : it < s.heap.objs.size := by
      obtain ⟨_, q, _⟩ := hit
      exact Heap.lt_size q
    have D := Draws.list (prog := X.prog) (w := X.w) (A := X.A.in1) (show X.A.in1.handled = none from I.ok.hd hc) it a ane its.toArray
    refine wpAny_pyNext_enum_itemC D he ⟨hit, pt⟩ hi hne (fun z => ?_) fun y h' tk hy ho hst hT hsz hk => ?_
    · rcases List.mem_cons.mp z with z | z
      · exact hne z
      · exact aee (List.mem_singleton.mp z).symm
    · have ey : y = u := by
        have z : its.toArray[i]? = some u := by simpa using hu
        exact Option.some.inj (hy.symm.trans z)
      subst ey
      refine ⟨_, rfl, wpAny_letOwnedTupleGo_enum (s := { s with heap := h', toks := tk + 1 }) ho fun h2 he2 sb => ?_⟩
      have hT2 : h2.get? s.heap.objs.size = some { cls := .type "tuple", data := .seq #[.int (k0 + (i : Nat)) tk, y] } := (sb.2 _ (Nat.ne_of_gt le)).trans hT
      have new : ObjOk X.prog X.w (upd H s.heap.objs.size (.tup [.int (k0 + (i : Nat)), x])) h2 s.heap.objs.size (.tup [.int (k0 + (i : Nat)), x]) :=
        ⟨(by show 2 ≤ sizeLine; decide), [.int (k0 + (i : Nat)) tk, y], .cons ⟨_, rfl⟩ (.cons ru .nil), ⟨_, hT2, rfl, _, rfl⟩⟩
      have I1 := I.turnedNew (t' := tk + 1) (ch := [e, it]) (h' := h2) (fun b o hb q => (sb.2 b (fun z => hb (by simp [z]))).trans (hk b o (fun z => hb (by simp [z])) (fun z => hb (by simp [z])) q)) hf (Nat.le_refl _) new
      refine ⟨.ref s.heap.objs.size, _, I1, rfl, ⟨_, x, rfl, I.hok.fresh (Nat.le_refl _), rfl, fun ys hy => by rw [I.list_inj hy hq]; exact hx⟩, ⟨⟨y, ?_⟩, ?_, hne⟩, fun b hb => ?_⟩
      · have e1 : k0 + ((i + 1 : Nat) : Int) = k0 + (i : Int) + 1 := by omega
        rw [e1]
        exact he2
      · obtain ⟨o, q1, q2⟩ := hst.1
        exact ⟨o, (sb.2 it (Ne.symm hne)).trans q1, q2⟩
      · have lb : b < s.heap.objs.size := by
          rcases two hb with rfl | rfl
          · exact le
          · exact li
        rw [upd_ne (Nat.ne_of_lt lb)]
        exact (hf b hb).1
  case done =>
    rintro X rfl rfl rfl hc i pins s σ H E I hf ⟨⟨old, he⟩, hit, hne⟩ ⟨xs, hq, hx⟩
    obtain ⟨its, rv, p, hz⟩ := I.list hq
    have pt : s.heap.IsList a its.toArray := p.isList
    have ane : a ≠ it := by
      rintro rfl
      obtain ⟨o1, h1, h2, _⟩ := hit
      obtain ⟨o2, h3, h4, _⟩ := pt
      rw [h1] at h3
      cases h3
      rw [h2] at h4
      simp at h4
    obtain ⟨f0, f1, f2, f3, f4, f5⟩ := hf it (by simp)
    have hl := rv.length
    -- at the end the place is not told by Draws (it stands at any i ≥ the size): the library's end of a tuple's iterator
    have D : Draws X.prog X.w X.A.in1 it [it, a] i (fun _ _ => False) (fun j h => j = i ∧ h.IsListIter it a i ∧ h.IsList a its.toArray) := by
      constructor
      case live => rintro j h ⟨_, ⟨o, ho, _⟩, _⟩; exact ⟨o, ho⟩
      case frame => rintro j h h' ⟨ej, st1, st2⟩ hk; exact ⟨ej, st1.at fun o e => hk it (by simp) o e, st2.at fun o e => hk a (by simp) o e⟩
      case item => rintro j s Q E hj ⟨ej, _⟩ _; exact absurd hj (by omega)
      case done => rintro s Q E ⟨_, st1, st2⟩ hE; exact wpAny_nextOf_list_end (show X.A.in1.handled = none from I.ok.hd hc) st1 st2 (by simp; omega) hE
    exact wpAny_pyNext_enum_endD D he ⟨rfl, hit, pt⟩ fun h' eb => ⟨rfl, I.turned (t' := s.toks) (fun b o hb q => eb b o hb q) f0 f1 f3 f4 f5⟩
def iEnumS (K : PySem.W.Frag) (ta tk : TA) : TI := fun σ H R => ta σ H fun vs H1 => tk σ H1 fun zs H2 => ∃ a xs k0, vs = [.ref a] ∧ zs = [.int k0] ∧ -(2 ^ 63) ≤ k0 ∧ k0 < 2 ^ 63 ∧ SqL K H2 a xs ∧ R (IteS K k0 a) H2
theorem pi_enumS {X : Cx} {e ke : Expr} {ta tk : TA} {p pos tp kp : Pos} {elts : List Expr} {kk : Nat} (hg : Gl X "enumerate") (hm : X.mg "enumerate" = none) (ha : PA X [e] ta) (hk : PK X [⟨some "start", ke, kp⟩] tk)
    (he : backTo pos (starEach [e] X.env) = (false, eval e X.env) :: backTo pos (starEach [] X.env) := by rfl) (hpl : (backTo pos (starEach [e] X.env)).any (·.1) = false := by rfl) :
    PI X (.Tuple elts kk tp) (.Call (.Name "enumerate" p) [e] [⟨some "start", ke, kp⟩] pos) (iEnumS X.K ta tk) := by
  refine ⟨fun pins s σ H R I h => wpAny_Call_Name_kw (ld_blt I hg hm boot_enumerate (callWith_typeKw (thn (ha.run pos pins s σ H _ I h) ?_) he hpl))⟩
  rintro us s1 ⟨vs, H1, I1, r1, q1⟩
  refine thn (hk.run pos pins s1 σ H1 _ I1 q1) ?_
  rintro ws s2 ⟨zs, H2, I2, r2, a, xs, k0, rfl, rfl, b0, b1, hq, q⟩
  cases r1 with
  | cons r rr =>
    cases rr
    cases r
    cases r2 with
    | cons r rr =>
      cases rr
      obtain ⟨tt, rfl⟩ := r
      obtain ⟨its, rv, p, hz⟩ := I2.list hq
      have pt : s2.heap.IsList a its.toArray := p.isList
      show wpAny _ _ (call (.type "enumerate") [.ref a] [(Str.ofString "start", .int k0 tt)]) _ _ _
      refine enum_begins_start (begins_list a its.toArray) pt b0 b1 fun h' he hit hsz hk => wpAny_pyIter_enum he ?_
      have I3 : Inv X pins σ H2 { s2 with heap := h' } := I2.kept (t' := s2.toks) hk
      refine ⟨s2.heap.objs.size + 1, [s2.heap.objs.size + 1, s2.heap.objs.size], _, _, H2, rfl, I3, turn_enumS k0 a (s2.heap.objs.size + 1) s2.heap.objs.size, ⟨⟨.none, ?_⟩, ⟨_, hit, rfl, rfl⟩, Nat.succ_ne_self _⟩, fun b hb => ?_, q⟩
      · rw [show k0 + ((0 : Nat) : Int) = k0 by omega]
        exact he
      · have lb : s2.heap.objs.size ≤ b := by
          have e' : b = s2.heap.objs.size + 1 ∨ b = s2.heap.objs.size := by simpa using hb
          rcases e' with z | z
          · rw [z]; exact Nat.le_add_right _ _
          · rw [z]; exact Nat.le_refl _
        exact I2.fpOk lb (I2.hok.fresh lb)
theorem walk_enumS {K : PySem.W.Frag} {k0 : Int} {a : Addr} {xs : List V} : Walk (IteS K k0 a) xs.length (fun H => SqL K H a xs) (YPair (fun i => some (.int (k0 + (i : Nat)))) (fun i => xs[i]?)) := by
  refine ⟨fun i _ hi q => ⟨xs, xs[i], q, by simp [hi]⟩, fun _ q => ⟨xs, q, Nat.le_refl _⟩, ?_⟩
  rintro i H v H' _ q ⟨T, x, h1, h2, h3, h4⟩
  exact ⟨T, .int (k0 + (i : Nat)), x, h1, h2, h3, rfl, h4 xs q⟩
end My

set_option maxRecDepth 100000
set_option maxHeartbeats 800000
namespace R7
open PySem PySem.Spec PyProof.Rows L2 GxR Gd TL My
theorem th_nt {H H' : Hp} (e : Nt H H') {v : V} (th : Th H v) : Th H' v := by
  cases th with
  | non => exact .non
  | bl b => exact .bl b
  | int i => exact .int i
  | str z h g => exact .str z h g
  | lst a xs h => exact .lst a xs (e _ _ (by simp) h)
  | tup a xs h => exact .tup a xs (e _ _ (by simp) h)
  | dic a h => exact .dic a (e _ _ (by simp) h)

/-! ### runs, row by row -/
def scan : Nat → List Str → Sum Nat (List (List Pa))
  | _, [] => .inr []
  | n, z :: r => match runOf z with
    | none => .inl (n + 1)
    | some ps => match scan (n + 1) r with
      | .inl e => .inl e
      | .inr l => .inr (ps :: l)
def readV : V → Sum Nat (List (List Pa))
  | .str z => scan 0 (rowsIn z)
  | _ => .inl 0
def pre (l : List (List Pa)) : Sum Nat (List (List Pa)) → Sum Nat (List (List Pa))
  | .inl e => .inl e
  | .inr m => .inr (l ++ m)
theorem pre_nil (x : Sum Nat (List (List Pa))) : pre [] x = x := by cases x <;> rfl
/-- tuples of parts, in a heap -/
inductive Runs (H : Hp) : List V → List (List Pa) → Prop
  | nil : Runs H [] []
  | cons {c : Addr} {ps : List Pa} {vs : List V} {l : List (List Pa)} : H c = some (.tup (ps.map Pa.v)) → Runs H vs l → Runs H (.ref c :: vs) (ps :: l)
theorem Runs.up {H H' : Hp} (u : ∀ c xs, H c = some (.tup xs) → H' c = some (.tup xs)) {vs : List V} {l : List (List Pa)} (h : Runs H vs l) : Runs H' vs l := by
  induction h with
  | nil => exact .nil
  | cons e _ ih => exact .cons (u _ _ e) ih
theorem Runs.snoc {H : Hp} {vs : List V} {l : List (List Pa)} (h : Runs H vs l) {c : Addr} {ps : List Pa} (e : H c = some (.tup (ps.map Pa.v))) : Runs H (vs ++ [.ref c]) (l ++ [ps]) := by
  induction h with
  | nil => exact .cons e .nil
  | cons e2 _ ih => exact .cons e2 ih
theorem Runs.len {H : Hp} {vs : List V} {l : List (List Pa)} (h : Runs H vs l) : vs.length = l.length := by
  induction h with
  | nil => rfl
  | cons _ _ ih => rw [List.length_cons, List.length_cons, ih]
section
variable {P : Program} {w : World} {K : PySem.W.Frag} {mg : Str → Option Value} {base : Heap} {CS CT fS fT : Addr} {fdS fdT : FuncData} {tR : Tok}
abbrev s_read_rows : Stmt := top 24
theorem sc_read_rows : FnScope ["text", "read", "told", "number", "row", "thing"] ["text", "read"] (defScope s_read_rows) := ⟨rfl, rfl, rfl, by decide +kernel, rfl, by decide +kernel, by decide +kernel⟩
abbrev s_table_in : Stmt := top 28
theorem sc_table_in : FnScope ["text"] ["text"] (defScope s_table_in) := ⟨rfl, rfl, rfl, by decide +kernel, rfl, by decide +kernel, by decide +kernel⟩
abbrev s_run_of_row : Stmt := top 29
theorem sc_run_of_row : FnScope ["row"] ["row"] (defScope s_run_of_row) := ⟨rfl, rfl, rfl, by decide +kernel, rfl, by decide +kernel, by decide +kernel⟩
abbrev s_table_text : Stmt := top 27
theorem sc_table_text : FnScope ["runs", "run"] ["runs"] (defScope s_table_text) := ⟨rfl, rfl, rfl, by decide +kernel, rfl, by decide +kernel, by decide +kernel⟩
/-- what a row comes to -/
def spRun (T : List Addr) : Sp := fun vs H Q _ => ∃ (z : Str), vs = [.str z] ∧ WOk z ∧ Tabs T H ∧ (runOf z = none → ∀ H', KM T H H' → Q .non H') ∧ ∀ ps, runOf z = some ps → ∀ t H', H t = none → KM T H H' → H' t = some (.tup (ps.map Pa.v)) → Q (.ref t) H'
theorem ok_run_of_row {T0 : List Addr} {f f1 : Addr} {fd fd1 : FuncData} (F : Fun K "_run_of_row" "_run_of_row" s_run_of_row f fd) (T : Txt mg) (gRUN : mg "RUN" = some (.str runF tR))
    (Nread_row : Fn K mg "read_row" s_read_row ["form", "row"] f1 fd1) (Gread_row : FnOk P w K mg base CX0 7 f1 fd1 ["form", "row"] (spRead T0)) : FnOk P w K mg base CX0 8 f fd ["row"] (spRun T0) := by
  refine F.ok sc_run_of_row (fun vs H Q E h => ?_) (fun cdv A outer s H vs Q E hr h => ?_)
  · obtain ⟨z, rfl, _⟩ := h
    rfl
  · obtain ⟨z, rfl, wz, tb, kn, k⟩ := h
    refine ⟨_, pss_one (ps_ret (pe_call Gread_row (hr.mono (by decide)) (by rfl) Nread_row.g Nread_row.kp Nread_row.b .nil pass0 (pa_cons (pe_glob (v := .str runF) (by rfl) gRUN ⟨_, rfl⟩) (pa_cons (pv 0) pa_nil)))), ?_⟩
    exact ⟨_, rfl, z, rfl, wz, tb, kn, k⟩
/-- read_rows(text, _run_of_row) -/
def spReadRows (T : List Addr) (CT fR : Addr) : Sp := fun vs H Q E => ∃ (v : V), vs = [v, .ref fR] ∧ Th H v ∧ (∀ z, v = .str z → WOk z) ∧ Tabs T H ∧
  (∀ n : Nat, readV v = .inl n → ∀ H' e, KM T H H' → H' e = none → E (.ref CT) (some e) (upd H' e (.xd [("row", .int (n : Nat))]))) ∧
  (∀ l, readV v = .inr l → ∀ t H' vs, H t = none → KM T H H' → H' t = some (.lst vs) → Runs H' vs l → Q (.ref t) H')
theorem ok_read_rows {T0 : List Addr} {f f1 fR : Addr} {fd fd1 : FuncData} (F : Fun K "read_rows" "read_rows" s_read_rows f fd) (T : Txt mg) (ES : SeT K mg CS fS fdS sSE) (ENoText : ExR K mg "NoText" "NoText.__init__" sNoText CT fT fdT)
    (Nrows_of : Fn K mg "rows_of" s_rows_of ["text"] f1 fd1) (GrowsX : FnOk P w K mg base (CX P w) 4 f1 fd1 ["text"] (spRowsOf CT)) (HR : Held P w K mg base 8 fR (spRun T0)) :
    FnOk P w K mg base (CX P w) 9 f fd ["text", "read"] (spReadRows T0 CT fR) := by
  refine F.okX sc_read_rows (fun vs H Q E h => ?_) (fun cdv A outer s H vs Q E hr h => ?_)
  · obtain ⟨v, rfl, _⟩ := h
    rfl
  · obtain ⟨v, rfl, th, wk, tb, kt, ke⟩ := h
    have HA : ∀ _ : Unit, Held P w K mg base 8 fR (spRun T0) := fun _ => HR
    by_cases hv : ∃ z, v = .str z
    · obtain ⟨z, rfl⟩ := hv
      have wz := wk z rfl
      have wr := rowsIn_wok wz
      have lr := rowsIn_len wz
      have ktz : ∀ n : Nat, scan 0 (rowsIn z) = .inl n → ∀ H' e, KM T0 H H' → H' e = none → E (.ref CT) (some e) (upd H' e (.xd [("row", .int (n : Nat))])) := kt
      have kez : ∀ l, scan 0 (rowsIn z) = .inr l → ∀ t H' vs, H t = none → KM T0 H H' → H' t = some (.lst vs) → Runs H' vs l → Q (.ref t) H' := ke
      refine ⟨_, pss_cons (ps_set (i := 2) sc_read_rows.nd rfl (Or.inl rfl) (pe_lst pa_nil))
      (pss_cons (ps_for (passes_of rfl) rfl (pi_enumS (by rfl) T.enumerate_ (pa_cons (pe_call GrowsX (hr.mono (by decide)) (by rfl) Nrows_of.g Nrows_of.kp Nrows_of.b .nil (passes_call (takes_of rfl rfl rfl rfl) (fun _ _ _ _ h => h)) (pa_cons (pv 0) pa_nil)) pa_nil) (pk_cons pe_int pk_nil)) (pg_tup (by rfl) (pgs_cons (pg_name (i := 3) sc_read_rows.nd rfl (Or.inl rfl)) (pgs_cons (pg_name (i := 4) sc_read_rows.nd rfl (Or.inl rfl)) pgs_nil))) (pss_cons (ps_set (i := 5) sc_read_rows.nd rfl (Or.inl rfl) (pe_callJ HA (hr.mono (by decide)) (i := 1) rfl (.inl rfl) (pa_cons (pv 4) pa_nil)))
          (pss_cons (ps_if (pt_cmpR op_isN (pv 5) pe_non (nomark _)) (pss_one (ps_raise rfl (takes_of rfl rfl rfl rfl) (pmk_oex ENoText.o ENoText.i ENoText.t (ok_NoText ES ENoText) (hr.mono (by decide)) ENoText.b .nil pass0 (by rfl) ENoText.g (pa_cons (pv 3) pa_nil)))) pss_nil)
          (pss_one (ps_expr (pe_bm PySem.F.plainAttrs_list PySem.F.slot_list_append PySem.F.type_list_append mt_append (pv 2) (pa_cons (pv 5) pa_nil)))))))
      (pss_one (ps_ret (pv 2)))), ?_⟩
      generalize hσ : L2.start _ _ = σ0
      obtain rfl : σ0 = [some (.str z), some (.ref fR), none, none, none, none] := hσ.symm.trans rfl
      refine ⟨Nat.zero_le _, fun D hD => ?_⟩
      simp only [List.set_cons_succ, List.set_cons_zero]
      refine ⟨_, rfl, .str z, rfl, wz.th, fun z' hz => ⟨wk z' hz, fun p hp => ?_⟩, fun no => absurd rfl (no z)⟩
      obtain rfl := V.str.inj hz
      generalize rowsIn z = rows at wr lr ktz kez ⊢
      have nDp : D ≠ p := fun q => by rw [← q, upd_same] at hp; cases hp
      have hpH : H p = none := by rw [upd_ne nDp.symm] at hp; exact hp
      have k0 : KM T0 H (upd (upd H D (.lst [])) p (.lst (rows.map V.str))) := (KM.alloc tb hD).trans (KM.alloc (KM.alloc tb hD).tab hp)
      have e1 : (upd (upd H D (.lst [])) p (.lst (rows.map V.str))) p = some (.lst (rows.map V.str)) := upd_same
      have eD : (upd (upd H D (.lst [])) p (.lst (rows.map V.str))) D = some (.lst []) := by rw [upd_ne nDp, upd_same]
      generalize upd (upd H D (.lst [])) p (.lst (rows.map V.str)) = H1 at k0 e1 eD ⊢
      simp only [List.set_cons_succ, List.set_cons_zero]
      refine ⟨p, _, 1, rfl, rfl, by decide, by decide, SqL.of e1, for_it (D := ⟨_, _, fun _ _ => False, fun _ _ => False⟩) (walk_enumS (K := K) (xs := rows.map V.str)) (fun i σ H' => ∃ (u3 u4 u5 : Option V) (vs : List V) (l0 : List (List Pa)), σ = [some (.str z), some (.ref fR), some (.ref D), u3, u4, u5] ∧ scan 0 rows = pre l0 (scan i (rows.drop i)) ∧ KM T0 H H' ∧ H' p = some (.lst (rows.map V.str)) ∧ H' D = some (.lst vs) ∧ vs.length ≤ i ∧ Runs H' vs l0) ?_ ?_ ?_ ?_⟩
      · exact ⟨_, _, _, [], [], rfl, (pre_nil _).symm, k0, e1, eD, Nat.le_refl _, .nil⟩
      · rintro i σ H' _ ⟨_, _, _, _, _, _, _, _, e2, _⟩
        exact SqL.of e2
      · rintro i v σ X1 X2 hi ⟨u3, u4, u5, vs, l0, rfl, sc, k2, eP, eV, lv, rs⟩ ⟨T1, X, Y, rfl, hT1, rfl, z1, z2⟩
        obtain rfl := Option.some.inj z1
        replace z2 : (rows.map V.str)[i]? = some Y := z2
        rw [List.getElem?_map] at z2
        cases er : rows[i]? with
        | none => rw [er] at z2; cases z2
        | some y =>
          rw [er] at z2
          obtain rfl := Option.some.inj z2
          have wy := wr y (List.mem_of_getElem? er)
          rw [drop_atG er] at sc
          have up3 : ∀ c xs, X1 c = some (.tup xs) → upd X1 T1 (.tup [.int (1 + (i : Nat)), .str y]) c = some (.tup xs) := fun c xs e => by rw [upd_ne (ne_of_none e hT1)]; exact e
          have k3 := k2.trans (KM.alloc (o := .tup [.int (1 + (i : Nat)), .str y]) k2.tab hT1)
          have eT : upd X1 T1 (.tup [.int (1 + (i : Nat)), .str y]) T1 = some (.tup [.int (1 + (i : Nat)), .str y]) := upd_same
          have eP3 : upd X1 T1 (.tup [.int (1 + (i : Nat)), .str y]) p = some (.lst (rows.map V.str)) := by rw [upd_ne (ne_of_none eP hT1)]; exact eP
          have eV3 : upd X1 T1 (.tup [.int (1 + (i : Nat)), .str y]) D = some (.lst vs) := by rw [upd_ne (ne_of_none eV hT1)]; exact eV
          have rs3 := rs.up up3
          generalize upd X1 T1 (.tup [.int (1 + (i : Nat)), .str y]) = X3 at k3 eT eP3 eV3 rs3 ⊢
          refine ⟨T1, _, rfl, SqT.of eT, rfl, _, _, rfl, _, _, rfl, rfl, ?_⟩
          simp only [List.set_cons_succ, List.set_cons_zero]
          refine ⟨(), rfl, _, rfl, y, rfl, wy, k3.tab, fun hn H4 k4 => ?_, fun ps hs t H4 ht k4 et => ?_⟩
          · have es : scan i (y :: rows.drop (i + 1)) = .inl (i + 1) := by
              unfold scan
              rw [hn]
            rw [es] at sc
            refine ⟨_, rfl, rfl, true, rfl, iteT ⟨_, rfl, made_one fun e he => ?_⟩⟩
            have q := ktz (i + 1) sc H4 e (k3.trans k4) he
            rw [show (((i + 1 : Nat) : Nat) : Int) = 1 + (i : Int) by omega] at q
            exact q
          · have n4 := KM.nt k3.tab k4
            refine ⟨_, rfl, rfl, false, rfl, iteF ?_⟩
            refine ⟨_, rfl, .inl ⟨rfl, _, SqL.of (n4 _ _ (by simp) eV3)⟩, _, rfl, D, vs, _, rfl, rfl, n4 _ _ (by simp) eV3, ?_, ?_⟩
            · have : i < rows.length := by simpa using hi
              exact Nat.lt_of_le_of_lt lv (Nat.lt_of_lt_of_le this (small_line (by omega)))
            have up4 : ∀ c xs, H4 c = some (.tup xs) → upd H4 D (.lst (vs ++ [.ref t])) c = some (.tup xs) := fun c xs e => by
              rw [upd_ne (fun q => by rw [q, n4 _ _ (by simp) eV3] at e; cases e)]
              exact e
            refine ⟨_, _, _, vs ++ [.ref t], l0 ++ [ps], rfl, ?_, KM.put tb (k3.trans k4) hD, ?_, upd_same, ?_, ?_⟩
            · have es : scan i (y :: rows.drop (i + 1)) = (match scan (i + 1) (rows.drop (i + 1)) with | .inl e => .inl e | .inr l => .inr (ps :: l)) := by
                rw [scan, hs]
              rw [es] at sc
              rw [sc]
              cases scan (i + 1) (rows.drop (i + 1)) with
              | inl e => rfl
              | inr l =>
                show Sum.inr (l0 ++ (ps :: l)) = Sum.inr (l0 ++ [ps] ++ l)
                rw [List.append_assoc]
                rfl
            · rw [upd_ne nDp.symm]
              exact n4 _ _ (by simp) eP3
            · rw [List.length_append]
              exact Nat.succ_le_succ lv
            · exact ((rs3.up fun c xs e => n4 _ _ (by simp) e).up up4).snoc (up4 _ _ et)
      · rintro σ H2 ⟨u3, u4, u5, vs, l0, rfl, sc, k2, eP, eV, lv, rs⟩
        have len : (rows.map V.str).length = rows.length := List.length_map _
        rw [len, List.drop_eq_nil_of_le (Nat.le_refl _)] at sc
        have sc : scan 0 rows = .inr l0 := by
          rw [sc]
          show Sum.inr (l0 ++ []) = _
          rw [List.append_nil]
        exact ⟨_, rfl, kez l0 sc D H2 vs hD k2 eV rs⟩
    · skip
      refine ⟨_, pss_cons (ps_set (i := 2) sc_read_rows.nd rfl (Or.inl rfl) (pe_lst pa_nil))
      (pss_cons (ps_for (passes_of rfl) rfl (pi_enumS (by rfl) T.enumerate_ (pa_cons (pe_call GrowsX (hr.mono (by decide)) (by rfl) Nrows_of.g Nrows_of.kp Nrows_of.b .nil (passes_call (takes_of rfl rfl rfl rfl) (fun _ _ _ _ h => h)) (pa_cons (pv 0) pa_nil)) pa_nil) (pk_cons pe_int pk_nil)) (pg_tup (by rfl) (pgs_cons (pg_name (i := 3) sc_read_rows.nd rfl (Or.inl rfl)) (pgs_cons (pg_name (i := 4) sc_read_rows.nd rfl (Or.inl rfl)) pgs_nil))) (pss_cons (ps_set (i := 5) sc_read_rows.nd rfl (Or.inl rfl) (pe_callJ HA (hr.mono (by decide)) (i := 1) rfl (.inl rfl) (pa_cons (pv 4) pa_nil)))
          (pss_cons (ps_if (pt_cmpR op_isN (pv 5) pe_non (nomark _)) (pss_one (ps_raise rfl (takes_of rfl rfl rfl rfl) (pmk_oex ENoText.o ENoText.i ENoText.t (ok_NoText ES ENoText) (hr.mono (by decide)) ENoText.b .nil pass0 (by rfl) ENoText.g (pa_cons (pv 3) pa_nil)))) pss_nil)
          (pss_one (ps_expr (pe_bm PySem.F.plainAttrs_list PySem.F.slot_list_append PySem.F.type_list_append mt_append (pv 2) (pa_cons (pv 5) pa_nil)))))))
      (pss_one (ps_ret (pv 2)))), ?_⟩
      refine ⟨Nat.zero_le _, fun D hD => ?_⟩
      refine ⟨_, rfl, v, rfl, ?_, fun z hz => absurd ⟨z, hz⟩ hv, fun no e he => ?_⟩
      · exact th_nt (Nt.alloc hD) th
      have e0 : readV v = .inl 0 := by
        unfold readV
        split
        · rename_i z
          exact absurd ⟨z, rfl⟩ hv
        · rfl
      exact kt 0 e0 _ e (KM.alloc tb hD) he
end
end R7

set_option maxRecDepth 100000
set_option maxHeartbeats 1000000
/-! A for over a list or a tuple, one proof for both. -/
namespace My
open PySem PySem.Spec PyProof.Rows L2 GxR Gd TL
def OneOf (K : PySem.W.Frag) (a : Addr) (H : Hp) (J : It) : Prop := (J = Itl K a ∧ ∃ xs, SqL K H a xs) ∨ (J = Itt K a ∧ ∃ xs, SqT K H a xs)
def iSeq (K : PySem.W.Frag) (t : TE) : TI := fun σ H R => t σ H fun v G => ∃ a J, v = .ref a ∧ OneOf K a G J ∧ R J G
theorem pi_seq {X : Cx} {tg l : Expr} {t : TE} (h : PE X l t) : PI X tg l (iSeq X.K t) := by
  constructor
  intro pins s σ H R I q
  apply thn (h.run pins s σ H _ I q)
  rintro v s1 ⟨x, G, IG, r, a, J, rfl, one, q⟩
  have fresh := Nat.le_refl s1.heap.objs.size
  have f0 : ∀ b ∈ [s1.heap.objs.size], s1.heap.objs.size ≤ b ∧ G b = none := fun b m => by
    rw [List.mem_singleton.mp m]
    exact ⟨fresh, IG.hok.fresh fresh⟩
  cases r
  rcases one with ⟨rfl, xs, hx⟩ | ⟨rfl, xs, hx⟩
  · obtain ⟨_, _, p, _⟩ := IG.list hx
    apply wpAny_pyIter_list p.isList
    exact ⟨_, [_], _, _, G, rfl, IG.kept (t' := s1.toks) (fun b o e => Heap.get?_push_of_some _ e), turn_list a _, ⟨_, Heap.get?_push_size _ rfl, rfl, rfl⟩, fun b m => IG.fpOk (f0 b m).1 (f0 b m).2, q⟩
  · obtain ⟨_, _, p, _⟩ := IG.tuple hx
    apply wpAny_pyIter_tuple (show s1.heap.IsTuple a _ from p)
    exact ⟨_, [_], _, _, G, rfl, IG.kept (t' := s1.toks) (fun b o e => Heap.get?_push_of_some _ e), turn_tuple a _, ⟨_, Heap.get?_push_size _ rfl, rfl, rfl⟩, fun b m => IG.fpOk (f0 b m).1 (f0 b m).2, q⟩
theorem walk_seq {K : PySem.W.Frag} {H : Hp} {a : Addr} {xs : List V} (h : H a = some (.lst xs) ∨ H a = some (.tup xs)) : ∃ J, (∀ G : Hp, G a = H a → OneOf K a G J) ∧ Walk J xs.length (fun G => G a = H a) (YAt xs) := by
  rcases h with h | h
  · exact ⟨_, fun G e => .inl ⟨rfl, xs, SqL.of (e.trans h)⟩, (walk_list (K := K) (a := a) (xs := xs)).mono (fun G e => SqL.of (e.trans h)) fun _ _ _ _ _ _ y => y⟩
  · exact ⟨_, fun G e => .inr ⟨rfl, xs, SqT.of (e.trans h)⟩, (walk_tup (K := K) (a := a) (xs := xs)).mono (fun G e => SqT.of (e.trans h)) fun _ _ _ _ _ _ y => y⟩
theorem same_at {H H' : Hp} {a : Addr} {xs : List V} (s : Same H H') (h : H a = some (.lst xs) ∨ H a = some (.tup xs)) : H' a = H a := by
  rcases h with h | h <;> rw [h, s _ _ h]
end My

set_option maxRecDepth 100000
set_option maxHeartbeats 800000
namespace R7
open PySem PySem.Spec PyProof.Rows L2 GxR Gd TL My
theorem Runs.at {H : Hp} {vs : List V} {l : List (List Pa)} (h : Runs H vs l) : ∀ {i : Nat} {v : V}, vs[i]? = some v → ∃ c ps, v = .ref c ∧ l[i]? = some ps ∧ H c = some (.tup (ps.map Pa.v)) := by
  induction h with
  | nil => intro i v e; simp at e
  | @cons c ps vs l e _ ih =>
    intro i v hv
    cases i with
    | zero =>
      have hv : V.ref c = v := by simpa using hv
      exact ⟨c, ps, hv.symm, rfl, e⟩
    | succ i =>
      obtain ⟨c2, ps2, a, b, d⟩ := ih (i := i) (v := v) (by simpa using hv)
      exact ⟨c2, ps2, a, by simpa using b, d⟩
theorem rowT_len {ps : List Pa} (h : okRun ps = true) : (rowT ps).length ≤ 40 := by
  obtain ⟨l5, pis⟩ := okRun_is h
  have s7 := sum_wok (l := ps.map Pa.t) fun z hz => by
    obtain ⟨p, hp, rfl⟩ := List.mem_map.mp hz
    obtain ⟨x, h⟩ := pis p hp
    exact h.wok
  have j := My.join_len (Str.ofString " ") (ps.map Pa.t)
  rw [show (Str.ofString " ").length = 1 by decide +kernel, List.length_map, l5] at j
  rw [List.length_map, l5] at s7
  unfold rowT
  omega
theorem sum_le {m : Nat} : ∀ {l : List Str}, (∀ z ∈ l, z.length ≤ m) → (l.map (·.length)).sum ≤ l.length * m
  | [], _ => Nat.zero_le _
  | z :: l, h => by
    have a := h z (List.mem_cons_self ..)
    have b := sum_le (l := l) fun y hy => h y (List.mem_cons_of_mem _ hy)
    show z.length + (l.map (·.length)).sum ≤ (l.length + 1) * m
    rw [Nat.succ_mul]
    omega
section
variable {P : Program} {w : World} {K : PySem.W.Frag} {mg : Str → Option Value} {base : Heap} {CS CN CT fS fN fT : Addr} {fdS fdN fdT : FuncData} {tR : Tok}
def spTableIn (T : List Addr) (CT : Addr) : Sp := fun vs H Q E => ∃ (v : V), vs = [v] ∧ Th H v ∧ (∀ z, v = .str z → WOk z) ∧ Tabs T H ∧
  (∀ n : Nat, readV v = .inl n → ∀ H' e, KM T H H' → H' e = none → E (.ref CT) (some e) (upd H' e (.xd [("row", .int (n : Nat))]))) ∧
  (∀ l, readV v = .inr l → ∀ t H' vs, H t = none → KM T H H' → H' t = some (.lst vs) → Runs H' vs l → Q (.ref t) H')
theorem ok_table_in {T0 : List Addr} {f f1 fR : Addr} {fd fd1 fdR : FuncData} (F : Fun K "table_in" "table_in" s_table_in f fd) (T : Txt mg) (Nrun_of_row : Fn K mg "_run_of_row" s_run_of_row ["row"] fR fdR)
    (Nread_rows : Fn K mg "read_rows" s_read_rows ["text", "read"] f1 fd1) (GrrX : FnOk P w K mg base (CX P w) 9 f1 fd1 ["text", "read"] (spReadRows T0 CT fR)) :
    FnOk P w K mg base (CX P w) 10 f fd ["text"] (spTableIn T0 CT) := by
  refine F.okX sc_table_in (fun vs H Q E h => ?_) (fun cdv A outer s H vs Q E hr h => ?_)
  · obtain ⟨v, rfl, _⟩ := h
    rfl
  · obtain ⟨v, rfl, th, wk, tb, kt, ke⟩ := h
    refine ⟨_, pss_one (ps_ret (pe_call GrrX (hr.mono (by decide)) (by rfl) Nread_rows.g Nread_rows.kp Nread_rows.b .nil (passes_call (takes_of rfl rfl rfl rfl) (fun _ _ _ _ h => h)) (pa_cons (pv 0) (pa_cons (pe_glob (v := .ref _) (by rfl) Nrun_of_row.g rfl) pa_nil)))), ?_⟩
    exact ⟨_, rfl, v, rfl, th, wk, tb, kt, ke⟩
/-- table_text of a list or a tuple of runs -/
def spTableText (K : PySem.W.Frag) : Sp := fun vs H Q _ => ∃ (a : Addr) (vs0 : List V) (l : List (List Pa)), vs = [.ref a] ∧ (H a = some (.lst vs0) ∨ H a = some (.tup vs0)) ∧ Runs H vs0 l ∧ (∀ ps ∈ l, okRun ps = true) ∧ l.length ≤ 100 ∧ ∀ H', Same H H' → Q (.str (Txt.join (Str.ofString "\n") (l.map rowT))) H'
theorem ok_table_text {f f1 : Addr} {fd fd1 : FuncData} (F : Fun K "table_text" "table_text" s_table_text f fd) (T : Txt mg) (gRUN : mg "RUN" = some (.str runF tR))
    (Nwrite_row : Fn K mg "write_row" s_write_row ["form", "parts"] f1 fd1) (Gwrite_row : FnOk P w K mg base CX0 1 f1 fd1 ["form", "parts"] (spWrite K)) :
    FnOk P w K mg base CX0 2 f fd ["runs"] (spTableText K) := by
  refine F.ok sc_table_text (fun vs H Q E h => ?_) (fun cdv A outer s H vs Q E hr h => ?_)
  · obtain ⟨a, vs0, l, rfl, _⟩ := h
    rfl
  · obtain ⟨a, vs0, l, rfl, ha, rs, ok, l1, k⟩ := h
    refine ⟨_, pss_one (ps_ret (pe_join pe_str (pe_lc (own := [("run", 1)]) (g := gName 1) (tt := tYes) rfl sc_table_text.nd (pi_seq (pv 0)) (blkOk_by (own := [("run", 1)]) (N := ["runs", "run"]) (sc := defScope s_table_text) (by decide +kernel)) (fun _ _ _ _ _ => (pg_name (i := 1) sc_table_text.nd rfl (Or.inl rfl))) (fun _ _ _ _ _ => pts_nil) (fun _ _ _ _ _ => (pe_call Gwrite_row (hr.mono (by decide)) (by rfl) Nwrite_row.g Nwrite_row.kp Nwrite_row.b .nil pass0 (pa_cons (pe_glob (v := .str runF) (by rfl) gRUN ⟨_, rfl⟩) (pa_cons (pv 1) pa_nil))))))), ?_⟩
    obtain ⟨J, one, wJ⟩ := walk_seq (K := K) ha
    have ln := rs.len
    refine ⟨⟨_, rfl⟩, _, rfl, a, J, rfl, one H rfl, fun D hD => strs_it wJ (out := l.map rowT) (by rw [List.length_map, ln]) (by rw [List.length_map]; exact l1) hD (fun H' kb => ?_) ?_ ?_⟩
    · rcases ha with e | e
      · rw [e]; exact kb a _ (ne_of_none e hD) e
      · rw [e]; exact kb a _ (ne_of_none e hD) e
    · intro i v H' C B hv kb hC
      obtain ⟨c, ps, rfl, hl, hc⟩ := rs.at hv
      refine ⟨rfl, lcY ?_⟩
      refine ⟨_, rfl, c, ps, rfl, ok ps (List.mem_of_getElem? hl), SqT.of (kb _ _ (ne_of_none hc hD) hc), fun H4 s => hC _ _ (by rw [List.getElem?_map, hl]; rfl) s⟩
    · intro H' kb eD
      have wk : ∀ z ∈ l.map rowT, z.length ≤ 40 := fun z hz => by
        obtain ⟨ps, hp, rfl⟩ := List.mem_map.mp hz
        exact rowT_len (ok ps hp)
      have s40 := sum_le wk
      rw [List.length_map] at s40
      refine ⟨_, D, l.map rowT, rfl, rfl, .inl (SqL.of eD), ?_, k _ (KB.same hD kb)⟩
      rw [List.length_map, show (Str.ofString "\n").length = 1 by decide +kernel]
      omega
abbrev s_law_caught : Stmt := top 44
theorem sc_law_caught : FnScope ["_law_text", "e"] ["_law_text"] (defScope s_law_caught) := ⟨rfl, rfl, rfl, by decide +kernel, rfl, by decide +kernel, by decide +kernel⟩
end
end R7

set_option maxRecDepth 100000
set_option maxHeartbeats 800000
namespace R7
open PySem PySem.Spec PyProof.Rows L2 GxR Gd TL My
theorem passS0 {X : Cx} (σ : L2.St) : PassesAt CX0 X σ E0 := fun _ _ _ _ _ _ h => False.elim h
section
variable {P : Program} {w : World} {K : PySem.W.Frag} {mg : Str → Option Value} {base : Heap} {CS CN CT fS fN fT : Addr} {fdS fdN fdT : FuncData} {tR : Tok}
def spCaught (T : List Addr) : Sp := fun vs H Q _ => ∃ (v : V), vs = [v] ∧ Th H v ∧ (∀ z, v = .str z → WOk z) ∧ Tabs T H ∧
  (∀ n : Nat, readV v = .inl n → ∀ p H', H p = none → KM T H H' → H' p = some (.tup [.str "text", .int (n : Nat)]) → Q (.ref p) H') ∧
  (∀ l, readV v = .inr l → ∀ p t H' vs, H p = none → H t = none → KM T H H' → H' p = some (.tup [.str "told", .ref t]) → H' t = some (.lst vs) → Runs H' vs l → Q (.ref p) H')
theorem ok_caught {T0 : List Addr} {f f1 : Addr} {fd fd1 : FuncData} (F : Fun K "_law_caught" "_law_caught" s_law_caught f fd) (T : Txt mg) (ES : SeT K mg CS fS fdS sSE)
    (ENoText : ExR K mg "NoText" "NoText.__init__" sNoText CT fT fdT) (ENoRun : ExC K mg "NoRun" "NoRun.__init__" sNoRun CN fN fdN)
    (Ntable_in : Fn K mg "table_in" s_table_in ["text"] f1 fd1) (Gtable_in : FnOk P w K mg base (CX P w) 10 f1 fd1 ["text"] (spTableIn T0 CT)) :
    FnOk P w K mg base CX0 11 f fd ["_law_text"] (spCaught T0) := by
  refine F.ok sc_law_caught (fun vs H Q E h => ?_) (fun cdv A outer s H vs Q E hr h => ?_)
  · obtain ⟨v, rfl, _⟩ := h
    rfl
  · obtain ⟨v, rfl, th, wk, tb, kt, ke⟩ := h
    refine ⟨_, pss_one (ps_try_cl rfl rfl sc_law_caught.nd takes_never (.named (i := 1) (ts := fun a cls d => _) ⟨by rfl, by decide, .inl ENoText.g⟩ rfl (by rfl) (fun a oe cls d pn hz hf => (pss_one (ps_ret (pe_tup (pa_cons pe_str (pa_cons (pe_xf ENoText.x ENoText.n hz hf (pv 1)) pa_nil)))))) (.plain (ts := fun a cls d => _) ⟨by rfl, by decide, .inl ENoRun.g⟩ (fun a oe cls d pn hz hf => (pss_one (ps_ret (pe_tup (pa_cons pe_str (pa_cons pe_int pa_nil)))))) (.plain (ts := fun a cls d => _) ⟨by rfl, by decide, .inl ES.g⟩ (fun a oe cls d pn hz hf => (pss_one (ps_ret (pe_tup (pa_cons pe_str (pa_cons pe_int pa_nil)))))) .nil))) (fun W pn xe tk _ => (pss_one (ps_ret (pe_tup (pa_cons pe_str (pa_cons (pe_callS Gtable_in (hr.mono (by decide)) (by rfl) Ntable_in.g Ntable_in.kp Ntable_in.b (fun σ => passAt tk σ) (pa_cons (pv 0) pa_nil)) pa_nil))))))), ?_⟩
    refine ⟨_, rfl, v, rfl, th, wk, tb, fun n hn H' e km he => ?_, fun l hl t H' vs ht km et rs => ?_⟩
    · refine ⟨true, ENoText.e, fun _ y hy => ?_, nofun⟩
      refine ⟨_, rfl, rfl, rfl, e, _, _, rfl, upd_same, rfl, two_line, fun u hu => ?_⟩
      have k2 := km.trans (KM.alloc (o := .xd [("row", .int (n : Nat))]) km.tab he)
      exact kt n hn u _ (k2.none (fun hm => by obtain ⟨ps', q, _⟩ := k2.tab u hm; rw [hu] at q; cases q) hu) (k2.trans (KM.alloc k2.tab hu)) upd_same
    · refine ⟨two_line, fun p hp => ?_⟩
      have n2 : Nt H' (upd H' p (.tup [.str (Str.ofString "told"), .ref t])) := Nt.alloc hp
      exact ke l hl p t _ vs (km.none (fun hm => by obtain ⟨ps', q, _⟩ := km.tab p hm; rw [hp] at q; cases q) hp) ht (km.trans (KM.alloc km.tab hp)) upd_same (n2 _ _ (by simp) et) (rs.up fun c xs q => n2 _ _ (by simp) q)
end
end R7

set_option maxRecDepth 100000
set_option maxHeartbeats 4000000
namespace R7
open PySem PySem.Spec PyProof.Rows L2 GxR Gd TL My
theorem range_snoc (f : Nat → Str) (i : Nat) : ((List.range (i + 1)).map f).map V.str = ((List.range i).map f).map V.str ++ [V.str (f i)] := by
  rw [List.range_succ, List.map_append, List.map_append]
  rfl
theorem cmul {m : Nat} (i : Nat) (h : i < m) (hm : m ≤ 7) : CMul 5 (0 + (i : Int)) := .inl ⟨by decide, by decide⟩
theorem cmul7 (i : Nat) : CMul 7 (0 + (i : Int)) := .inl ⟨by decide, by decide⟩
theorem atI_map {α β : Type} {f : α → β} {xs : List α} {i : Int} {v : α} (h : atI xs i = some v) : atI (xs.map f) i = some (f v) := by
  unfold atI at h ⊢
  rw [List.length_map]
  cases e : ixN xs.length i with
  | none => rw [e] at h; cases h
  | some j =>
    rw [e] at h
    show (xs.map f)[j]? = _
    rw [List.getElem?_map, show xs[j]? = some v from h]
    rfl
section
variable {P : Program} {w : World} {K : PySem.W.Frag} {mg : Str → Option Value} {base : Heap}
abbrev s_law_names : Stmt := top 34
theorem sc_law_names : FnScope ["_law_box_here", "_law_many", "_law_letters", "_law_words", "_law_way", "_law_first", "_law_stem", "_law_at", "_law_k"] ["_law_box_here", "_law_many"] (defScope s_law_names) := ⟨rfl, rfl, rfl, by decide +kernel, rfl, by decide +kernel, by decide +kernel⟩
def spNames : Sp := fun vs H Q _ => ∃ (b : Addr) (m : Nat) (n : Int), vs = [.ref b, .int (m : Nat)] ∧ Bx b n H ∧ n ≤ 90000 ∧ m ≤ 7 ∧
  ∀ (ns : List Str) (a : Addr) (H' : Hp), KB b H H' → Bx b (n + 20) H' → H' a = some (.lst (ns.map V.str)) → ns.length = m → Nms ns → Q (.ref a) H'
theorem ok_names {f fT : Addr} {fd fdT : FuncData} (F : Fun K "_law_names" "_law_names" s_law_names f fd) (T : Txt mg)
    (Nlaw_take : Fn K mg "_law_take" sTake ["_law_box_here", "_law_many"] fT fdT) (Glaw_take : FnOk P w K mg base CX0 1 fT fdT ["_law_box_here", "_law_many"] spTake) :
    FnOk P w K mg base CX0 2 f fd ["_law_box_here", "_law_many"] spNames := by
  refine F.ok sc_law_names (fun vs H Q E h => ?_) (fun cdv A outer s H vs Q E hr h => ?_)
  · obtain ⟨b, m, n, rfl, _⟩ := h
    rfl
  · obtain ⟨b, m, n, rfl, hB, hn, hm, k⟩ := h
    refine ⟨_, pss_cons (ps_set (i := 2) sc_law_names.nd rfl (Or.inr rfl) pe_str)
      (pss_cons (ps_set (i := 3) sc_law_names.nd rfl (Or.inr rfl) (pe_lst (pa_cons pe_str (pa_cons pe_str (pa_cons pe_str (pa_cons pe_str (pa_cons pe_str (pa_cons pe_str (pa_cons pe_str (pa_cons pe_str (pa_cons pe_str (pa_cons pe_str (pa_cons pe_str (pa_cons pe_str (pa_cons pe_str pa_nil)))))))))))))))
      (pss_cons (ps_set (i := 4) sc_law_names.nd rfl (Or.inl rfl) (pe_call Glaw_take (hr.mono (by decide)) (by rfl) Nlaw_take.g Nlaw_take.kp Nlaw_take.b .nil pass0 (pa_cons (pv 0) (pa_cons pe_int pa_nil))))
      (pss_cons (ps_set (i := 5) sc_law_names.nd rfl (Or.inr rfl) (pe_call Glaw_take (hr.mono (by decide)) (by rfl) Nlaw_take.g Nlaw_take.kp Nlaw_take.b .nil pass0 (pa_cons (pv 0) (pa_cons pe_int pa_nil))))
      (pss_cons (ps_if (pt_cmpR op_eq (pv 4) pe_int (nomark _)) (pss_one (ps_ret (pe_lc (own := [("_law_k", 8)]) (g := gName 8) (tt := tYes) rfl sc_law_names.nd (pi_range1 (by rfl) T.range_ (pa_cons (pv 1) pa_nil)) (blkOk_by (own := [("_law_k", 8)]) (N := ["_law_box_here", "_law_many", "_law_letters", "_law_words", "_law_way", "_law_first", "_law_stem", "_law_at", "_law_k"]) (sc := defScope s_law_names) (by decide +kernel)) (fun _ _ _ _ _ => (pg_name (i := 8) sc_law_names.nd rfl (Or.inl rfl))) (fun _ _ _ _ _ => pts_nil) (fun _ _ _ _ _ => (pe_ix (ixL (K := K) rfl) (pv 3) (pe_op op_mod (pe_op op_add (pv 5) (pe_op op_mul pe_int (pv 8))) pe_int) (fun _ _ => rfl)))))) pss_nil)
      (pss_cons (ps_set (i := 6) sc_law_names.nd rfl (Or.inr rfl) (pe_join pe_str (pe_lc (own := [("_law_k", 8)]) (g := gName 8) (tt := tYes) rfl sc_law_names.nd (pi_range1 (by rfl) T.range_ (pa_cons pe_int pa_nil)) (blkOk_by (own := [("_law_k", 8)]) (N := ["_law_box_here", "_law_many", "_law_letters", "_law_words", "_law_way", "_law_first", "_law_stem", "_law_at", "_law_k"]) (sc := defScope s_law_names) (by decide +kernel)) (fun _ _ _ _ _ => (pg_name (i := 8) sc_law_names.nd rfl (Or.inl rfl))) (fun _ _ _ _ _ => pts_nil) (fun _ _ _ _ _ => (pe_ix ix_str (pv 2) (pe_call Glaw_take (hr.mono (by decide)) (by rfl) Nlaw_take.g Nlaw_take.kp Nlaw_take.b .nil pass0 (pa_cons (pv 0) (pa_cons pe_int pa_nil))) (fun _ _ => rfl))))))
      (pss_cons (ps_if (PW.pt (pw_and (pt_cmpR op_eq (pv 4) pe_int (nomark _)) (pw_and1 (pt_cmpR op_lt (pv 1) pe_int (nomark _))))) (pss_one (ps_ret (pe_lc (own := [("_law_k", 8)]) (g := gName 8) (tt := tYes) rfl sc_law_names.nd (pi_range1 (by rfl) T.range_ (pa_cons (pv 1) pa_nil)) (blkOk_by (own := [("_law_k", 8)]) (N := ["_law_box_here", "_law_many", "_law_letters", "_law_words", "_law_way", "_law_first", "_law_stem", "_law_at", "_law_k"]) (sc := defScope s_law_names) (by decide +kernel)) (fun _ _ _ _ _ => (pg_name (i := 8) sc_law_names.nd rfl (Or.inl rfl))) (fun _ _ _ _ _ => pts_nil) (fun _ _ _ _ _ => (pe_slice sl_str (pv 6) po_none (po_some (pe_op op_add pe_int (pe_op op_mod (pe_op op_add (pv 5) (pe_op op_mul pe_int (pv 8))) pe_int)))))))) pss_nil)
      (pss_cons (ps_set (i := 7) sc_law_names.nd rfl (Or.inr rfl) (pe_call Glaw_take (hr.mono (by decide)) (by rfl) Nlaw_take.g Nlaw_take.kp Nlaw_take.b .nil pass0 (pa_cons (pv 0) (pa_cons pe_int pa_nil))))
      (pss_one (ps_ret (pe_lc (own := [("_law_k", 8)]) (g := gName 8) (tt := tYes) rfl sc_law_names.nd (pi_range1 (by rfl) T.range_ (pa_cons (pv 1) pa_nil)) (blkOk_by (own := [("_law_k", 8)]) (N := ["_law_box_here", "_law_many", "_law_letters", "_law_words", "_law_way", "_law_first", "_law_stem", "_law_at", "_law_k"]) (sc := defScope s_law_names) (by decide +kernel)) (fun _ _ _ _ _ => (pg_name (i := 8) sc_law_names.nd rfl (Or.inl rfl))) (fun _ _ _ _ _ => pts_nil) (fun _ _ _ _ _ => (pe_op op_add_str (pe_op op_add_str (pe_slice sl_str (pv 6) po_none (po_some (pv 7))) (pe_ix ix_str (pv 2) (pe_op op_mod (pe_op op_add (pv 5) (pe_op op_mul pe_int (pv 8))) pe_int) (fun _ _ => rfl))) (pe_slice sl_str (pv 6) (po_some (pv 7)) (po_some (pe_op op_add (pv 7) (pe_op op_mod (pe_op op_add (pv 5) (pv 8)) (pe_op op_sub pe_int (pv 7)))))))))))))))))), ?_⟩
    refine ⟨(by show 13 ≤ sizeLine; decide), fun L hL => ?_⟩
    have k0 : KB b H _ := KB.alloc (o := .lst [.str "place", .str "staff", .str "ticket", .str "low", .str "high", .str "long", .str "pilot", .str "train", .str "at", .str "to", .str "in", .str "get", .str "a"]) hL
    have B0 := hB.alloc (o := .lst [.str "place", .str "staff", .str "ticket", .str "low", .str "high", .str "long", .str "pilot", .str "train", .str "at", .str "to", .str "in", .str "get", .str "a"]) hL
    have nLb : L ≠ b := hB.fresh hL
    have hW : (upd H L (.lst [.str "place", .str "staff", .str "ticket", .str "low", .str "high", .str "long", .str "pilot", .str "train", .str "at", .str "to", .str "in", .str "get", .str "a"])) L = some (.lst (wds.map V.str)) := upd_same
    generalize upd H L (.lst [.str "place", .str "staff", .str "ticket", .str "low", .str "high", .str "long", .str "pilot", .str "train", .str "at", .str "to", .str "in", .str "get", .str "a"]) = H0 at k0 B0 hW ⊢
    refine ⟨_, rfl, b, 4, n, rfl, B0, by omega, by decide, by decide, fun way H1 w0 w1 off1 B1 => ?_⟩
    refine ⟨_, rfl, b, 26, n + 1, rfl, B1, by omega, by decide, by decide, fun a H2 a0 a1 off2 B2 => ?_⟩
    have k2 : KB b H H2 := (k0.trans (KB.off off1)).trans (KB.off off2)
    have hW2 : H2 L = some (.lst (wds.map V.str)) := by rw [off2 L nLb, off1 L nLb]; exact hW
    clear hW k0 B0 B1 off1 off2
    refine ⟨_, rfl, rfl, _, rfl, ite2 (fun c => ?_) (fun c => ?_)⟩
    · refine ⟨_, rfl, m, rfl, by omega, by omega, fun D hD => ?_⟩
      have nD : L ≠ D := ne_of_none hW2 hD
      refine lc_range (lo := 0) (n := m) (fun i H' => H' = upd H2 D (.lst (((List.range i).map (nm0 a)).map V.str))) rfl ?_ ?_
      · rintro i H' hi rfl
        refine ⟨rfl, lcY ?_⟩
        refine ⟨_, rfl, _, rfl, _, rfl, _, _, rfl, rfl, cmul i hi hm, _, _, rfl, rfl, _, _, rfl, rfl, (by show (0 : Int) < 13; decide), L, wds.map V.str, _, .str (nm0 a i), rfl, rfl, SqL.of (by rw [upd_ne nD]; exact hW2), ?_, _, upd_same, ?_, ?_⟩
        · rw [Int.zero_add]
          exact atI_map (nm0_at a i)
        · rw [List.length_map, List.length_map, List.length_range]
          exact lt_line i (by omega)
        · rw [upd_upd, range_snoc]
      · rintro H' rfl
        exact k _ D _ (k2.trans (KB.alloc hD)) ((B2.alloc hD).mono (by omega)) upd_same (by simp) (nm0_ok a m hm)
    · clear c
      refine ⟨⟨_, rfl⟩, 6, rfl, by decide, by decide, fun D hD => ?_⟩
      have nDb : D ≠ b := B2.fresh hD
      refine lc_range (lo := 0) (n := 6) (fun i H' => ∃ cs : List Nat, H' D = some (.lst ((cs.map fun c => (⟨#[c]⟩ : Str)).map V.str)) ∧ cs.length = i ∧ (∀ c ∈ cs, lc c = true) ∧ KB b H2 H' ∧ Bx b (n + 2 + i) H')
        ⟨[], upd_same, rfl, by simp, KB.alloc hD, (B2.alloc hD).mono (by simp; omega)⟩ ?_ ?_
      · rintro i H3 hi ⟨cs, hz, hl, h1, k3, B3⟩
        refine ⟨rfl, lcY ?_⟩
        refine ⟨_, rfl, _, rfl, b, 26, n + 2 + i, rfl, B3, by omega, by decide, by decide, fun d' H4 e0 e1 off4 B4 => ?_⟩
        have hz4 : H4 D = some (.lst ((cs.map fun c => (⟨#[c]⟩ : Str)).map V.str)) := by rw [off4 D nDb]; exact hz
        refine ⟨_, d', 97 + d'.toNat, rfl, rfl, by decide +kernel, abc_at e0 e1, _, hz4, ?_, cs ++ [97 + d'.toNat], ?_, ?_, ?_, ?_, ?_⟩
        · rw [List.length_map, List.length_map, hl]
          exact lt_line i (by omega)
        · rw [upd_same, List.map_append, List.map_append]
          rfl
        · rw [List.length_append, hl]
          rfl
        · intro z hz
          rcases List.mem_append.mp hz with q | q
          · exact h1 z q
          · rw [List.mem_singleton.mp q]
            unfold lc
            rw [Bool.and_eq_true, decide_eq_true_eq, decide_eq_true_eq]
            omega
        · intro c o nc e
          rw [upd_ne (ne_of_none e hD)]
          exact (k3.trans (KB.off off4)) c o nc e
        · exact (B4.put nDb).mono (by push_cast; omega)
      · rintro H3 ⟨cs, hz, hl, h1, k3, B3⟩
        have et := tl_ones cs
        have jl : (Txt.join (Str.ofString "") (cs.map fun c => (⟨#[c]⟩ : Str))).length = 6 := by rw [← tl_len, et, hl]
        have hS : Stem (Txt.join (Str.ofString "") (cs.map fun c => (⟨#[c]⟩ : Str))) := ⟨by rw [et, hl], by rw [et]; exact h1⟩
        refine ⟨_, D, _, rfl, rfl, .inl (SqL.of hz), ?_, ?_⟩
        · have e0 : (Str.ofString "").length = 0 := by decide +kernel
          have hs := sum_ones (cs.map fun c => (⟨#[c]⟩ : Str)) (fun z hz => by obtain ⟨c, _, rfl⟩ := List.mem_map.mp hz; exact Nat.le_refl 1)
          rw [List.length_map] at hs
          rw [e0]
          omega
        generalize Txt.join (Str.ofString "") (cs.map fun c => (⟨#[c]⟩ : Str)) = st at hS jl ⊢
        have hW3 : H3 L = some (.lst (wds.map V.str)) := k3 L _ nLb hW2
        have kH := k2.trans k3
        clear hz et h1 k3
        have w2 : ∀ t : Int, 0 ≤ t → t < 6 → ∀ H4, (∀ a, a ≠ b → H4 a = H3 a) → Bx b (n + 2 + 6 + 1) H4 → tRet (tLc (iRng1 (tCons (tVar 1) tNil)) (gName 8) tYes
            (tOp (fun x y H Q => ∃ i j, x = V.str i ∧ y = V.str j ∧ i.length + j.length ≤ sizeLine ∧ Q (V.str (i ++ j)) H)
              (tOp (fun x y H Q => ∃ i j, x = V.str i ∧ y = V.str j ∧ i.length + j.length ≤ sizeLine ∧ Q (V.str (i ++ j)) H) (tSl rSlS (tVar 6) tNoPart (tPart (tVar 7)))
                (tOp rIxS (tVar 2) (tOp (rI (fun x j => 0 < j) fun i j => V.int (i % j)) (tOp (rI0 fun i j => V.int (i + j)) (tVar 5) (tOp (rI CMul fun i j => V.int (i * j)) (tC (V.int 7)) (tVar 8))) (tC (V.int 26)))))
              (tSl rSlS (tVar 6) (tPart (tVar 7)) (tPart (tOp (rI0 fun i j => V.int (i + j)) (tVar 7) (tOp (rI (fun x j => 0 < j) fun i j => V.int (i % j)) (tOp (rI0 fun i j => V.int (i + j)) (tVar 5) (tVar 8)) (tOp (rI0 fun i j => V.int (i - j)) (tC (V.int 6)) (tVar 7)))))))
            [8]) { nx := fun x H' => Q V.non H', rt := Q } [some (.ref b), some (.int (m : Nat)), some (.str abc), some (.ref L), some (.int way), some (.int a), some (.str st), some (.int t), none] H4 := by
          intro t t0 t6 H4 off4 B4
          refine ⟨_, rfl, m, rfl, by omega, by omega, fun D2 hD2 => ?_⟩
          refine lc_range (lo := 0) (n := m) (fun i H' => H' = upd H4 D2 (.lst (((List.range i).map (nm2 st a t)).map V.str))) rfl ?_ ?_
          · rintro i H' hi rfl
            refine ⟨rfl, lcY ?_⟩
            refine ⟨_, rfl, _, rfl, _, rfl, st, rfl, (by rw [jl]; decide), _, rfl, _, rfl, _, rfl, _, _, rfl, rfl, cmul7 i, _, _, rfl, rfl, _, _, rfl, rfl, (by show (0 : Int) < 26; decide), abc, _, lt1 a i, rfl, rfl, by decide +kernel, ?_, _, _, rfl, rfl, ?_,
              _, rfl, _, rfl, _, rfl, _, rfl, _, rfl, _, rfl, _, _, rfl, rfl, _, rfl, _, _, rfl, rfl, _, _, rfl, rfl, (by show (0 : Int) < 6 - t; omega), _, _, rfl, rfl, _, rfl, st, rfl, (by rw [jl]; decide), _, _, rfl, rfl, ?_, _, upd_same, ?_, ?_⟩
            · rw [Int.zero_add]
              exact lt1_at a i
            · have := cutS_length st none (some t)
              rw [jl] at this
              exact Nat.le_trans (Nat.add_le_add this (Nat.le_refl 1)) (by decide)
            · have q1 := cutS_length st none (some t)
              have q2 := cutS_length st (some t) (some (t + (a + (0 + (i : Int))) % (6 - t)))
              rw [jl] at q1 q2
              rw [← tl_len, tl_append, List.length_append, tl_len]
              exact Nat.le_trans (Nat.add_le_add (Nat.add_le_add q1 (Nat.le_refl 1)) q2) (by decide)
            · rw [List.length_map, List.length_map, List.length_range]
              exact lt_line i (by omega)
            · rw [upd_upd, range_snoc]
              unfold nm2
              rw [Int.zero_add]
          · rintro H' rfl
            exact k _ D2 _ ((kH.trans (KB.off off4)).trans (KB.alloc hD2)) ((B4.alloc hD2).mono (by omega)) upd_same (by simp) (nm2_ok hS a t t0 t6 m hm)
        refine ⟨_, rfl, rfl, _, rfl, ite2 (fun c1 => ⟨_, rfl, _, _, rfl, rfl, _, rfl, ite2 (fun c2 => ?_) (fun c2 => ?_)⟩) (fun c1 => iteF ?_)⟩
        · have c2' : (m : Int) < 7 := of_decide_eq_true c2
          refine ⟨_, rfl, m, rfl, by omega, by omega, fun D2 hD2 => ?_⟩
          refine lc_range (lo := 0) (n := m) (fun i H' => H' = upd H3 D2 (.lst (((List.range i).map (nm1 st a)).map V.str))) rfl ?_ ?_
          · rintro i H' hi rfl
            refine ⟨rfl, lcY ?_⟩
            refine ⟨_, rfl, _, rfl, _, rfl, _, _, rfl, rfl, cmul i hi hm, _, _, rfl, rfl, _, _, rfl, rfl, (by show (0 : Int) < 6; decide), _, _, rfl, rfl, _, rfl, st, rfl, (by rw [jl]; decide), _, upd_same, ?_, ?_⟩
            · rw [List.length_map, List.length_map, List.length_range]
              exact lt_line i (by omega)
            · rw [upd_upd, range_snoc]
              unfold nm1
              rw [Int.zero_add]
          · rintro H' rfl
            exact k _ D2 _ (kH.trans (KB.alloc hD2)) ((B3.alloc hD2).mono (by omega)) upd_same (by simp) (nm1_ok hS a m (by omega))
        · exact ⟨_, rfl, b, 6, n + 2 + 6, rfl, B3, by omega, by decide, by decide, fun t H4 t0 t6 off4 B4 => w2 t t0 t6 H4 off4 B4⟩
        · exact ⟨_, rfl, b, 6, n + 2 + 6, rfl, B3, by omega, by decide, by decide, fun t H4 t0 t6 off4 B4 => w2 t t0 t6 H4 off4 B4⟩
end
end R7

set_option maxRecDepth 100000
set_option maxHeartbeats 800000
namespace R7
open PySem PySem.Spec PyProof.Rows L2 GxR Gd TL My
theorem run_shape {ps : List Pa} (h : okRun ps = true) : ∃ (a b c : Str) (i j : Int), ps = [.s a, .s b, .s c, .n i, .n j] ∧ NameOk a ∧ NameOk b ∧ NameOk c ∧ (0 ≤ i ∧ i ≤ 9999) ∧ (0 ≤ j ∧ j ≤ 9999) := by
  have h' := h
  unfold okRun at h
  rw [Bool.and_eq_true] at h
  have l5 : ps.length = 5 := eq_of_beq h.1
  match ps, l5 with
  | [p0, p1, p2, p3, p4], _ =>
    have al := h.2
    simp only [runS, List.zip_cons_cons, List.zip_nil_right, List.all_cons, List.all_nil, Bool.and_true, Bool.and_eq_true] at al
    obtain ⟨h0, h1, h2, h3, h4⟩ := al
    have h0 := okB_iff.mp h0
    have h1 := okB_iff.mp h1
    have h2 := okB_iff.mp h2
    have h3 := okB_iff.mp h3
    have h4 := okB_iff.mp h4
    cases h0 with
    | name a ha =>
      cases h1 with
      | name b hb =>
        cases h2 with
        | name c hc =>
          cases h3 with
          | time i i0 i1 =>
            cases h4 with
            | time j j0 j1 => exact ⟨a, b, c, i, j, rfl, ha, hb, hc, ⟨i0, i1⟩, ⟨j0, j1⟩⟩
theorem run_made {a b c : Str} {i j : Int} (ha : NameOk a) (hb : NameOk b) (hc : NameOk c) (hi : 0 ≤ i ∧ i ≤ 9999) (hj : 0 ≤ j ∧ j ≤ 9999) : okRun [.s a, .s b, .s c, .n i, .n j] = true := by
  unfold okRun
  simp only [runS, List.zip_cons_cons, List.zip_nil_right, List.all_cons, List.all_nil, Bool.and_true, Bool.and_eq_true, List.length_cons, List.length_nil]
  exact ⟨rfl, okB_iff.mpr (.name a ha), okB_iff.mpr (.name b hb), okB_iff.mpr (.name c hc), okB_iff.mpr (.time i hi.1 hi.2), okB_iff.mpr (.time j hj.1 hj.2)⟩
section
variable {P : Program} {w : World} {K : PySem.W.Frag} {mg : Str → Option Value} {base : Heap}
abbrev s_law_time : Stmt := top 36
theorem sc_law_time : FnScope ["_law_box_here"] ["_law_box_here"] (defScope s_law_time) := ⟨rfl, rfl, rfl, by decide +kernel, rfl, by decide +kernel, by decide +kernel⟩
abbrev s_law_runs : Stmt := top 37
theorem sc_law_runs : FnScope ["_law_box_here", "_law_names_here", "_law_found", "_law_turn", "_law_some", "_law_k"] ["_law_box_here"] (defScope s_law_runs) := ⟨rfl, rfl, rfl, by decide +kernel, rfl, by decide +kernel, by decide +kernel⟩
abbrev s_law_row : Stmt := top 38
theorem sc_law_row : FnScope ["_law_run"] ["_law_run"] (defScope s_law_row) := ⟨rfl, rfl, rfl, by decide +kernel, rfl, by decide +kernel, by decide +kernel⟩
def spTime : Sp := fun vs H Q _ => ∃ (b : Addr) (n : Int), vs = [.ref b] ∧ Bx b n H ∧ n ≤ 90000 ∧ ∀ (i : Int) (H' : Hp), 0 ≤ i → i ≤ 9999 → KB b H H' → Bx b (n + 3) H' → Q (.int i) H'
theorem ok_time {f fT : Addr} {fd fdT : FuncData} (F : Fun K "_law_time" "_law_time" s_law_time f fd) (T : Txt mg)
    (Nlaw_take : Fn K mg "_law_take" sTake ["_law_box_here", "_law_many"] fT fdT) (Glaw_take : FnOk P w K mg base CX0 1 fT fdT ["_law_box_here", "_law_many"] spTake) :
    FnOk P w K mg base CX0 2 f fd ["_law_box_here"] spTime := by
  refine F.ok sc_law_time (fun vs H Q E h => ?_) (fun cdv A outer s H vs Q E hr h => ?_)
  · obtain ⟨b, n, rfl, _⟩ := h
    rfl
  · obtain ⟨b, n, rfl, hB, hn, k⟩ := h
    refine ⟨_, pss_one (ps_ret (pe_ix ix_list (pe_lst (pa_cons pe_int (pa_cons pe_int (pa_cons (pe_call Glaw_take (hr.mono (by decide)) (by rfl) Nlaw_take.g Nlaw_take.kp Nlaw_take.b .nil pass0 (pa_cons (pv 0) (pa_cons pe_int pa_nil))) (pa_cons (pe_call Glaw_take (hr.mono (by decide)) (by rfl) Nlaw_take.g Nlaw_take.kp Nlaw_take.b .nil pass0 (pa_cons (pv 0) (pa_cons pe_int pa_nil))) pa_nil))))) (pe_call Glaw_take (hr.mono (by decide)) (by rfl) Nlaw_take.g Nlaw_take.kp Nlaw_take.b .nil pass0 (pa_cons (pv 0) (pa_cons pe_int pa_nil))) (fun _ _ => rfl))), ?_⟩
    refine ⟨_, rfl, b, 10, n, rfl, hB, by omega, by decide, by decide, fun d1 H1 a0 a1 off1 B1 => ?_⟩
    refine ⟨_, rfl, b, 10000, n + 1, rfl, B1, by omega, by decide, by decide, fun d2 H2 b0 b1 off2 B2 => ?_⟩
    refine ⟨by show 4 ≤ sizeLine; decide, fun L hL => ?_⟩
    have nLb : L ≠ b := B2.fresh hL
    refine ⟨_, rfl, b, 4, n + 1 + 1, rfl, B2.alloc hL, by omega, by decide, by decide, fun j H3 j0 j1 off3 B3 => ?_⟩
    obtain ⟨v, hv, ev⟩ := atI_ex (xs := [V.int 0, .int 9999, .int d1, .int d2]) j0 j1
    obtain ⟨i, rfl, i0, i1⟩ : ∃ i : Int, v = .int i ∧ 0 ≤ i ∧ i ≤ 9999 := by
      simp only [List.mem_cons, List.not_mem_nil, or_false] at hv
      rcases hv with rfl | rfl | rfl | rfl
      · exact ⟨_, rfl, by decide, by decide⟩
      · exact ⟨_, rfl, by decide, by decide⟩
      · exact ⟨_, rfl, a0, by omega⟩
      · exact ⟨_, rfl, b0, by omega⟩
    exact ⟨L, _, j, _, rfl, rfl, SqL.of (by rw [off3 L nLb, upd_same]), ev, k i H3 i0 i1 ((((KB.off off1).trans (KB.off off2)).trans (KB.alloc hL)).trans (KB.off off3)) (B3.mono (by omega))⟩
def spRowOf : Sp := fun vs H Q _ => ∃ (c : Addr) (ps : List Pa), vs = [.ref c] ∧ H c = some (.tup (ps.map Pa.v)) ∧ okRun ps = true ∧ ∀ H', Same H H' → Q (.str (rowT ps)) H'
theorem ok_law_row {f : Addr} {fd : FuncData} (F : Fun K "_law_row" "_law_row" s_law_row f fd) (T : Txt mg) :
    FnOk P w K mg base CX0 1 f fd ["_law_run"] spRowOf := by
  refine F.ok sc_law_row (fun vs H Q E h => ?_) (fun cdv A outer s H vs Q E hr h => ?_)
  · obtain ⟨c, ps, rfl, _⟩ := h
    rfl
  · obtain ⟨c, ps, rfl, hc, ok, k⟩ := h
    refine ⟨_, pss_one (ps_ret (pe_join pe_str (pe_lst (pa_cons (pe_ix ix_tup (pv 0) pe_int (fun _ _ => rfl)) (pa_cons (pe_ix ix_tup (pv 0) pe_int (fun _ _ => rfl)) (pa_cons (pe_ix ix_tup (pv 0) pe_int (fun _ _ => rfl)) (pa_cons (pe_callTy call_str_int (by rfl) T.str_ (by decide +kernel) (pa_cons (pe_ix ix_tup (pv 0) pe_int (fun _ _ => rfl)) pa_nil)) (pa_cons (pe_callTy call_str_int (by rfl) T.str_ (by decide +kernel) (pa_cons (pe_ix ix_tup (pv 0) pe_int (fun _ _ => rfl)) pa_nil)) pa_nil)))))))), ?_⟩
    obtain ⟨a0, a1, a2, i, j, rfl, h0, h1, h2, hi, hj⟩ := run_shape ok
    have q : SqT K H c ([Pa.s a0, .s a1, .s a2, .n i, .n j].map Pa.v) := SqT.of hc
    have li : i.natAbs.log2 < 1920 := (PaIs.time i hi.1 hi.2).log i rfl
    have lj : j.natAbs.log2 < 1920 := (PaIs.time j hj.1 hj.2).log j rfl
    refine ⟨⟨_, rfl⟩, _, rfl, c, _, 0, .str a0, rfl, rfl, q, atI_nat (j := 0) rfl, _, rfl, c, _, 1, .str a1, rfl, rfl, q, atI_nat (j := 1) rfl, _, rfl, c, _, 2, .str a2, rfl, rfl, q, atI_nat (j := 2) rfl, ?_⟩
    refine ⟨_, rfl, c, _, 3, .int i, rfl, rfl, q, atI_nat (j := 3) rfl, i, rfl, li, ?_⟩
    refine ⟨_, rfl, c, _, 4, .int j, rfl, rfl, q, atI_nat (j := 4) rfl, j, rfl, lj, ?_⟩
    refine ⟨by show 5 ≤ sizeLine; decide, fun p hp => ⟨_, p, [a0, a1, a2, Str.ofString (toString i), Str.ofString (toString j)], rfl, rfl, .inl (SqL.of upd_same), ?_, k _ (same_alloc hp)⟩⟩
    have s7 := sum_wok (l := [a0, a1, a2, Str.ofString (toString i), Str.ofString (toString j)]) (fun z hz => by
      simp only [List.mem_cons, List.not_mem_nil, or_false] at hz
      rcases hz with rfl | rfl | rfl | rfl | rfl
      · exact name_wok h0
      · exact name_wok h1
      · exact name_wok h2
      · exact (PaIs.time i hi.1 hi.2).wok
      · exact (PaIs.time j hj.1 hj.2).wok)
    rw [show (Str.ofString " ").length = 1 by decide +kernel]
    have l5 : [a0, a1, a2, Str.ofString (toString i), Str.ofString (toString j)].length = 5 := rfl
    rw [l5] at s7 ⊢
    omega
def spRunsOf : Sp := fun vs H Q _ => ∃ (b : Addr) (n : Int), vs = [.ref b] ∧ Bx b n H ∧ 0 ≤ n ∧ n ≤ 100 ∧ ∀ (L : Addr) (vs : List V) (l : List (List Pa)) (H' : Hp), KB b H H' → Bx b 500 H' → H L = none → H' L = some (.lst vs) → Runs H' vs l → l.length ≤ 24 → (∀ ps ∈ l, okRun ps = true) → Q (.ref L) H'
theorem ok_law_runs {f f1 f2 fT : Addr} {fd fd1 fd2 fdT : FuncData} (F : Fun K "_law_runs" "_law_runs" s_law_runs f fd) (T : Txt mg)
    (Nlaw_take : Fn K mg "_law_take" sTake ["_law_box_here", "_law_many"] fT fdT) (Glaw_take : FnOk P w K mg base CX0 1 fT fdT ["_law_box_here", "_law_many"] spTake)
    (Nlaw_names : Fn K mg "_law_names" s_law_names ["_law_box_here", "_law_many"] f1 fd1) (Glaw_names : FnOk P w K mg base CX0 2 f1 fd1 ["_law_box_here", "_law_many"] spNames)
    (Nlaw_time : Fn K mg "_law_time" s_law_time ["_law_box_here"] f2 fd2) (Glaw_time : FnOk P w K mg base CX0 2 f2 fd2 ["_law_box_here"] spTime) :
    FnOk P w K mg base CX0 3 f fd ["_law_box_here"] spRunsOf := by
  refine F.ok sc_law_runs (fun vs H Q E h => ?_) (fun cdv A outer s H vs Q E hr h => ?_)
  · obtain ⟨b, n, rfl, _⟩ := h
    rfl
  · obtain ⟨b, n, rfl, hB, n0, hn, k⟩ := h
    refine ⟨_, pss_cons (ps_set (i := 1) sc_law_runs.nd rfl (Or.inr rfl) (pe_call Glaw_names (hr.mono (by decide)) (by rfl) Nlaw_names.g Nlaw_names.kp Nlaw_names.b .nil pass0 (pa_cons (pv 0) (pa_cons pe_int pa_nil))))
      (pss_cons (ps_set (i := 2) sc_law_runs.nd rfl (Or.inl rfl) (pe_lst pa_nil))
      (pss_cons (ps_for PassesOwn.never rfl (pi_range1 (by rfl) T.range_ (pa_cons (pe_ix ix_list (pe_lst (pa_cons (pe_call Glaw_take (hr.mono (by decide)) (by rfl) Nlaw_take.g Nlaw_take.kp Nlaw_take.b .nil pass0 (pa_cons (pv 0) (pa_cons pe_int pa_nil))) (pa_cons (pe_call Glaw_take (hr.mono (by decide)) (by rfl) Nlaw_take.g Nlaw_take.kp Nlaw_take.b .nil pass0 (pa_cons (pv 0) (pa_cons pe_int pa_nil))) pa_nil))) (pe_call Glaw_take (hr.mono (by decide)) (by rfl) Nlaw_take.g Nlaw_take.kp Nlaw_take.b .nil pass0 (pa_cons (pv 0) (pa_cons pe_int pa_nil))) (fun _ _ => rfl)) pa_nil)) (pg_name (i := 3) sc_law_runs.nd rfl (Or.inl rfl)) (pss_cons (ps_setLc (i := 4) (own := [("_law_k", 5)]) (g := gName 5) (tt := tYes) rfl sc_law_runs.nd rfl rfl (sw_true rfl rfl rfl (by decide +kernel)) (pi_range1 (by rfl) T.range_ (pa_cons pe_int pa_nil)) (blkOk_by (own := [("_law_k", 5)]) (N := ["_law_box_here", "_law_names_here", "_law_found", "_law_turn", "_law_some", "_law_k"]) (sc := defScope s_law_runs) (by decide +kernel)) (fun _ _ _ _ _ => (pg_name (i := 5) sc_law_runs.nd rfl (Or.inl rfl))) (fun _ _ _ _ _ => pts_nil) (fun _ _ _ _ _ => (pe_ix (ixL (K := K) rfl) (pv 1) (pe_call Glaw_take (hr.mono (by decide)) (by rfl) Nlaw_take.g Nlaw_take.kp Nlaw_take.b .nil pass0 (pa_cons (pv 0) (pa_cons pe_int pa_nil))) (fun _ _ => rfl))))
          (pss_one (ps_expr (pe_bm PySem.F.plainAttrs_list PySem.F.slot_list_append PySem.F.type_list_append mt_append (pv 2) (pa_cons (pe_tup (pa_cons (pe_ix ix_list (pv 4) pe_int (fun _ _ => rfl)) (pa_cons (pe_ix ix_list (pv 4) pe_int (fun _ _ => rfl)) (pa_cons (pe_ix ix_list (pv 4) pe_int (fun _ _ => rfl)) (pa_cons (pe_call Glaw_time (hr.mono (by decide)) (by rfl) Nlaw_time.g Nlaw_time.kp Nlaw_time.b .nil pass0 (pa_cons (pv 0) pa_nil)) (pa_cons (pe_call Glaw_time (hr.mono (by decide)) (by rfl) Nlaw_time.g Nlaw_time.kp Nlaw_time.b .nil pass0 (pa_cons (pv 0) pa_nil)) pa_nil)))))) pa_nil))))))
      (pss_one (ps_ret (pv 2))))), ?_⟩
    generalize hσ : L2.start _ _ = σ0
    obtain rfl : σ0 = [some (.ref b), none, none, none, none, none] := hσ.symm.trans rfl
    refine ⟨_, rfl, b, 6, n, rfl, hB, by omega, by decide, fun ns a H1 k1 B1 ea ln nms => ?_⟩
    have nab : a ≠ b := fun z => by
      obtain ⟨x, y, z', e, _⟩ := B1
      rw [← z, ea] at e
      have e := congrArg (fun o => match o with | some (HO.lst l) => l.length | _ => 0) e
      have e : (ns.map V.str).length = 3 := e
      rw [List.length_map, ln] at e
      cases e
    simp only [List.set_cons_succ, List.set_cons_zero]
    refine ⟨Nat.zero_le _, fun L hL => ?_⟩
    have nLb : L ≠ b := B1.fresh hL
    have hLH : H L = none := by
      cases e : H L with
      | none => rfl
      | some o => rw [k1 L o nLb e] at hL; cases hL
    have kL : KB b H (upd H1 L (.lst [])) := k1.trans (KB.alloc hL)
    have eL : upd H1 L (.lst []) L = some (.lst []) := upd_same
    have eA : upd H1 L (.lst []) a = some (.lst (ns.map V.str)) := by rw [upd_ne (ne_of_none ea hL)]; exact ea
    have naL : a ≠ L := ne_of_none ea hL
    have BL := B1.alloc (o := .lst []) hL
    generalize upd H1 L (.lst []) = H2 at kL eL eA BL ⊢
    clear B1 ea hL k1 H1
    simp only [List.set_cons_succ, List.set_cons_zero]
    refine ⟨_, rfl, b, 5, n + 20, rfl, BL, by omega, by decide, by decide, fun d1 H3 a0 a1 off3 B3 => ?_⟩
    refine ⟨_, rfl, b, 25, n + 20 + 1, rfl, B3, by omega, by decide, by decide, fun d2 H4 b0 b1 off4 B4 => ?_⟩
    refine ⟨by show 2 ≤ sizeLine; decide, fun M hM => ?_⟩
    have nMb : M ≠ b := B4.fresh hM
    refine ⟨_, rfl, b, 2, n + 20 + 1 + 1, rfl, B4.alloc hM, by omega, by decide, by decide, fun j H5 j0 j1 off5 B5 => ?_⟩
    obtain ⟨v, hv, ev⟩ := atI_ex (xs := [V.int d1, .int d2]) j0 j1
    obtain ⟨d, rfl, c0, c1⟩ : ∃ d : Int, v = .int d ∧ 0 ≤ d ∧ d ≤ 24 := by
      simp only [List.mem_cons, List.not_mem_nil, or_false] at hv
      rcases hv with rfl | rfl
      · exact ⟨_, rfl, a0, by omega⟩
      · exact ⟨_, rfl, b0, by omega⟩
    have k25 : KB b H2 H5 := (((KB.off off3).trans (KB.off off4)).trans (KB.alloc hM)).trans (KB.off off5)
    have eL5 := k25 _ _ nLb eL
    have eA5 := k25 _ _ nab eA
    have kH5 := kL.trans k25
    refine ⟨M, _, j, _, rfl, rfl, SqL.of (by rw [off5 M nMb, upd_same]), ev, d, rfl, by omega, by omega, ?_⟩
    clear k25 off3 off4 off5 hM B3 B4 kL eL eA BL
    obtain ⟨N, rfl⟩ := Int.eq_ofNat_of_zero_le c0
    rw [Int.toNat_natCast]
    refine for_range (lo := 0) (n := N) (fun i σ H' => ∃ (u3 u4 u5 : Option V) (vs : List V) (l : List (List Pa)), σ = [some (.ref b), some (.ref a), some (.ref L), u3, u4, u5] ∧ KB b H H' ∧ Bx b (n + 30 + 9 * i) H' ∧ H' a = some (.lst (ns.map V.str)) ∧ H' L = some (.lst vs) ∧ Runs H' vs l ∧ l.length = i ∧ ∀ ps ∈ l, okRun ps = true)
      ⟨_, _, _, [], [], rfl, kH5, B5.mono (by omega), eA5, eL5, .nil, rfl, fun p hp => (nomatch hp)⟩ ?_ ?_
    · rintro i σ X hi ⟨u3, u4, u5, vs, l, rfl, kX, BX, aX, lX, rX, li, oX⟩
      have i24 : i < 24 := by omega
      simp only [List.set_cons_succ, List.set_cons_zero]
      refine ⟨3, rfl, by decide, by decide, fun D hD => ?_⟩
      have nDb : D ≠ b := BX.fresh hD
      refine lc_it (walk_range (lo := 0) (n := (3 : Int).toNat)) (fun m Y => ∃ zs : List Str, zs.length = m ∧ (∀ z ∈ zs, NameOk z) ∧ Y D = some (.lst (zs.map V.str)) ∧ KB b X Y ∧ Bx b (n + 30 + 9 * i + m) Y)
        ⟨[], rfl, fun z hz => (nomatch hz), upd_same, KB.alloc hD, (BX.alloc hD).mono (by omega)⟩ (fun _ _ _ _ => trivial) ?_ ?_
      · rintro m v2 Y Y' hm ⟨zs, h1, h2, h3, h4, h5⟩ ⟨rfl, rfl⟩
        have hm3 : m < 3 := hm
        refine ⟨rfl, lcY ?_⟩
        refine ⟨_, rfl, _, rfl, b, 6, n + 30 + 9 * i + m, rfl, h5, by omega, by decide, by decide, fun q Y2 q0 q1 offY BY => ?_⟩
        obtain ⟨v3, hv3, ev3⟩ := atI_ex (xs := ns.map V.str) q0 (by rw [List.length_map, ln]; exact q1)
        obtain ⟨z, hz, rfl⟩ := List.mem_map.mp hv3
        refine ⟨a, _, q, _, rfl, rfl, SqL.of (by rw [offY a nab]; exact h4 _ _ nab aX), ev3, _, by rw [offY D nDb]; exact h3, ?_, zs ++ [z], ?_, ?_, ?_, ?_, ?_⟩
        · rw [List.length_map, h1]; exact lt_line _ (by omega)
        · rw [List.length_append, h1]; rfl
        · intro x hx
          rcases List.mem_append.mp hx with hx | hx
          · exact h2 x hx
          · rw [List.mem_singleton.mp hx]; exact nms.ok z hz
        · rw [upd_same, List.map_append]; rfl
        · intro x o nx e
          rw [upd_ne (ne_of_none e hD)]
          exact (offY x nx).trans (h4 x o nx e)
        · exact (BY.put nDb).mono (by omega)
      · rintro Y ⟨zs, h1, h2, h3, h4, h5⟩
        obtain ⟨z0, z1, z2, rfl⟩ : ∃ z0 z1 z2, zs = [z0, z1, z2] := by
          match zs, h1 with
          | [z0, z1, z2], _ => exact ⟨z0, z1, z2, rfl⟩
        have n0 := h2 z0 (by simp)
        have n1 := h2 z1 (by simp)
        have n2 := h2 z2 (by simp)
        have qD : SqL K Y D ([z0, z1, z2].map V.str) := SqL.of h3
        have nLX := h4 _ _ nLb lX
        simp only [List.set_cons_succ, List.set_cons_zero]
        refine ⟨_, rfl, .inl ⟨rfl, _, SqL.of nLX⟩, _, rfl, D, _, 0, .str z0, rfl, rfl, qD, atI_nat (j := 0) rfl, _, rfl, D, _, 1, .str z1, rfl, rfl, qD, atI_nat (j := 1) rfl, _, rfl, D, _, 2, .str z2, rfl, rfl, qD, atI_nat (j := 2) rfl, ?_⟩
        have e3 : (((3 : Int).toNat : Nat) : Int) = 3 := rfl
        rw [e3] at h5
        refine ⟨_, rfl, b, n + 30 + 9 * i + 3, rfl, h5, by omega, fun t1 Y1 t10 t11 kY1 BY1 => ?_⟩
        refine ⟨_, rfl, b, n + 30 + 9 * i + 3 + 3, rfl, BY1, by omega, fun t2 Y2 t20 t21 kY2 BY2 => ?_⟩
        refine ⟨by show 5 ≤ sizeLine; decide, fun t ht => ?_⟩
        have kXY : KB b X Y2 := (h4.trans kY1).trans kY2
        have okr := run_made n0 n1 n2 ⟨t10, t11⟩ ⟨t20, t21⟩
        have upX : ∀ c xs, X c = some (.tup xs) → Y2 c = some (.tup xs) := fun c xs e => kXY c _ (fun z => by
          obtain ⟨_, _, _, q, _⟩ := BX
          rw [z, q] at e; cases e) e
        have lY := kXY _ _ nLb lX
        have aY := kXY _ _ nab aX
        have ntL : L ≠ t := ne_of_none lY ht
        have up2 : ∀ c xs, Y2 c = some (.tup xs) → upd (upd Y2 t (.tup [.str z0, .str z1, .str z2, .int t1, .int t2])) L (.lst (vs ++ [.ref t])) c = some (.tup xs) := fun c xs e => by
          rw [upd_ne (fun z => by rw [z, lY] at e; cases e), upd_ne (ne_of_none e ht)]
          exact e
        refine ⟨L, vs, _, rfl, rfl, by rw [upd_ne ntL]; exact lY, ?_, _, _, _, vs ++ [.ref t], l ++ [[.s z0, .s z1, .s z2, .n t1, .n t2]], rfl, ?_, ?_, ?_, upd_same, ?_, ?_, ?_⟩
        · rw [rX.len, li]; exact lt_line _ (by omega)
        · intro c o nc e
          rw [upd_ne (ne_of_none e hLH), upd_ne (ne_of_none (kXY c o nc (kX c o nc e)) ht)]
          exact kXY c o nc (kX c o nc e)
        · exact ((BY2.alloc ht).put nLb).mono (by omega)
        · rw [upd_ne naL, upd_ne (ne_of_none aY ht)]; exact aY
        · exact ((rX.up upX).up up2).snoc (by rw [upd_ne ntL.symm, upd_same]; rfl)
        · rw [List.length_append, li]; rfl
        · intro ps hp
          rcases List.mem_append.mp hp with hp | hp
          · exact oX ps hp
          · rw [List.mem_singleton.mp hp]; exact okr
    · rintro σ X ⟨u3, u4, u5, vs, l, rfl, kX, BX, aX, lX, rX, li, oX⟩
      exact ⟨_, rfl, k L vs l X kX (BX.mono (by omega)) hLH lX rX (by omega) oX⟩
end
end R7

set_option maxRecDepth 100000
set_option maxHeartbeats 400000
namespace R7
open PySem PySem.Spec PyProof.Rows L2 GxR Gd TL My
theorem joinL_mem {S : List Nat} {c : Nat} : ∀ {ps : List (List Nat)}, c ∈ joinL S ps → c ∈ S ∨ ∃ p ∈ ps, c ∈ p
  | [], h => by cases h
  | [p], h => .inr ⟨p, List.mem_singleton.mpr rfl, h⟩
  | p :: q :: r, h => by
    have h' : c ∈ p ++ (S ++ joinL S (q :: r)) := h
    rcases List.mem_append.mp h' with h | h
    · exact .inr ⟨p, List.mem_cons_self .., h⟩
    · rcases List.mem_append.mp h with h | h
      · exact .inl h
      · rcases joinL_mem h with h | ⟨z, hz, hc⟩
        · exact .inl h
        · exact .inr ⟨z, List.mem_cons_of_mem _ hz, hc⟩
theorem tl_blank : tl (Str.ofString " ") = [32] := by decide +kernel

theorem len_blank : (Str.ofString " ").length = 1 := by decide +kernel

theorem KB.of {D : Addr} {H H' : Hp} (s : Same H H') : KB D H H' := fun c o _ h => s c o h

/-- texts of at most m signs -/
def Ss (m : Nat) (xs : List V) : Prop := ∀ y ∈ xs, ∃ z, y = .str z ∧ z.length ≤ m ∧ Good z
def wV : V → Nat
  | .str z => z.length + 1
  | _ => 1
/-- what texts weigh: their signs and one for each -/
def W (xs : List V) : Nat := (xs.map wV).sum
theorem W_app (xs ys : List V) : W (xs ++ ys) = W xs + W ys := by
  unfold W
  rw [List.map_append, List.sum_append]
theorem W_cut (xs : List V) (lo hi : Option Int) : W (cutV xs lo hi) ≤ W xs := by
  have d : ∀ (n : Nat) (l : List V), W (l.drop n) ≤ W l := fun n l => by
    have := List.take_append_drop n l
    have e : W l = W (l.take n) + W (l.drop n) := by rw [← W_app, this]
    omega
  have t : ∀ (n : Nat) (l : List V), W (l.take n) ≤ W l := fun n l => by
    have := List.take_append_drop n l
    have e : W l = W (l.take n) + W (l.drop n) := by rw [← W_app, this]
    omega
  exact Nat.le_trans (t _ _) (d _ _)
theorem Ss.cut {m : Nat} {xs : List V} (h : Ss m xs) (lo hi : Option Int) : Ss m (cutV xs lo hi) := fun y hy => h y (List.mem_of_mem_drop (List.mem_of_mem_take hy))
theorem Ss.app {m : Nat} {xs ys : List V} (h : Ss m xs) (k : Ss m ys) : Ss m (xs ++ ys) := fun y hy => (List.mem_append.mp hy).elim (h y) (k y)
theorem Ss.one {m : Nat} {z : Str} (h : z.length ≤ m) (g : Good z) : Ss m [V.str z] := fun y hy => by
  obtain rfl := List.mem_singleton.mp hy
  exact ⟨z, rfl, h, g⟩
theorem Ss.mono {m k : Nat} {xs : List V} (h : Ss m xs) (e : m ≤ k) : Ss k xs := fun y hy => by
  obtain ⟨z, h1, h2, h3⟩ := h y hy
  exact ⟨z, h1, Nat.le_trans h2 e, h3⟩
theorem Ss.strs {m : Nat} : ∀ {xs : List V}, Ss m xs → ∃ zs : List Str, xs = zs.map V.str ∧ (zs.map (·.length)).sum + zs.length = W xs ∧ ∀ z ∈ zs, z.length ≤ m ∧ Good z
  | [], _ => ⟨[], rfl, rfl, fun z hz => (by cases hz)⟩
  | x :: r, h => by
    obtain ⟨z, rfl, h1, h2⟩ := h x (List.mem_cons_self ..)
    obtain ⟨zs, rfl, w, g⟩ := Ss.strs (xs := r) fun y hy => h y (List.mem_cons_of_mem _ hy)
    refine ⟨z :: zs, rfl, ?_, fun y hy => ?_⟩
    · have e : W (V.str z :: zs.map V.str) = (z.length + 1) + W (zs.map V.str) := by
        unfold W
        rw [List.map_cons, List.sum_cons]
        rfl
      rw [e, ← w, List.map_cons, List.sum_cons, List.length_cons]
      omega
    · rcases List.mem_cons.mp hy with rfl | hy
      · exact ⟨h1, h2⟩
      · exact g y hy
theorem joinL_wt {c : Nat} : ∀ ps : List (List Nat), (joinL [c] ps).length ≤ (ps.map List.length).sum + ps.length
  | [] => by simp [joinL]
  | [p] => by
    show p.length ≤ _
    simp
  | p :: q :: r => by
    have b := joinL_wt (c := c) (q :: r)
    show (p ++ ([c] ++ joinL [c] (q :: r))).length ≤ _
    rw [List.length_append, List.length_append, List.map_cons, List.sum_cons, List.length_cons (a := p)]
    simp only [List.length_cons, List.length_nil] at b ⊢
    omega
/-- texts joined by one sign -/
theorem join_wt {y : Str} {c : Nat} (ey : tl y = [c]) (gy : Good y) (zs : List Str) (g : ∀ z ∈ zs, Good z) : (PySem.Txt.join y zs).length ≤ (zs.map (·.length)).sum + zs.length ∧ Good (PySem.Txt.join y zs) := by
  rw [join_eq]
  constructor
  · rw [← tl_len, tl_join, ey]
    have := joinL_wt (c := c) (zs.map tl)
    rw [List.map_map, List.length_map, show (List.length ∘ tl) = fun z : Str => z.length from funext fun z => tl_len z] at this
    exact this
  · intro d hd
    have hd : d ∈ tl (Str.join y zs) := hd
    rw [tl_join] at hd
    rcases joinL_mem hd with h | ⟨p, hp, h⟩
    · exact gy d h
    · obtain ⟨z, hz, rfl⟩ := List.mem_map.mp hp
      exact g z hz d h
theorem W_strs (zs : List Str) : W (zs.map V.str) = (zs.map (·.length)).sum + zs.length := by
  induction zs with
  | nil => rfl
  | cons z r ih =>
    have e : W ((z :: r).map V.str) = (z.length + 1) + W (r.map V.str) := by
      unfold W
      rw [List.map_cons, List.map_cons, List.sum_cons]
      rfl
    rw [e, ih, List.map_cons, List.sum_cons, List.length_cons]
    omega
theorem one_line : 1 ≤ sizeLine := by decide
theorem Bx.go {b : Addr} {n : Int} {H H' : Hp} (h : Bx b n H) (s : Same H H') : Bx b n H' := by
  obtain ⟨a1, a2, a3, q, r⟩ := h
  exact ⟨a1, a2, a3, s _ _ q, r⟩

theorem cat_new {H : Hp} {a b : Addr} {xs ys : List V} {Q : VK} (ha : H a = some (.lst xs)) (hb : H b = some (.lst ys)) (l : xs.length + ys.length ≤ 1000) (k : ∀ p H', Same H H' → H p = none → H' p = some (.lst (xs ++ ys)) → Q (.ref p) H') : rCat (.ref a) (.ref b) H Q :=
  ⟨a, b, xs, ys, rfl, rfl, ha, hb, fit l, fun p hp => k p _ (same_alloc hp) hp upd_same⟩
theorem pick0 {K : PySem.W.Frag} {H : Hp} {b L : Addr} {m : Nat} {n : Int} {ts : List V} {Q : VK} (hb : Bx b n H) (n9 : n ≤ 90000) (m0 : 0 < m) (m9 : m ≤ 1000) (hm : ts.length = m) (hL : H L = some (.lst ts)) (nL : L ≠ b)
    (k : ∀ v H', v ∈ ts → KB b H H' → Bx b (n + 1) H' → Q v H') : spTake [.ref b, .int (m : Nat)] H (fun y H2 => rIxL K (.ref L) y H2 Q) E0 := by
  refine ⟨b, m, n, rfl, hb, by omega, by omega, dec9000 (by omega) (by omega), fun d H' d0 d1 off bx => ?_⟩
  obtain ⟨j, rfl⟩ := Int.eq_ofNat_of_zero_le d0
  have hj : j < ts.length := by omega
  exact ⟨L, ts, _, ts[j], rfl, rfl, SqL.of (KB.off off _ _ nL hL), atI_nat (List.getElem?_eq_getElem hj), k _ _ (List.getElem_mem hj) (KB.off off) bx⟩

end R7

set_option maxRecDepth 100000
set_option maxHeartbeats 800000
namespace R7
open PySem PySem.Spec PyProof.Rows L2 GxR Gd TL My
theorem W_le {m : Nat} : ∀ {xs : List V}, Ss m xs → W xs ≤ xs.length * (m + 1)
  | [], _ => Nat.zero_le _
  | x :: r, h => by
    obtain ⟨z, rfl, h1, _⟩ := h x (List.mem_cons_self ..)
    have ih := W_le (xs := r) fun y hy => h y (List.mem_cons_of_mem _ hy)
    have e : W (V.str z :: r) = (z.length + 1) + W r := by
      unfold W
      rw [List.map_cons, List.sum_cons]
      rfl
    rw [e, List.length_cons, Nat.succ_mul]
    omega
/-- a list of few texts -/
def Tx (m : Nat) (H : Hp) (v : V) : Prop := ∃ a rs, v = .ref a ∧ H a = some (.lst rs) ∧ Ss m rs ∧ rs.length ≤ 2
theorem cut_len (xs : List V) (lo hi : Option Int) : (cutV xs lo hi).length ≤ xs.length := cutV_length xs lo hi
section
variable {P : Program} {w : World} {K : PySem.W.Frag} {mg : Str → Option Value} {base : Heap}
abbrev s_law_signs : Stmt := top 35
theorem sc_law_signs : FnScope ["_law_some"] [] (defScope s_law_signs) := ⟨rfl, rfl, rfl, by decide +kernel, rfl, by decide +kernel, by decide +kernel⟩
abbrev s_law_row_otherwise : Stmt := top 39
theorem sc_law_row_otherwise : FnScope ["_law_box_here", "_law_row_here", "_law_words", "_law_at", "_law_some", "_law_others"] ["_law_box_here", "_law_row_here"] (defScope s_law_row_otherwise) := ⟨rfl, rfl, rfl, by decide +kernel, rfl, by decide +kernel, by decide +kernel⟩
def spSigns : Sp := fun vs H Q _ => vs = [] ∧ ∀ z : Str, z.length = 94 → Good z → Q (.str z) H
theorem ok_law_signs {f : Addr} {fd : FuncData} (F : Fun K "_law_signs" "_law_signs" s_law_signs f fd) (T : Txt mg) : FnOk P w K mg base CX0 1 f fd [] spSigns := by
  refine F.ok sc_law_signs (fun vs H Q E h => ?_) (fun cdv A outer s H vs Q E hr h => ?_)
  · obtain ⟨rfl, _⟩ := h
    rfl
  · obtain ⟨rfl, k⟩ := h
    refine ⟨_, pss_cons (ps_set (i := 0) sc_law_signs.nd rfl (Or.inl rfl) pe_str)
      (pss_one (ps_ret (pe_op op_add_str (pv 0) pe_str))), ?_⟩
    exact ⟨_, rfl, _, _, rfl, rfl, by decide +kernel, k _ (by decide +kernel) (good_app (good_of _) (good_of _))⟩
def spRowOther : Sp := fun vs H Q _ => ∃ (b : Addr) (z : Str) (n : Int) (m : Nat), vs = [.ref b, .str z] ∧ Bx b n H ∧ n ≤ 80000 ∧ z.length ≤ m ∧ m ≤ 1000 ∧ Good z ∧ ∀ y H', KB b H H' → Bx b (n + 5) H' → y.length ≤ 4 * m + 40 → Good y → Q (.str y) H'
theorem ok_row_otherwise {f fT : Addr} {fd fdT : FuncData} (F : Fun K "_law_row_otherwise" "_law_row_otherwise" s_law_row_otherwise f fd) (T : Txt mg)
    (Nlaw_take : Fn K mg "_law_take" sTake ["_law_box_here", "_law_many"] fT fdT) (Glaw_take : FnOk P w K mg base CX0 1 fT fdT ["_law_box_here", "_law_many"] spTake) :
    FnOk P w K mg base CX0 2 f fd ["_law_box_here", "_law_row_here"] spRowOther := by
  refine F.ok sc_law_row_otherwise (fun vs H Q E h => ?_) (fun cdv A outer s H vs Q E hr h => ?_)
  · obtain ⟨b, z, n, m, rfl, _⟩ := h
    rfl
  · obtain ⟨b, z, n, m, rfl, hb, n8, hz, hm, gz, k⟩ := h
    refine ⟨_, pss_cons (ps_set (i := 2) sc_law_row_otherwise.nd rfl (Or.inl rfl) (pe_split (pv 1) pe_str))
      (pss_cons (ps_set (i := 3) sc_law_row_otherwise.nd rfl (Or.inl rfl) (pe_call Glaw_take (hr.mono (by decide)) (by rfl) Nlaw_take.g Nlaw_take.kp Nlaw_take.b .nil pass0 (pa_cons (pv 0) (pa_cons (pe_callB call_len_seq (by rfl) T.len_ PySem.boot_len (pa_cons (pv 2) pa_nil)) pa_nil))))
      (pss_cons (ps_set (i := 4) sc_law_row_otherwise.nd rfl (Or.inl rfl) (pe_lst (pa_cons pe_str (pa_cons pe_str (pa_cons pe_str (pa_cons pe_str (pa_cons pe_str (pa_cons pe_str (pa_cons pe_str (pa_cons pe_str (pa_cons pe_str (pa_cons pe_str (pa_cons pe_str (pa_cons pe_str pa_nil))))))))))))))
      (pss_cons (ps_set (i := 5) sc_law_row_otherwise.nd rfl (Or.inl rfl) (pe_lst (pa_cons (pe_lst pa_nil) (pa_cons (pe_lst (pa_cons (pe_ix ix_list (pv 2) (pv 3) (fun _ _ => rfl)) (pa_cons (pe_ix ix_list (pv 2) (pv 3) (fun _ _ => rfl)) pa_nil))) (pa_cons (pe_lst (pa_cons (pe_ix ix_list (pv 4) (pe_call Glaw_take (hr.mono (by decide)) (by rfl) Nlaw_take.g Nlaw_take.kp Nlaw_take.b .nil pass0 (pa_cons (pv 0) (pa_cons pe_int pa_nil))) (fun _ _ => rfl)) pa_nil)) (pa_cons (pe_lst (pa_cons (pe_ix ix_list (pv 4) (pe_call Glaw_take (hr.mono (by decide)) (by rfl) Nlaw_take.g Nlaw_take.kp Nlaw_take.b .nil pass0 (pa_cons (pv 0) (pa_cons pe_int pa_nil))) (fun _ _ => rfl)) pa_nil)) (pa_cons (pe_lst (pa_cons (pe_ix ix_list (pv 2) (pv 3) (fun _ _ => rfl)) (pa_cons pe_str pa_nil))) pa_nil)))))))
      (pss_cons (ps_set (i := 5) sc_law_row_otherwise.nd rfl (Or.inl rfl) (pe_ix ix_list (pe_op op_cat (pv 5) (pe_lst (pa_cons (pe_lst (pa_cons pe_str (pa_cons (pe_ix ix_list (pv 2) (pv 3) (fun _ _ => rfl)) pa_nil))) pa_nil))) (pe_call Glaw_take (hr.mono (by decide)) (by rfl) Nlaw_take.g Nlaw_take.kp Nlaw_take.b .nil pass0 (pa_cons (pv 0) (pa_cons pe_int pa_nil))) (fun _ _ => rfl)))
      (pss_one (ps_ret (pe_join pe_str (pe_op op_cat (pe_op op_cat (pe_slice sl_list (pv 2) po_none (po_some (pv 3))) (pv 5)) (pe_slice sl_list (pv 2) (po_some (pe_op op_add (pv 3) pe_int)) po_none))))))))), ?_⟩
    generalize hσ : L2.start _ _ = σ0
    obtain rfl : σ0 = [some (.ref b), some (.str z), none, none, none, none] := hσ.symm.trans rfl
    refine ⟨_, rfl, ⟨_, rfl⟩, _, _, rfl, rfl, by decide +kernel, fit2 (by omega), fun Wd hWd => ?_⟩
    rw [show PySem.Txt.split z (Str.ofString " ") = wordsOf z from rfl]
    have wz : WOk z := ⟨by omega, gz⟩
    have sS : Ss m ((wordsOf z).map V.str) := fun y hy => by
      obtain ⟨q, hq, rfl⟩ := List.mem_map.mp hy
      exact ⟨q, rfl, Nat.le_trans (PyProof.Rows.part_short hq) hz, (split_wok wz hq).2⟩
    have sW : W ((wordsOf z).map V.str) ≤ m + 1 := by
      rw [W_strs]
      have := PyProof.Rows.split_weight z (Str.ofString " ") (by decide +kernel)
      exact Nat.le_trans this (by omega)
    have sl : 0 < ((wordsOf z).map V.str).length ∧ ((wordsOf z).map V.str).length ≤ 1002 := by
      rw [List.length_map]
      have a1 := PyProof.Rows.split_pos z (Str.ofString " ")
      have a2 := PyProof.Rows.split_le z (Str.ofString " ")
      exact ⟨a1, Nat.le_trans a2 (by omega)⟩
    generalize (wordsOf z).map V.str = ws at hWd sS sW sl ⊢
    have nWd : Wd ≠ b := Bx.fresh hb hWd
    have kWd : KB b H (upd H Wd (.lst ws)) := KB.alloc hWd
    have bWd := Bx.alloc (o := .lst ws) hb hWd
    have eWd : upd H Wd (.lst ws) Wd = some (.lst ws) := upd_same
    generalize upd H Wd (.lst ws) = H1 at kWd bWd eWd ⊢
    simp only [List.set_cons_succ, List.set_cons_zero]
    refine ⟨_, rfl, _, rfl, Wd, _, rfl, .inl (SqL.of eWd), b, (ws.length : Int), n, rfl, bWd, by omega, by omega, dec9000 (by omega) (by omega), fun p0 H2 p1 p2 off2 bx2 => ?_⟩
    obtain ⟨i, rfl⟩ := Int.eq_ofNat_of_zero_le p1
    obtain ⟨x, hx⟩ : ∃ x, ws[i]? = some x := ⟨_, List.getElem?_eq_getElem (by omega)⟩
    obtain ⟨q, rfl, hq, gq⟩ := sS x (List.mem_of_getElem? hx)
    have w2 := KB.off off2 _ _ nWd eWd
    have k02 : KB b H H2 := kWd.trans (KB.off off2)
    simp only [List.set_cons_succ, List.set_cons_zero]
    refine ⟨by show 12 ≤ sizeLine; decide, fun S hS => ?_⟩
    obtain ⟨so, eso, so12, soS⟩ : ∃ so : List V, so = [V.str (Str.ofString ""), .str (Str.ofString "A"), .str (Str.ofString "abcdefg"), .str (Str.ofString "0"), .str (Str.ofString "00"), .str (Str.ofString "07"), .str (Str.ofString "10000"), .str (Str.ofString "-1"), .str (Str.ofString "+1"), .str (Str.ofString "9999"), .str (Str.ofString "a"), .str (Str.ofString "1.5")] ∧ so.length = 12 ∧ Ss (m + 10) so := by
      refine ⟨_, rfl, rfl, fun y hy => ?_⟩
      have key : ∀ s ∈ ["", "A", "abcdefg", "0", "00", "07", "10000", "-1", "+1", "9999", "a", "1.5"], (Str.ofString s).length ≤ 10 := by decide +kernel
      simp only [List.mem_cons, List.not_mem_nil, or_false] at hy
      rcases hy with rfl | rfl | rfl | rfl | rfl | rfl | rfl | rfl | rfl | rfl | rfl | rfl <;> exact ⟨_, rfl, Nat.le_trans (key _ (by simp)) (by omega), good_of _⟩
    rw [← eso]
    have nS : S ≠ b := Bx.fresh bx2 hS
    have kS : KB b H2 (upd H2 S (.lst so)) := KB.alloc hS
    have bS := Bx.alloc (o := .lst so) bx2 hS
    have eS : upd H2 S (.lst so) S = some (.lst so) := upd_same
    generalize upd H2 S (.lst so) = H3 at kS bS eS ⊢
    simp only [List.set_cons_succ, List.set_cons_zero]
    have w3 := kS _ _ nWd w2
    refine ⟨Nat.zero_le _, fun o1 ho1 => ?_⟩
    have no1 : o1 ≠ b := Bx.fresh bS ho1
    have ko1 : KB b H3 (upd H3 o1 (.lst [])) := KB.alloc ho1
    have bo1 := Bx.alloc (o := .lst []) bS ho1
    have eo1 : upd H3 o1 (.lst []) o1 = some (.lst []) := upd_same
    generalize upd H3 o1 (.lst []) = H4 at ko1 bo1 eo1 ⊢
    have w4 := ko1 _ _ nWd w3
    refine ⟨_, rfl, _, rfl, Wd, _, (i : Int), .str q, rfl, rfl, SqL.of w4, atI_nat hx, _, rfl, _, rfl, Wd, _, (i : Int), .str q, rfl, rfl, SqL.of w4, atI_nat hx, two_line, fun o2 ho2 => ?_⟩
    have no2 : o2 ≠ b := Bx.fresh bo1 ho2
    have ko2 : KB b H4 (upd H4 o2 (.lst [V.str q, V.str q])) := KB.alloc ho2
    have bo2 := Bx.alloc (o := .lst [V.str q, V.str q]) bo1 ho2
    have eo2 : upd H4 o2 (.lst [V.str q, V.str q]) o2 = some (.lst [V.str q, V.str q]) := upd_same
    generalize upd H4 o2 (.lst [V.str q, V.str q]) = H5 at ko2 bo2 eo2 ⊢
    have s5 := ko2 _ _ nS (ko1 _ _ nS eS)
    refine ⟨_, rfl, _, rfl, b, 12, n + 1, rfl, bo2, by omega, by decide, by decide, fun j H6 j0 j1 off6 bx6 => ?_⟩
    obtain ⟨y1, hy1, ey1⟩ := atI_ex (xs := so) j0 (by rw [so12]; exact j1)
    have s6 := KB.off off6 _ _ nS s5
    refine ⟨S, so, j, y1, rfl, rfl, SqL.of s6, ey1, one_line, fun o3 ho3 => ?_⟩
    have no3 : o3 ≠ b := Bx.fresh bx6 ho3
    have ko3 : KB b H6 (upd H6 o3 (.lst [y1])) := KB.alloc ho3
    have bo3 := Bx.alloc (o := .lst [y1]) bx6 ho3
    have eo3 : upd H6 o3 (.lst [y1]) o3 = some (.lst [y1]) := upd_same
    generalize upd H6 o3 (.lst [y1]) = H7 at ko3 bo3 eo3 ⊢
    refine ⟨_, rfl, _, rfl, b, 12, n + 1 + 1, rfl, bo3, by omega, by decide, by decide, fun j2 H8 j20 j21 off8 bx8 => ?_⟩
    obtain ⟨y2, hy2, ey2⟩ := atI_ex (xs := so) j20 (by rw [so12]; exact j21)
    refine ⟨S, so, j2, y2, rfl, rfl, SqL.of (KB.off off8 _ _ nS (ko3 _ _ nS s6)), ey2, one_line, fun o4 ho4 => ?_⟩
    have no4 : o4 ≠ b := Bx.fresh bx8 ho4
    have ko4 : KB b H8 (upd H8 o4 (.lst [y2])) := KB.alloc ho4
    have bo4 := Bx.alloc (o := .lst [y2]) bx8 ho4
    have eo4 : upd H8 o4 (.lst [y2]) o4 = some (.lst [y2]) := upd_same
    generalize upd H8 o4 (.lst [y2]) = H9 at ko4 bo4 eo4 ⊢
    have k49 : KB b H4 H9 := (((ko2.trans (KB.off off6)).trans ko3).trans (KB.off off8)).trans ko4
    have w9 := k49 _ _ nWd w4
    refine ⟨_, rfl, _, rfl, Wd, _, (i : Int), .str q, rfl, rfl, SqL.of w9, atI_nat hx, two_line, fun o5 ho5 => ?_⟩
    have no5 : o5 ≠ b := Bx.fresh bo4 ho5
    have ko5 : KB b H9 (upd H9 o5 (.lst [V.str q, V.str (Str.ofString "")])) := KB.alloc ho5
    have bo5 := Bx.alloc (o := .lst [V.str q, V.str (Str.ofString "")]) bo4 ho5
    have eo5 : upd H9 o5 (.lst [V.str q, V.str (Str.ofString "")]) o5 = some (.lst [V.str q, V.str (Str.ofString "")]) := upd_same
    generalize upd H9 o5 (.lst [V.str q, V.str (Str.ofString "")]) = H10 at ko5 bo5 eo5 ⊢
    refine ⟨by show 5 ≤ sizeLine; decide, fun O hO => ?_⟩
    have nO : O ≠ b := Bx.fresh bo5 hO
    have kO : KB b H10 (upd H10 O (.lst [V.ref o1, V.ref o2, V.ref o3, V.ref o4, V.ref o5])) := KB.alloc hO
    have bO := Bx.alloc (o := .lst [V.ref o1, V.ref o2, V.ref o3, V.ref o4, V.ref o5]) bo5 hO
    have eO : upd H10 O (.lst [V.ref o1, V.ref o2, V.ref o3, V.ref o4, V.ref o5]) O = some (.lst [V.ref o1, V.ref o2, V.ref o3, V.ref o4, V.ref o5]) := upd_same
    generalize upd H10 O (.lst [V.ref o1, V.ref o2, V.ref o3, V.ref o4, V.ref o5]) = H11 at kO bO eO ⊢
    simp only [List.set_cons_succ, List.set_cons_zero]
    have k1011 : KB b H9 H11 := ko5.trans kO
    have w11 := k1011 _ _ nWd w9
    refine ⟨_, rfl, _, rfl, _, rfl, Wd, _, (i : Int), .str q, rfl, rfl, SqL.of w11, atI_nat hx, two_line, fun o6 ho6 => ?_⟩
    have no6 : o6 ≠ b := Bx.fresh bO ho6
    have ko6 : KB b H11 (upd H11 o6 (.lst [V.str (Str.ofString ""), V.str q])) := KB.alloc ho6
    have bo6 := Bx.alloc (o := .lst [V.str (Str.ofString ""), V.str q]) bO ho6
    have eo6 : upd H11 o6 (.lst [V.str (Str.ofString ""), V.str q]) o6 = some (.lst [V.str (Str.ofString ""), V.str q]) := upd_same
    generalize upd H11 o6 (.lst [V.str (Str.ofString ""), V.str q]) = H12 at ko6 bo6 eo6 ⊢
    refine ⟨one_line, fun P hP => ?_⟩
    have nP : P ≠ b := Bx.fresh bo6 hP
    have kP : KB b H12 (upd H12 P (.lst [V.ref o6])) := KB.alloc hP
    have bP := Bx.alloc (o := .lst [V.ref o6]) bo6 hP
    have eP : upd H12 P (.lst [V.ref o6]) P = some (.lst [V.ref o6]) := upd_same
    generalize upd H12 P (.lst [V.ref o6]) = H13 at kP bP eP ⊢
    refine ⟨O, P, _, _, rfl, rfl, kP _ _ nO (ko6 _ _ nO eO), eP, by show 6 ≤ sizeLine; decide, fun C hC => ?_⟩
    have nC : C ≠ b := Bx.fresh bP hC
    have kC : KB b H13 (upd H13 C (.lst ([V.ref o1, V.ref o2, V.ref o3, V.ref o4, V.ref o5] ++ [V.ref o6]))) := KB.alloc hC
    have bC := Bx.alloc (o := .lst ([V.ref o1, V.ref o2, V.ref o3, V.ref o4, V.ref o5] ++ [V.ref o6])) bP hC
    have eC : upd H13 C (.lst ([V.ref o1, V.ref o2, V.ref o3, V.ref o4, V.ref o5] ++ [V.ref o6])) C = some (.lst ([V.ref o1, V.ref o2, V.ref o3, V.ref o4, V.ref o5] ++ [V.ref o6])) := upd_same
    generalize upd H13 C (.lst ([V.ref o1, V.ref o2, V.ref o3, V.ref o4, V.ref o5] ++ [V.ref o6])) = H14 at kC bC eC ⊢
    refine ⟨_, rfl, b, 6, n + 1 + 1 + 1, rfl, bC, by omega, by decide, by decide, fun j3 H15 j30 j31 off15 bx15 => ?_⟩
    obtain ⟨v, hv, ev⟩ := atI_ex (xs := [V.ref o1, V.ref o2, V.ref o3, V.ref o4, V.ref o5] ++ [V.ref o6]) j30 j31
    have k1115 : KB b H11 H15 := ((ko6.trans kP).trans kC).trans (KB.off off15)
    have k915 : KB b H9 H15 := k1011.trans k1115
    have k415 : KB b H4 H15 := k49.trans k915
    have sq : ∀ {g : List V}, (∀ y ∈ g, y = V.str q ∨ y = V.str (Str.ofString "") ∨ y ∈ so) → Ss (m + 10) g := fun {g} h y hy => by
      rcases h y hy with rfl | rfl | h
      · exact ⟨q, rfl, by omega, gq⟩
      · exact ⟨_, rfl, Nat.le_trans (by decide +kernel : (Str.ofString "").length ≤ 0) (Nat.zero_le _), good_of _⟩
      · exact soS y h
    have tx : Tx (m + 10) H15 v := by
      simp only [List.cons_append, List.nil_append, List.mem_cons, List.not_mem_nil, or_false] at hv
      rcases hv with rfl | rfl | rfl | rfl | rfl | rfl
      · exact ⟨o1, _, rfl, k415 _ _ no1 eo1, sq (by simp), Nat.zero_le _⟩
      · exact ⟨o2, _, rfl, ((((KB.off off6).trans ko3).trans (KB.off off8)).trans ko4).trans k915 _ _ no2 eo2, sq (by simp), Nat.le_refl 2⟩
      · exact ⟨o3, _, rfl, ((KB.off off8).trans ko4).trans k915 _ _ no3 eo3, sq (fun y hy => by rw [List.mem_singleton.mp hy]; exact .inr (.inr hy1)), Nat.le_succ 1⟩
      · exact ⟨o4, _, rfl, k915 _ _ no4 eo4, sq (fun y hy => by rw [List.mem_singleton.mp hy]; exact .inr (.inr hy2)), Nat.le_succ 1⟩
      · exact ⟨o5, _, rfl, (kO.trans k1115) _ _ no5 eo5, sq (by simp), Nat.le_refl 2⟩
      · exact ⟨o6, _, rfl, ((kP.trans kC).trans (KB.off off15)) _ _ no6 eo6, sq (by simp), Nat.le_refl 2⟩
    have k015 : KB b H H15 := ((k02.trans kS).trans ko1).trans k415
    have w15 := k1115 _ _ nWd w11
    have c14 := KB.off off15 _ _ nC eC
    refine ⟨C, _, j3, v, rfl, rfl, SqL.of c14, ev, ?_⟩
    obtain ⟨R, rs, rfl, eR, rsS, rs2⟩ := tx
    clear hv ev c14 eC eP eO eS s5 s6
    have nRb : R ≠ b := fun z => by
      obtain ⟨_, _, _, e, _⟩ := bx15
      rw [← z, eR] at e
      cases e
      obtain ⟨_, e, _⟩ := rsS _ (List.mem_cons_self ..)
      cases e
    simp only [List.set_cons_succ, List.set_cons_zero]
    refine ⟨⟨_, rfl⟩, _, rfl, _, rfl, _, rfl, Wd, _, rfl, SqL.of w15, fun q1 hq1 => ?_⟩
    have nq1 : q1 ≠ b := Bx.fresh bx15 hq1
    have kq1 : KB b H15 (upd H15 q1 (.lst (cutV ws none (some (i : Int))))) := KB.alloc hq1
    have bq1 := Bx.alloc (o := .lst (cutV ws none (some (i : Int)))) bx15 hq1
    have eq1 : upd H15 q1 (.lst (cutV ws none (some (i : Int)))) q1 = some (.lst (cutV ws none (some (i : Int)))) := upd_same
    generalize upd H15 q1 (.lst (cutV ws none (some (i : Int)))) = H16 at kq1 bq1 eq1 ⊢
    refine ⟨_, rfl, q1, R, _, _, rfl, rfl, eq1, kq1 _ _ nRb eR, fit2 (by have := cut_len ws none (some (i : Int)); omega), fun q2 hq2 => ?_⟩
    have nq2 : q2 ≠ b := Bx.fresh bq1 hq2
    have kq2 : KB b H16 (upd H16 q2 (.lst (cutV ws none (some (i : Int)) ++ rs))) := KB.alloc hq2
    have bq2 := Bx.alloc (o := .lst (cutV ws none (some (i : Int)) ++ rs)) bq1 hq2
    have eq2 : upd H16 q2 (.lst (cutV ws none (some (i : Int)) ++ rs)) q2 = some (.lst (cutV ws none (some (i : Int)) ++ rs)) := upd_same
    generalize upd H16 q2 (.lst (cutV ws none (some (i : Int)) ++ rs)) = H17 at kq2 bq2 eq2 ⊢
    refine ⟨_, rfl, _, rfl, _, _, rfl, rfl, _, rfl, Wd, _, rfl, SqL.of (kq2 _ _ nWd (kq1 _ _ nWd w15)), fun q3 hq3 => ?_⟩
    have nq3 : q3 ≠ b := Bx.fresh bq2 hq3
    have kq3 : KB b H17 (upd H17 q3 (.lst (cutV ws (some ((i : Int) + 1)) none))) := KB.alloc hq3
    have bq3 := Bx.alloc (o := .lst (cutV ws (some ((i : Int) + 1)) none)) bq2 hq3
    have eq3 : upd H17 q3 (.lst (cutV ws (some ((i : Int) + 1)) none)) q3 = some (.lst (cutV ws (some ((i : Int) + 1)) none)) := upd_same
    generalize upd H17 q3 (.lst (cutV ws (some ((i : Int) + 1)) none)) = H18 at kq3 bq3 eq3 ⊢
    have lA := cut_len ws none (some (i : Int))
    have lB := cut_len ws (some ((i : Int) + 1)) none
    refine ⟨q2, q3, _, _, rfl, rfl, kq3 _ _ nq2 eq2, eq3, fit2 (by rw [List.length_append]; omega), fun q4 hq4 => ?_⟩
    have nq4 : q4 ≠ b := Bx.fresh bq3 hq4
    have kq4 : KB b H18 (upd H18 q4 (.lst (cutV ws none (some (i : Int)) ++ rs ++ cutV ws (some ((i : Int) + 1)) none))) := KB.alloc hq4
    have bq4 := Bx.alloc (o := .lst (cutV ws none (some (i : Int)) ++ rs ++ cutV ws (some ((i : Int) + 1)) none)) bq3 hq4
    have eq4 : upd H18 q4 (.lst (cutV ws none (some (i : Int)) ++ rs ++ cutV ws (some ((i : Int) + 1)) none)) q4 = some (.lst (cutV ws none (some (i : Int)) ++ rs ++ cutV ws (some ((i : Int) + 1)) none)) := upd_same
    generalize upd H18 q4 (.lst (cutV ws none (some (i : Int)) ++ rs ++ cutV ws (some ((i : Int) + 1)) none)) = H19 at kq4 bq4 eq4 ⊢
    have sX : Ss (m + 10) (cutV ws none (some (i : Int)) ++ rs ++ cutV ws (some ((i : Int) + 1)) none) := (((sS.cut _ _).mono (by omega)).app rsS).app ((sS.cut _ _).mono (by omega))
    have wA := W_cut ws none (some (i : Int))
    have wB := W_cut ws (some ((i : Int) + 1)) none
    have wR := W_le rsS
    have wR2 : rs.length * (m + 10 + 1) ≤ 2 * (m + 10 + 1) := Nat.mul_le_mul_right _ rs2
    have wX : W (cutV ws none (some (i : Int)) ++ rs ++ cutV ws (some ((i : Int) + 1)) none) ≤ 4 * m + 40 := by
      rw [W_app, W_app]
      omega
    obtain ⟨zs, ezs, wzs, gzs⟩ := sX.strs
    rw [ezs] at eq4
    have jw := join_wt tl_blank (good_of _) zs fun z hz => (gzs z hz).2
    refine ⟨_, q4, zs, rfl, rfl, .inl (SqL.of eq4), by rw [len_blank]; omega, ?_⟩
    exact k _ _ ((((k015.trans kq1).trans kq2).trans kq3).trans kq4) (bq4.mono (by omega)) (by omega) jw.2
end
end R7

set_option maxRecDepth 100000
set_option maxHeartbeats 1000000
/-! A tuple or a list of any things beside an empty one. -/
namespace My
open PySem PySem.Spec PyProof.Rows L2 GxR Gd TL
def rEqT0 (K : PySem.W.Frag) : R2 := fun x y H Q => ∃ a b xs, x = .ref a ∧ y = .ref b ∧ SqT K H a xs ∧ SqT K H b [] ∧ Q (.bl xs.isEmpty) H
theorem op_eqT0 {X : Cx} (hu : X.A.units < cLine) : OpR X (compareOp .Eq) (rEqT0 X.K) := by
  rintro pins s σ H x y v u Q I rx ry ⟨a, b, xs, rfl, rfl, ha, hb, q⟩
  cases rx
  cases ry
  obtain ⟨us, r1, p1, _⟩ := I.tuple ha
  obtain ⟨ws, r2, p2, _⟩ := I.tuple hb
  cases r2
  refine SeqAt.eq_tupleAt (e := fun _ => true) p1 p2 hu (fun j _ h2 => absurd h2 (Nat.not_lt_zero j)) ⟨.bl _, H, I, ?_, q⟩
  cases r1 with
  | nil => rfl
  | cons _ _ => rfl
def rNeL0 (K : PySem.W.Frag) : R2 := fun x y H Q => ∃ a b xs, x = .ref a ∧ y = .ref b ∧ SqL K H a xs ∧ SqL K H b [] ∧ Q (.bl (!xs.isEmpty)) H
theorem op_neL0 {X : Cx} (hu : X.A.units < cLine) : OpR X (compareOp .NotEq) (rNeL0 X.K) := by
  rintro pins s σ H x y v u Q I rx ry ⟨a, b, xs, rfl, rfl, ha, hb, q⟩
  cases rx
  cases ry
  obtain ⟨us, r1, p1, _⟩ := I.list ha
  obtain ⟨ws, r2, p2, _⟩ := I.list hb
  cases r2
  cases r1 with
  | nil => exact (SeqAt.RcNeAt.lists (e := fun _ => true) p1.isList p2.isList rfl hu (fun j h1 _ => absurd h1 (Nat.not_lt_zero j))) _ _ _ _ ⟨.bl _, H, I, rfl, q⟩
  | cons h t => exact (SeqAt.RcNeAt.lists_lengths p1.isList p2.isList rfl hu) _ _ _ _ ⟨.bl _, H, I, rfl, q⟩
end My

set_option maxRecDepth 100000
set_option maxHeartbeats 1000000
/-! A list of any things beside an empty one (==); two lists of the same objects (!=). -/
namespace My
open PySem PySem.Spec PyProof.Rows L2 GxR Gd TL
def rEqL0 (K : PySem.W.Frag) : R2 := fun x y H Q => ∃ a b xs, x = .ref a ∧ y = .ref b ∧ SqL K H a xs ∧ SqL K H b [] ∧ Q (.bl xs.isEmpty) H
theorem op_eqL0 {X : Cx} (hu : X.A.units < cLine) : OpR X (compareOp .Eq) (rEqL0 X.K) := by
  rintro pins s σ H x y v u Q I rx ry ⟨a, b, xs, rfl, rfl, ha, hb, q⟩
  cases rx
  cases ry
  obtain ⟨us, r1, p1, _⟩ := I.list ha
  obtain ⟨ws, r2, p2, _⟩ := I.list hb
  cases r2
  cases r1 with
  | nil => exact SeqAt.eq_listAt (e := fun _ => true) p1.isList p2.isList rfl hu (fun j h1 _ => absurd h1 (Nat.not_lt_zero j)) ⟨.bl _, H, I, rfl, q⟩
  | cons h t => exact SeqAt.eq_list_lengthsAt p1.isList p2.isList rfl hu ⟨.bl _, H, I, rfl, q⟩
/-- objects only -/
def allRef (xs : List V) : Prop := ∀ x ∈ xs, ∃ c, x = .ref c
theorem vals_ref : ∀ {xs : List V} {us ws : List Value}, allRef xs → Vals xs us → Vals xs ws → us = ws
  | _, _, _, _, .nil, .nil => rfl
  | x :: xs, _, _, h, .cons r1 t1, .cons r2 t2 => by
    obtain ⟨c, rfl⟩ := h x (List.mem_cons_self ..)
    cases r1
    cases r2
    rw [vals_ref (fun y hy => h y (List.mem_cons_of_mem _ hy)) t1 t2]
def rNeLS (K : PySem.W.Frag) : R2 := fun x y H Q => ∃ a b xs, x = .ref a ∧ y = .ref b ∧ SqL K H a xs ∧ SqL K H b xs ∧ allRef xs ∧ Q (.bl false) H
theorem op_neLS {X : Cx} (hu : X.A.units < cLine) : OpR X (compareOp .NotEq) (rNeLS X.K) := by
  rintro pins s σ H x y v u Q I rx ry ⟨a, b, xs, rfl, rfl, ha, hb, hr, q⟩
  cases rx
  cases ry
  obtain ⟨us, r1, p1, _⟩ := I.list ha
  obtain ⟨ws, r2, p2, _⟩ := I.list hb
  obtain rfl := vals_ref hr r1 r2
  refine (SeqAt.RcNeAt.lists (e := fun _ => true) p1.isList p2.isList rfl hu (fun j h1 _ => SeqAt.EqAt.same _)) _ _ _ _ ⟨.bl false, H, I, ?_, q⟩
  show Value.bool (!_) = Value.bool false
  congr 1
  simp
end My

set_option maxRecDepth 100000
set_option maxHeartbeats 1000000
/-! A short text many times. -/
namespace My
open PySem PySem.Spec PyProof.Rows L2 GxR Gd TL
def rMulS : R2 := fun x y H Q => ∃ z n, x = .str z ∧ y = .int n ∧ z.length ≤ 16 ∧ 0 ≤ n ∧ n ≤ 1000 ∧ Q (.str (Txt.mul z n)) H
theorem op_mul_str {X : Cx} : OpR X (binaryOp .Mult) rMulS := by
  rintro pins s σ H x y v u Q I rx ry ⟨z, n, rfl, rfl, hz, h0, h1, q⟩
  obtain ⟨t, rfl⟩ := rx
  obtain ⟨t', rfl⟩ := ry
  exact PySem.W.KXi.mul (n := z.length) rfl hz (by omega) (by omega) fun _ _ _ _ => ⟨.str _, H, I.tok _, ⟨_, rfl⟩, q⟩
theorem fold_mem (a : Array Nat) (c : Nat) : ∀ (n : Nat) (b : Array Nat), c ∈ ((List.replicate n a).foldl (· ++ ·) b).toList → c ∈ b.toList ∨ c ∈ a.toList
  | 0, b, h => .inl h
  | n + 1, b, h => by
    rw [List.replicate_succ, List.foldl_cons] at h
    rcases fold_mem a c n _ h with q | q
    · rw [Array.toList_append, List.mem_append] at q
      exact q
    · exact .inr q
theorem fold_len (a : Array Nat) : ∀ (n : Nat) (b : Array Nat), ((List.replicate n a).foldl (· ++ ·) b).size = b.size + n * a.size
  | 0, b => by simp
  | n + 1, b => by
    rw [List.replicate_succ, List.foldl_cons, fold_len a n, Array.size_append, Nat.succ_mul]
    omega
theorem good_mul {z : Str} (g : Good z) {n : Int} : Good (Txt.mul z n) := fun c hc => by
  unfold Txt.mul at hc
  split at hc
  · exact absurd hc (by show c ∉ ([] : List Nat); simp)
  · split at hc
    · exact g c hc
    · rcases fold_mem _ _ _ _ hc with q | q
      · exact absurd q (by simp)
      · exact g c q
theorem mul_le {z : Str} {n : Nat} (h : 1 ≤ n) : (Txt.mul z (n : Nat)).length ≤ n * z.length := by
  unfold Txt.mul
  split
  · exact Nat.zero_le _
  · split
    · calc z.length = 1 * z.length := (Nat.one_mul _).symm
        _ ≤ n * z.length := Nat.mul_le_mul_right _ h
    · show ((List.replicate ((n : Nat) : Int).toNat z.cps).foldl (· ++ ·) #[]).size ≤ _
      rw [fold_len, Int.toNat_natCast]
      show 0 + n * z.cps.size ≤ n * z.cps.size
      omega
end My

set_option maxRecDepth 100000
set_option maxHeartbeats 800000
namespace R7
open PySem PySem.Spec PyProof.Rows L2 GxR Gd TL My
theorem cutS_length (z : Str) (lo hi : Option Int) : (cutS z lo hi).length ≤ z.length := by
  show ((z.cps.toList.drop _).take _).toArray.size ≤ z.cps.size
  rw [List.size_toArray]
  exact Nat.le_trans (List.take_sublist _ _).length_le (List.drop_sublist _ _).length_le

theorem app_len (a b : Str) : (a ++ b).length = a.length + b.length := by
  rw [len_tl, tl_append, List.length_append, ← len_tl, ← len_tl]
theorem lf_len : (Str.ofString "\n").length = 1 := by decide +kernel
theorem tl_lf : tl (Str.ofString "\n") = [10] := by decide +kernel
def mB : Nat → Nat
  | 0 => 40
  | 1 => 200
  | _ => 840
theorem cutA_len {xs : List V} {i : Nat} (h : i ≤ xs.length) : (cutV xs none (some (i : Int))).length = i := by
  unfold cutV
  rw [HT.sIx_none, HT.sIx_nat, List.length_take, List.length_drop]
  omega
theorem cutB_len {xs : List V} {i : Nat} (h : i < xs.length) : (cutV xs (some ((i : Int) + 1)) none).length = xs.length - (i + 1) := by
  unfold cutV
  rw [HT.sIx_none, show (i : Int) + 1 = ((i + 1 : Nat) : Int) from rfl, HT.sIx_nat, List.length_take, List.length_drop]
  omega
theorem mul_good {z : Str} (h : z.length = 1) (g : Good z) {n : Int} (h0 : 0 ≤ n) (h1 : n ≤ 1) : (Txt.mul z n).length ≤ 1 ∧ Good (Txt.mul z n) := by
  refine ⟨?_, good_mul g⟩
  have : n = 0 ∨ n = 1 := by omega
  rcases this with rfl | rfl
  · exact Nat.le_trans (Nat.le_of_eq (by rfl)) (Nat.zero_le 1)
  · have := mul_le (z := z) (n := 1) (Nat.le_refl 1)
    rw [h] at this
    exact this
section
variable {P : Program} {w : World} {K : PySem.W.Frag} {mg : Str → Option Value} {base : Heap}
abbrev s_law_otherwise : Stmt := top 40
theorem sc_law_otherwise : FnScope ["_law_box_here", "_law_text", "_law_rows", "_law_turn", "_law_at", "_law_others", "_law_found", "_law_sign"] ["_law_box_here", "_law_text"] (defScope s_law_otherwise) := ⟨rfl, rfl, rfl, by decide +kernel, rfl, by decide +kernel, by decide +kernel⟩
def spOther : Sp := fun vs H Q _ => ∃ (b : Addr) (z : Str) (n : Int), vs = [.ref b, .str z] ∧ Bx b n H ∧ n ≤ 70000 ∧ z.length ≤ 2000 ∧ Good z ∧ (∀ p ∈ Txt.split z (Str.ofString "\n"), p.length ≤ 40) ∧ (Txt.split z (Str.ofString "\n")).length ≤ 25 ∧ ∀ y H', KB b H H' → Bx b (n + 30) H' → y.length ≤ 48800 → Good y → Q (.str y) H'
theorem ok_otherwise {f f1 f2 fT : Addr} {fd fd1 fd2 fdT : FuncData} (F : Fun K "_law_otherwise" "_law_otherwise" s_law_otherwise f fd) (T : Txt mg)
    (Nlaw_take : Fn K mg "_law_take" sTake ["_law_box_here", "_law_many"] fT fdT) (Glaw_take : FnOk P w K mg base CX0 1 fT fdT ["_law_box_here", "_law_many"] spTake)
    (Nlaw_row_otherwise : Fn K mg "_law_row_otherwise" s_law_row_otherwise ["_law_box_here", "_law_row_here"] f1 fd1) (Glaw_row_otherwise : FnOk P w K mg base CX0 2 f1 fd1 ["_law_box_here", "_law_row_here"] spRowOther)
    (Nlaw_signs : Fn K mg "_law_signs" s_law_signs [] f2 fd2) (Glaw_signs : FnOk P w K mg base CX0 1 f2 fd2 [] spSigns) :
    FnOk P w K mg base CX0 3 f fd ["_law_box_here", "_law_text"] spOther := by
  refine F.ok sc_law_otherwise (fun vs H Q E h => ?_) (fun cdv A outer s H vs Q E hr h => ?_)
  · obtain ⟨b, z, n, rfl, _⟩ := h
    rfl
  · obtain ⟨b, z, n, rfl, hb, n8, hz, gz, r40, r25, k⟩ := h
    refine ⟨_, pss_cons (ps_set (i := 2) sc_law_otherwise.nd rfl (Or.inl rfl) (pe_split (pv 1) pe_str))
      (pss_cons (ps_for PassesOwn.never rfl (pi_range1 (by rfl) T.range_ (pa_cons (pe_call Glaw_take (hr.mono (by decide)) (by rfl) Nlaw_take.g Nlaw_take.kp Nlaw_take.b .nil pass0 (pa_cons (pv 0) (pa_cons pe_int pa_nil))) pa_nil)) (pg_name (i := 3) sc_law_otherwise.nd rfl (Or.inl rfl)) (pss_cons (ps_set (i := 4) sc_law_otherwise.nd rfl (Or.inl rfl) (pe_call Glaw_take (hr.mono (by decide)) (by rfl) Nlaw_take.g Nlaw_take.kp Nlaw_take.b .nil pass0 (pa_cons (pv 0) (pa_cons (pe_callB call_len_seq (by rfl) T.len_ PySem.boot_len (pa_cons (pv 2) pa_nil)) pa_nil))))
          (pss_cons (ps_set (i := 5) sc_law_otherwise.nd rfl (Or.inl rfl) (pe_ix ix_list (pe_lst (pa_cons (pe_lst pa_nil) (pa_cons (pe_lst (pa_cons (pe_ix ix_list (pv 2) (pv 4) (fun _ _ => rfl)) (pa_cons (pe_ix ix_list (pv 2) (pv 4) (fun _ _ => rfl)) pa_nil))) (pa_cons (pe_lst (pa_cons (pe_call Glaw_row_otherwise (hr.mono (by decide)) (by rfl) Nlaw_row_otherwise.g Nlaw_row_otherwise.kp Nlaw_row_otherwise.b .nil pass0 (pa_cons (pv 0) (pa_cons (pe_ix ix_list (pv 2) (pv 4) (fun _ _ => rfl)) pa_nil))) pa_nil)) (pa_cons (pe_lst (pa_cons pe_str pa_nil)) pa_nil))))) (pe_call Glaw_take (hr.mono (by decide)) (by rfl) Nlaw_take.g Nlaw_take.kp Nlaw_take.b .nil pass0 (pa_cons (pv 0) (pa_cons pe_int pa_nil))) (fun _ _ => rfl)))
          (pss_one (ps_set (i := 2) sc_law_otherwise.nd rfl (Or.inl rfl) (pe_op op_cat (pe_op op_cat (pe_op op_cat (pe_slice sl_list (pv 2) po_none (po_some (pv 4))) (pv 5)) (pe_slice sl_list (pv 2) (po_some (pe_op op_add (pv 4) pe_int)) po_none)) (pe_op op_rep (pe_lst (pa_cons pe_str pa_nil)) (pe_callTy call_int1 (by rfl) T.int_ (by decide +kernel) (pa_cons (pe_and (pe_cmpR op_eq (pe_callB call_len_seq (by rfl) T.len_ PySem.boot_len (pa_cons (pv 2) pa_nil)) pe_int (nomark _)) (pe_one (pe_cmpR (op_eqL0 (Nat.lt_of_le_of_lt (Nat.le_add_right _ 64) hr.units)) (pv 5) (pe_lst pa_nil) (nomark _)))) pa_nil)))))))))
      (pss_cons (ps_set (i := 6) sc_law_otherwise.nd rfl (Or.inl rfl) (pe_join pe_str (pv 2)))
      (pss_cons (ps_if (pt_cmpR op_eq (pe_call Glaw_take (hr.mono (by decide)) (by rfl) Nlaw_take.g Nlaw_take.kp Nlaw_take.b .nil pass0 (pa_cons (pv 0) (pa_cons pe_int pa_nil))) pe_int (nomark _)) (pss_cons (ps_set (i := 4) sc_law_otherwise.nd rfl (Or.inl rfl) (pe_call Glaw_take (hr.mono (by decide)) (by rfl) Nlaw_take.g Nlaw_take.kp Nlaw_take.b .nil pass0 (pa_cons (pv 0) (pa_cons (pe_op op_add (pe_callB call_len_str (by rfl) T.len_ PySem.boot_len (pa_cons (pv 6) pa_nil)) pe_int) pa_nil))))
          (pss_cons (ps_set (i := 7) sc_law_otherwise.nd rfl (Or.inl rfl) (pe_op op_mul_str (pe_ix ix_str (pe_op op_add_str (pe_call0 Glaw_signs (hr.mono (by decide)) (by rfl) Nlaw_signs.g Nlaw_signs.kp Nlaw_signs.b .nil pass0) pe_str) (pe_call Glaw_take (hr.mono (by decide)) (by rfl) Nlaw_take.g Nlaw_take.kp Nlaw_take.b .nil pass0 (pa_cons (pv 0) (pa_cons pe_int pa_nil))) (fun _ _ => rfl)) (pe_call Glaw_take (hr.mono (by decide)) (by rfl) Nlaw_take.g Nlaw_take.kp Nlaw_take.b .nil pass0 (pa_cons (pv 0) (pa_cons pe_int pa_nil)))))
          (pss_one (ps_set (i := 6) sc_law_otherwise.nd rfl (Or.inl rfl) (pe_op op_add_str (pe_op op_add_str (pe_slice sl_str (pv 6) po_none (po_some (pv 4))) (pv 7)) (pe_slice sl_str (pv 6) (po_some (pe_op op_add (pv 4) (pe_call Glaw_take (hr.mono (by decide)) (by rfl) Nlaw_take.g Nlaw_take.kp Nlaw_take.b .nil pass0 (pa_cons (pv 0) (pa_cons pe_int pa_nil))))) po_none)))))) pss_nil)
      (pss_one (ps_ret (pv 6)))))), ?_⟩
    generalize hσ : L2.start _ _ = σ0
    obtain rfl : σ0 = [some (.ref b), some (.str z), none, none, none, none, none, none] := hσ.symm.trans rfl
    refine ⟨_, rfl, ⟨_, rfl⟩, _, _, rfl, rfl, by decide +kernel, fit2 (by omega), fun Wd hWd => ?_⟩
    have sS : Ss 40 ((Txt.split z (Str.ofString "\n")).map V.str) := fun y hy => by
      obtain ⟨q, hq, rfl⟩ := List.mem_map.mp hy
      exact ⟨q, rfl, r40 q hq, (split_wok ⟨by omega, gz⟩ hq).2⟩
    have sl : 0 < ((Txt.split z (Str.ofString "\n")).map V.str).length ∧ ((Txt.split z (Str.ofString "\n")).map V.str).length ≤ 25 := by
      rw [List.length_map]
      exact ⟨PyProof.Rows.split_pos z (Str.ofString "\n"), r25⟩
    generalize (Txt.split z (Str.ofString "\n")).map V.str = ws at hWd sS sl ⊢
    have nWd : Wd ≠ b := Bx.fresh hb hWd
    have kWd : KB b H (upd H Wd (.lst ws)) := KB.alloc hWd
    have bWd := Bx.alloc (o := .lst ws) hb hWd
    have eWd : upd H Wd (.lst ws) Wd = some (.lst ws) := upd_same
    generalize upd H Wd (.lst ws) = H1 at kWd bWd eWd ⊢
    simp only [List.set_cons_succ, List.set_cons_zero]
    refine ⟨_, rfl, b, 3, n, rfl, bWd, by omega, by decide, by decide, fun tn H2 t0 t1 off2 bx2 => ?_⟩
    obtain ⟨N, rfl⟩ := Int.eq_ofNat_of_zero_le t0
    have w2 := KB.off off2 _ _ nWd eWd
    have k02 : KB b H H2 := kWd.trans (KB.off off2)
    refine ⟨_, rfl, by omega, by omega, ?_⟩
    rw [Int.toNat_natCast]
    refine for_range (lo := 0) (n := N) (fun t σ X => ∃ (u3 u4 u5 : Option V) (R : Addr) (rs : List V), σ = [some (.ref b), some (.str z), some (.ref R), u3, u4, u5, none, none] ∧ KB b H X ∧ Bx b (n + 1 + 10 * t) X ∧ X R = some (.lst rs) ∧ R ≠ b ∧ Ss (mB t) rs ∧ 0 < rs.length ∧ rs.length ≤ 25 + 2 * t)
      ⟨_, _, _, Wd, ws, rfl, k02, bx2.mono (by omega), w2, nWd, sS, sl.1, by omega⟩ ?_ ?_
    · rintro t σ X ht ⟨u3, u4, u5, R, rs, rfl, kX, bX, eR, nRb, sR, l1, l2⟩
      have t2 : t < 2 := by omega
      have m1 : mB t ≤ 200 ∧ 4 * mB t + 40 ≤ mB (t + 1) := by
        have : t = 0 ∨ t = 1 := by omega
        rcases this with rfl | rfl <;> exact ⟨by decide, by decide⟩
      simp only [List.set_cons_succ, List.set_cons_zero]
      refine ⟨_, rfl, _, rfl, R, _, rfl, .inl (SqL.of eR), b, (rs.length : Int), n + 1 + 10 * t, rfl, bX, by omega, by omega, dec9000 (by omega) (by omega), fun p0 X2 p1 p2 offX bx3 => ?_⟩
      obtain ⟨i, rfl⟩ := Int.eq_ofNat_of_zero_le p1
      have hi : i < rs.length := by omega
      obtain ⟨x, hx⟩ : ∃ x, rs[i]? = some x := ⟨_, List.getElem?_eq_getElem hi⟩
      obtain ⟨q, rfl, hq, gq⟩ := sR x (List.mem_of_getElem? hx)
      have r2 := KB.off offX _ _ nRb eR
      have kX2 : KB b H X2 := kX.trans (KB.off offX)
      simp only [List.set_cons_succ, List.set_cons_zero]
      refine ⟨Nat.zero_le _, fun o1 ho1 => ?_⟩
      have no1 : o1 ≠ b := Bx.fresh bx3 ho1
      have ko1 : KB b X2 (upd X2 o1 (.lst [])) := KB.alloc ho1
      have bo1 := Bx.alloc (o := .lst []) bx3 ho1
      have eo1 : upd X2 o1 (.lst []) o1 = some (.lst []) := upd_same
      generalize upd X2 o1 (.lst []) = X3 at ko1 bo1 eo1 ⊢
      have r3 := ko1 _ _ nRb r2
      refine ⟨_, rfl, _, rfl, R, _, (i : Int), .str q, rfl, rfl, SqL.of r3, atI_nat hx, _, rfl, _, rfl, R, _, (i : Int), .str q, rfl, rfl, SqL.of r3, atI_nat hx, two_line, fun o2 ho2 => ?_⟩
      have no2 : o2 ≠ b := Bx.fresh bo1 ho2
      have ko2 : KB b X3 (upd X3 o2 (.lst [V.str q, V.str q])) := KB.alloc ho2
      have bo2 := Bx.alloc (o := .lst [V.str q, V.str q]) bo1 ho2
      have eo2 : upd X3 o2 (.lst [V.str q, V.str q]) o2 = some (.lst [V.str q, V.str q]) := upd_same
      generalize upd X3 o2 (.lst [V.str q, V.str q]) = X4 at ko2 bo2 eo2 ⊢
      have r4 := ko2 _ _ nRb r3
      refine ⟨_, rfl, _, rfl, _, rfl, R, _, (i : Int), .str q, rfl, rfl, SqL.of r4, atI_nat hx, b, q, n + 1 + 10 * t + 1, mB t, rfl, bo2, by omega, hq, by omega, gq, fun y X5 k5 b5 ly gy => ?_⟩
      refine ⟨one_line, fun o3 ho3 => ?_⟩
      have no3 : o3 ≠ b := Bx.fresh b5 ho3
      have ko3 : KB b X5 (upd X5 o3 (.lst [V.str y])) := KB.alloc ho3
      have bo3 := Bx.alloc (o := .lst [V.str y]) b5 ho3
      have eo3 : upd X5 o3 (.lst [V.str y]) o3 = some (.lst [V.str y]) := upd_same
      generalize upd X5 o3 (.lst [V.str y]) = X6 at ko3 bo3 eo3 ⊢
      refine ⟨one_line, fun o4 ho4 => ?_⟩
      have no4 : o4 ≠ b := Bx.fresh bo3 ho4
      have ko4 : KB b X6 (upd X6 o4 (.lst [V.str (Str.ofString "")])) := KB.alloc ho4
      have bo4 := Bx.alloc (o := .lst [V.str (Str.ofString "")]) bo3 ho4
      have eo4 : upd X6 o4 (.lst [V.str (Str.ofString "")]) o4 = some (.lst [V.str (Str.ofString "")]) := upd_same
      generalize upd X6 o4 (.lst [V.str (Str.ofString "")]) = X7 at ko4 bo4 eo4 ⊢
      refine ⟨by show 4 ≤ sizeLine; decide, fun O hO => ?_⟩
      have nO : O ≠ b := Bx.fresh bo4 hO
      have kO : KB b X7 (upd X7 O (.lst [V.ref o1, V.ref o2, V.ref o3, V.ref o4])) := KB.alloc hO
      have bO := Bx.alloc (o := .lst [V.ref o1, V.ref o2, V.ref o3, V.ref o4]) bo4 hO
      have eO : upd X7 O (.lst [V.ref o1, V.ref o2, V.ref o3, V.ref o4]) O = some (.lst [V.ref o1, V.ref o2, V.ref o3, V.ref o4]) := upd_same
      generalize upd X7 O (.lst [V.ref o1, V.ref o2, V.ref o3, V.ref o4]) = X8 at kO bO eO ⊢
      refine ⟨_, rfl, b, 4, n + 1 + 10 * t + 1 + 5, rfl, bO, by omega, by decide, by decide, fun j X9 j0 j1 off9 bx9 => ?_⟩
      obtain ⟨v, hv, ev⟩ := atI_ex (xs := [V.ref o1, V.ref o2, V.ref o3, V.ref o4]) j0 j1
      have k69 : KB b X6 X9 := (ko4.trans kO).trans (KB.off off9)
      have k39 : KB b X3 X9 := ((ko2.trans k5).trans ko3).trans k69
      have e0 : (Str.ofString "").length = 0 := by decide +kernel
      have tx : Tx (mB (t + 1)) X9 v := by
        simp only [List.mem_cons, List.not_mem_nil, or_false] at hv
        rcases hv with rfl | rfl | rfl | rfl
        · exact ⟨o1, _, rfl, k39 _ _ no1 eo1, fun y hy => (by cases hy), Nat.zero_le _⟩
        · refine ⟨o2, _, rfl, (k5.trans ko3).trans k69 _ _ no2 eo2, fun y hy => ?_, Nat.le_refl 2⟩
          simp only [List.mem_cons, List.not_mem_nil, or_false, or_self] at hy
          exact ⟨q, hy, by omega, gq⟩
        · exact ⟨o3, _, rfl, k69 _ _ no3 eo3, Ss.one (by omega) gy, Nat.le_succ 1⟩
        · exact ⟨o4, _, rfl, (kO.trans (KB.off off9)) _ _ no4 eo4, Ss.one (by omega) (good_of _), Nat.le_succ 1⟩
      refine ⟨O, _, j, v, rfl, rfl, SqL.of (KB.off off9 _ _ nO eO), ev, ?_⟩
      have kX9 : KB b H X9 := (kX2.trans ko1).trans k39
      have r9 := k39 _ _ nRb r3
      obtain ⟨A, as, rfl, eA, asS, as2⟩ := tx
      have nAb : A ≠ b := fun z => by
        obtain ⟨_, _, _, e, _⟩ := bx9
        rw [← z, eA] at e
        cases e
        obtain ⟨_, e, _⟩ := asS _ (List.mem_cons_self ..)
        cases e
      clear hv ev
      simp only [List.set_cons_succ, List.set_cons_zero]
      refine ⟨_, rfl, _, rfl, _, rfl, R, _, rfl, SqL.of r9, fun q1 hq1 => ?_⟩
      have nq1 : q1 ≠ b := Bx.fresh bx9 hq1
      have kq1 : KB b X9 (upd X9 q1 (.lst (cutV rs none (some (i : Int))))) := KB.alloc hq1
      have bq1 := Bx.alloc (o := .lst (cutV rs none (some (i : Int)))) bx9 hq1
      have eq1 : upd X9 q1 (.lst (cutV rs none (some (i : Int)))) q1 = some (.lst (cutV rs none (some (i : Int)))) := upd_same
      generalize upd X9 q1 (.lst (cutV rs none (some (i : Int)))) = Y1 at kq1 bq1 eq1 ⊢
      have lA := cutA_len (xs := rs) (i := i) (by omega)
      have lB := cutB_len (xs := rs) (i := i) hi
      refine ⟨_, rfl, q1, A, _, _, rfl, rfl, eq1, kq1 _ _ nAb eA, fit2 (by omega), fun q2 hq2 => ?_⟩
      have nq2 : q2 ≠ b := Bx.fresh bq1 hq2
      have kq2 : KB b Y1 (upd Y1 q2 (.lst (cutV rs none (some (i : Int)) ++ as))) := KB.alloc hq2
      have bq2 := Bx.alloc (o := .lst (cutV rs none (some (i : Int)) ++ as)) bq1 hq2
      have eq2 : upd Y1 q2 (.lst (cutV rs none (some (i : Int)) ++ as)) q2 = some (.lst (cutV rs none (some (i : Int)) ++ as)) := upd_same
      generalize upd Y1 q2 (.lst (cutV rs none (some (i : Int)) ++ as)) = Y2 at kq2 bq2 eq2 ⊢
      refine ⟨_, rfl, _, rfl, _, _, rfl, rfl, _, rfl, R, _, rfl, SqL.of (kq2 _ _ nRb (kq1 _ _ nRb r9)), fun q3 hq3 => ?_⟩
      have nq3 : q3 ≠ b := Bx.fresh bq2 hq3
      have kq3 : KB b Y2 (upd Y2 q3 (.lst (cutV rs (some ((i : Int) + 1)) none))) := KB.alloc hq3
      have bq3 := Bx.alloc (o := .lst (cutV rs (some ((i : Int) + 1)) none)) bq2 hq3
      have eq3 : upd Y2 q3 (.lst (cutV rs (some ((i : Int) + 1)) none)) q3 = some (.lst (cutV rs (some ((i : Int) + 1)) none)) := upd_same
      generalize upd Y2 q3 (.lst (cutV rs (some ((i : Int) + 1)) none)) = Y3 at kq3 bq3 eq3 ⊢
      refine ⟨q2, q3, _, _, rfl, rfl, kq3 _ _ nq2 eq2, eq3, fit2 (by rw [List.length_append]; omega), fun q4 hq4 => ?_⟩
      have nq4 : q4 ≠ b := Bx.fresh bq3 hq4
      have kq4 : KB b Y3 (upd Y3 q4 (.lst (cutV rs none (some (i : Int)) ++ as ++ cutV rs (some ((i : Int) + 1)) none))) := KB.alloc hq4
      have bq4 := Bx.alloc (o := .lst (cutV rs none (some (i : Int)) ++ as ++ cutV rs (some ((i : Int) + 1)) none)) bq3 hq4
      have eq4 : upd Y3 q4 (.lst (cutV rs none (some (i : Int)) ++ as ++ cutV rs (some ((i : Int) + 1)) none)) q4 = some (.lst (cutV rs none (some (i : Int)) ++ as ++ cutV rs (some ((i : Int) + 1)) none)) := upd_same
      generalize upd Y3 q4 (.lst (cutV rs none (some (i : Int)) ++ as ++ cutV rs (some ((i : Int) + 1)) none)) = Y4 at kq4 bq4 eq4 ⊢
      refine ⟨one_line, fun q5 hq5 => ?_⟩
      have nq5 : q5 ≠ b := Bx.fresh bq4 hq5
      have kq5 : KB b Y4 (upd Y4 q5 (.lst [V.str (Str.ofString "")])) := KB.alloc hq5
      have bq5 := Bx.alloc (o := .lst [V.str (Str.ofString "")]) bq4 hq5
      have eq5 : upd Y4 q5 (.lst [V.str (Str.ofString "")]) q5 = some (.lst [V.str (Str.ofString "")]) := upd_same
      generalize upd Y4 q5 (.lst [V.str (Str.ofString "")]) = Y5 at kq5 bq5 eq5 ⊢
      have k9 : KB b X9 Y5 := (((kq1.trans kq2).trans kq3).trans kq4).trans kq5
      have r10 := k9 _ _ nRb r9
      have a10 := k9 _ _ nAb eA
      have q45 := kq5 _ _ nq4 eq4
      refine ⟨_, rfl, R, _, rfl, .inl (SqL.of r10), rfl, _, rfl, ?_⟩
      by_cases one : rs.length = 1
      · rw [one, decide_eq_true (show V.int ((1 : Nat) : Int) = V.int 1 from rfl)]
        refine iteT ⟨_, rfl, Nat.zero_le _, fun q8 hq8 => ?_⟩
        have nq8 : q8 ≠ b := Bx.fresh bq5 hq8
        have kq8 : KB b Y5 (upd Y5 q8 (.lst [])) := KB.alloc hq8
        have bq8 := Bx.alloc (o := .lst []) bq5 hq8
        have eq8 : upd Y5 q8 (.lst []) q8 = some (.lst []) := upd_same
        generalize upd Y5 q8 (.lst []) = Y6 at kq8 bq8 eq8 ⊢
        refine ⟨A, q8, as, rfl, rfl, SqL.of (kq8 _ _ nAb a10), SqL.of eq8, ?_⟩
        obtain ⟨rp, erp, rpS, rpl⟩ : ∃ rp, rp = (List.replicate ((if as.isEmpty = true then (1 : Int) else 0)).toNat [V.str (Str.ofString "")]).flatten ∧ Ss (mB (t + 1)) rp ∧ rp.length = (if as.isEmpty = true then 1 else 0) := by
          generalize as.isEmpty = kk
          refine ⟨_, rfl, ?_, by cases kk <;> rfl⟩
          cases kk
          · exact fun y hy => (by cases hy)
          · exact Ss.one (by omega) (good_of _)
        refine .inr ⟨as.isEmpty, rfl, q5, _, [.str (Str.ofString "")], rfl, rfl, kq8 _ _ nq5 eq5, by split <;> decide, by split <;> decide, by split <;> decide, fun q6 hq6 => ?_⟩
        rw [← erp]
        have rp1 : rp.length ≤ 1 := by rw [rpl]; split <;> decide
        have nq6 : q6 ≠ b := Bx.fresh bq8 hq6
        have kq6 : KB b Y6 (upd Y6 q6 (.lst rp)) := KB.alloc hq6
        have bq6 := Bx.alloc (o := .lst rp) bq8 hq6
        have eq6 : upd Y6 q6 (.lst rp) q6 = some (.lst rp) := upd_same
        generalize upd Y6 q6 (.lst rp) = Y7 at kq6 bq6 eq6 ⊢
        refine ⟨q4, q6, _, _, rfl, rfl, kq6 _ _ nq4 (kq8 _ _ nq4 q45), eq6, fit2 (by rw [List.length_append, List.length_append]; omega), fun q7 hq7 => ?_⟩
        have nq7 : q7 ≠ b := Bx.fresh bq6 hq7
        have kq7 : KB b Y7 (upd Y7 q7 (.lst ((cutV rs none (some (i : Int)) ++ as ++ cutV rs (some ((i : Int) + 1)) none) ++ rp))) := KB.alloc hq7
        have bq7 := Bx.alloc (o := .lst ((cutV rs none (some (i : Int)) ++ as ++ cutV rs (some ((i : Int) + 1)) none) ++ rp)) bq6 hq7
        have eq7 : upd Y7 q7 (.lst ((cutV rs none (some (i : Int)) ++ as ++ cutV rs (some ((i : Int) + 1)) none) ++ rp)) q7 = some (.lst ((cutV rs none (some (i : Int)) ++ as ++ cutV rs (some ((i : Int) + 1)) none) ++ rp)) := upd_same
        generalize upd Y7 q7 (.lst ((cutV rs none (some (i : Int)) ++ as ++ cutV rs (some ((i : Int) + 1)) none) ++ rp)) = Y8 at kq7 bq7 eq7 ⊢
        refine ⟨_, _, _, q7, _, rfl, (((kX9.trans k9).trans kq8).trans kq6).trans kq7, bq7.mono (by omega), eq7, nq7, (((sR.cut _ _).mono (by omega)).app asS).app ((sR.cut _ _).mono (by omega)) |>.app rpS, ?_, ?_⟩
        · rw [List.length_append, List.length_append, List.length_append]
          cases as with
          | nil =>
            have : rp.length = 1 := rpl
            omega
          | cons _ _ => rw [List.length_cons]; omega
        · rw [List.length_append, List.length_append, List.length_append]
          omega
      · rw [decide_eq_false (show ¬ V.int ((rs.length : Nat) : Int) = V.int 1 from fun h => one (by have := V.int.inj h; omega))]
        refine iteF ?_
        obtain ⟨rp, erp, rpS, rpl⟩ : ∃ rp, rp = (List.replicate ((if false = true then (1 : Int) else 0)).toNat [V.str (Str.ofString "")]).flatten ∧ Ss (mB (t + 1)) rp ∧ rp.length = (if false = true then 1 else 0) := by
          generalize false = kk
          refine ⟨_, rfl, ?_, by cases kk <;> rfl⟩
          cases kk
          · exact fun y hy => (by cases hy)
          · exact Ss.one (by omega) (good_of _)
        refine .inr ⟨false, rfl, q5, _, [.str (Str.ofString "")], rfl, rfl, (KB.refl b Y5) _ _ nq5 eq5, by split <;> decide, by split <;> decide, by split <;> decide, fun q6 hq6 => ?_⟩
        rw [← erp]
        have rp1 : rp.length ≤ 1 := by rw [rpl]; split <;> decide
        have nq6 : q6 ≠ b := Bx.fresh bq5 hq6
        have kq6 : KB b Y5 (upd Y5 q6 (.lst rp)) := KB.alloc hq6
        have bq6 := Bx.alloc (o := .lst rp) bq5 hq6
        have eq6 : upd Y5 q6 (.lst rp) q6 = some (.lst rp) := upd_same
        generalize upd Y5 q6 (.lst rp) = Y7 at kq6 bq6 eq6 ⊢
        refine ⟨q4, q6, _, _, rfl, rfl, kq6 _ _ nq4 ((KB.refl b Y5) _ _ nq4 q45), eq6, fit2 (by rw [List.length_append, List.length_append]; omega), fun q7 hq7 => ?_⟩
        have nq7 : q7 ≠ b := Bx.fresh bq6 hq7
        have kq7 : KB b Y7 (upd Y7 q7 (.lst ((cutV rs none (some (i : Int)) ++ as ++ cutV rs (some ((i : Int) + 1)) none) ++ rp))) := KB.alloc hq7
        have bq7 := Bx.alloc (o := .lst ((cutV rs none (some (i : Int)) ++ as ++ cutV rs (some ((i : Int) + 1)) none) ++ rp)) bq6 hq7
        have eq7 : upd Y7 q7 (.lst ((cutV rs none (some (i : Int)) ++ as ++ cutV rs (some ((i : Int) + 1)) none) ++ rp)) q7 = some (.lst ((cutV rs none (some (i : Int)) ++ as ++ cutV rs (some ((i : Int) + 1)) none) ++ rp)) := upd_same
        generalize upd Y7 q7 (.lst ((cutV rs none (some (i : Int)) ++ as ++ cutV rs (some ((i : Int) + 1)) none) ++ rp)) = Y8 at kq7 bq7 eq7 ⊢
        refine ⟨_, _, _, q7, _, rfl, (((kX9.trans k9).trans (KB.refl b Y5)).trans kq6).trans kq7, bq7.mono (by omega), eq7, nq7, (((sR.cut _ _).mono (by omega)).app asS).app ((sR.cut _ _).mono (by omega)) |>.app rpS, ?_, ?_⟩
        · rw [List.length_append, List.length_append, List.length_append]
          omega
        · rw [List.length_append, List.length_append, List.length_append]
          omega
    · rintro σ X ⟨u3, u4, u5, R, rs, rfl, kX, bX, eR, nRb, sR, l1, l2⟩
      have mN : mB N ≤ 840 := by
        have : N = 0 ∨ N = 1 ∨ N = 2 := by omega
        rcases this with rfl | rfl | rfl <;> decide
      obtain ⟨zs, ezs, wzs, gzs⟩ := sR.strs
      have wR := W_le sR
      have wR2 : rs.length * (mB N + 1) ≤ 29 * 841 := Nat.mul_le_mul (by omega) (by omega)
      rw [ezs] at eR
      have jw := join_wt tl_lf (good_of _) zs fun z hz => (gzs z hz).2
      refine ⟨⟨_, rfl⟩, _, rfl, _, R, zs, rfl, rfl, .inl (SqL.of eR), by rw [lf_len]; omega, ?_⟩
      obtain ⟨jl, jg⟩ := jw
      generalize Txt.join (Str.ofString "\n") zs = fd0 at jl jg ⊢
      have fl : fd0.length ≤ 24389 := by omega
      simp only [List.set_cons_succ, List.set_cons_zero]
      refine ⟨_, rfl, b, 2, n + 1 + 10 * N, rfl, bX, by omega, by decide, by decide, fun w0 X2 w00 w01 off2 bx2 => ⟨rfl, _, rfl, ite2 (fun c => ?_) (fun c => ?_)⟩⟩
      · refine ⟨_, rfl, _, rfl, fd0, rfl, fit2 (by omega), _, _, rfl, rfl, b, _, n + 1 + 10 * N + 1, rfl, bx2, by omega, by omega, dec9000 (by omega) (by omega), fun p0 X3 p1 p2 off3 bx3 => ?_⟩
        simp only [List.set_cons_succ, List.set_cons_zero]
        refine ⟨rfl, fun sg l94 gsg => ?_⟩
        refine ⟨_, _, rfl, rfl, by rw [l94, lf_len]; decide, ?_⟩
        have ls : (tl (sg ++ Str.ofString "\n")).length = 95 := by
          rw [tl_append, List.length_append, ← len_tl, ← len_tl, l94, lf_len]
        refine ⟨_, rfl, b, 95, n + 1 + 10 * N + 1 + 1, rfl, bx3, by omega, by decide, by decide, fun j X4 j0 j1 off4 bx4 => ?_⟩
        obtain ⟨ch, hch, ech⟩ := atI_ex (xs := tl (sg ++ Str.ofString "\n")) j0 (by rw [ls]; exact j1)
        have gch : Good (⟨#[ch]⟩ : Str) := good_one (good_app gsg (good_of _)) hch
        refine ⟨_, j, ch, rfl, rfl, by rw [len_tl, ls]; decide, ech, ?_⟩
        refine ⟨_, rfl, b, 2, n + 1 + 10 * N + 1 + 1 + 1, rfl, bx4, by omega, by decide, by decide, fun tt X5 tt0 tt1 off5 bx5 => ?_⟩
        refine ⟨_, tt, rfl, rfl, by show 1 ≤ 16; decide, tt0, by omega, ?_⟩
        obtain ⟨ml, mg9⟩ := mul_good (z := ⟨#[ch]⟩) rfl gch tt0 (by omega)
        generalize Txt.mul ⟨#[ch]⟩ tt = sn at ml mg9 ⊢
        simp only [List.set_cons_succ, List.set_cons_zero]
        have cA := cutS_length fd0 none (some p0)
        refine ⟨_, rfl, _, rfl, _, rfl, fd0, rfl, fit2 (by omega), _, rfl, _, _, rfl, rfl, fit2 (by omega), ?_⟩
        refine ⟨_, rfl, _, rfl, _, rfl, b, 2, n + 1 + 10 * N + 1 + 1 + 1 + 1, rfl, bx5, by omega, by decide, by decide, fun w9 X6 w90 w91 off6 bx6 => ?_⟩
        have cB := cutS_length fd0 (some (p0 + w9)) none
        refine ⟨_, _, rfl, rfl, _, rfl, fd0, rfl, fit2 (by omega), _, _, rfl, rfl, fit2 (by rw [app_len]; omega), ?_⟩
        refine ⟨_, rfl, k _ X6 (((((kX.trans (KB.off off2)).trans (KB.off off3)).trans (KB.off off4)).trans (KB.off off5)).trans (KB.off off6)) (bx6.mono (by omega)) ?_ ?_⟩
        · rw [app_len, app_len]; omega
        · exact good_app (good_app (good_cut jg _ _) mg9) (good_cut jg _ _)
      · exact ⟨_, rfl, k fd0 X2 (kX.trans (KB.off off2)) (bx2.mono (by omega)) (by omega) jg⟩
end
end R7

set_option maxRecDepth 100000
set_option maxHeartbeats 800000
namespace R7
open PySem PySem.Spec PyProof.Rows L2 GxR Gd TL My
theorem low_mem (c : Nat) : decide (c ∈ (Str.ofString "abcdefghijklmnopqrstuvwxyz").cps.toList) = lc c := by
  have e : (Str.ofString "abcdefghijklmnopqrstuvwxyz").cps.toList = (List.range 26).map (97 + ·) := by decide +kernel
  rw [e, Bool.eq_iff_iff, decide_eq_true_eq, List.mem_map]
  unfold lc
  simp only [Bool.and_eq_true, decide_eq_true_eq, List.mem_range]
  constructor
  · rintro ⟨a, ha, rfl⟩
    omega
  · rintro ⟨h1, h2⟩
    exact ⟨c - 97, by omega, by omega⟩
theorem all_filter {f : Nat → Bool} : ∀ l : List Nat, l.all f = decide (l.filter (fun c => !f c) = [])
  | [] => rfl
  | c :: r => by
    cases h : f c with
    | true => rw [List.all_cons, h, Bool.true_and, all_filter r, List.filter_cons_of_neg (by simp [h])]
    | false =>
      rw [List.all_cons, h, Bool.false_and, List.filter_cons_of_pos (by simp [h])]
      simp
theorem dig_mem (c : Nat) : decide (c ∈ (Str.ofString "0123456789").cps.toList) = dg c := by
  have e : (Str.ofString "0123456789").cps.toList = (List.range 10).map (48 + ·) := by decide +kernel
  rw [e, Bool.eq_iff_iff, decide_eq_true_eq, List.mem_map]
  unfold dg
  simp only [Bool.and_eq_true, decide_eq_true_eq, List.mem_range]
  constructor
  · rintro ⟨a, ha, rfl⟩
    omega
  · intro h
    exact ⟨c - 48, by omega, by omega⟩
theorem dig_at {c : Nat} (h : dg c = true) : ∃ rest, Builtin.Str.occurrences (Str.ofString "0123456789") ⟨#[c]⟩ 0 (Str.ofString "0123456789").length 1 = (c - 48) :: rest := by
  have key : ∀ d : Nat, d < 10 → (Builtin.Str.occurrences (Str.ofString "0123456789") ⟨#[48 + d]⟩ 0 (Str.ofString "0123456789").length 1).head? = some d := by decide +kernel
  unfold dg at h
  simp only [Bool.and_eq_true, decide_eq_true_eq] at h
  have q := key (c - 48) (by omega)
  rw [show 48 + (c - 48) = c by omega] at q
  cases e : Builtin.Str.occurrences (Str.ofString "0123456789") ⟨#[c]⟩ 0 (Str.ofString "0123456789").length 1 with
  | nil => rw [e] at q; cases q
  | cons a r =>
    rw [e] at q
    exact ⟨r, by rw [show a = c - 48 from Option.some.inj q]⟩
/-- the number that a word writes, as the law reads it -/
def numR (z : Str) : Option Nat := if ((decide (1 ≤ z.length) && decide (z.length ≤ 4)) && (tl z).all dg && !(decide ((tl z).head? = some 48) && decide (1 < z.length))) = true then some (valOf z) else none
theorem nm_len (z : Str) : nm (.str z) = (decide (1 ≤ z.length) && decide (z.length ≤ 6) && z.cps.toList.all lc) := rfl
section
variable {P : Program} {w : World} {K : PySem.W.Frag} {mg : Str → Option Value} {base : Heap}
abbrev s_law_number : Stmt := top 41
theorem sc_law_number : FnScope ["_law_word", "_law_number_here", "_law_sign"] ["_law_word"] (defScope s_law_number) := ⟨rfl, rfl, rfl, by decide +kernel, rfl, by decide +kernel, by decide +kernel⟩
abbrev s_law_is_name : Stmt := top 42
theorem sc_law_is_name : FnScope ["_law_word", "_law_letters", "_law_sign"] ["_law_word"] (defScope s_law_is_name) := ⟨rfl, rfl, rfl, by decide +kernel, rfl, by decide +kernel, by decide +kernel⟩
abbrev s_law_read : Stmt := top 43
theorem sc_law_read : FnScope ["_law_text", "_law_found", "_law_at", "_law_row_here", "_law_words", "_law_times", "_law_word"] ["_law_text"] (defScope s_law_read) := ⟨rfl, rfl, rfl, by decide +kernel, rfl, by decide +kernel, by decide +kernel⟩
def spLawName : Sp := fun vs H Q _ => ∃ (z : Str), vs = [.str z] ∧ z.length ≤ 200000 ∧ ∀ H', Same H H' → Q (.bl (nm (.str z))) H'
theorem ok_law_is_name {f : Addr} {fd : FuncData} (F : Fun K "_law_is_name" "_law_is_name" s_law_is_name f fd) (T : Txt mg) :
    FnOk P w K mg base CX0 2 f fd ["_law_word"] spLawName := by
  refine F.ok sc_law_is_name (fun vs H Q E h => ?_) (fun cdv A outer s H vs Q E hr h => ?_)
  · obtain ⟨z, rfl, _⟩ := h
    rfl
  · obtain ⟨z, rfl, zl, k⟩ := h
    have hu := Nat.lt_of_le_of_lt (Nat.le_add_right _ 64) hr.units
    refine ⟨_, pss_cons (ps_set (i := 1) sc_law_is_name.nd rfl (Or.inr rfl) pe_str)
      (pss_one (ps_ret (pe_and (pe_chain op_lt op_lt pe_int (pe_callB call_len_str (by rfl) T.len_ PySem.boot_len (pa_cons (pv 0) pa_nil)) pe_int) (pe_one (pe_cmpR (op_eqL0 hu) (pe_lc (own := [("_law_sign", 2)]) (g := gName 2) rfl sc_law_is_name.nd (pi_str (pv 0)) (blkOk_by (own := [("_law_sign", 2)]) (N := ["_law_word", "_law_letters", "_law_sign"]) (sc := defScope s_law_is_name) (by decide +kernel)) (fun _ _ _ _ _ => (pg_name (i := 2) sc_law_is_name.nd rfl (Or.inl rfl))) (fun _ _ _ _ _ => pts_one (pt_cmpR op_notIn_str (pv 2) (pv 1) rfl)) (fun _ _ _ _ _ => (pv 2))) (pe_lst pa_nil) (nomark _)))))), ?_⟩
    have no : (nm (.str z) = false) → Q (.bl false) H := fun e => by
      have := k H (Same.refl H)
      rw [e] at this
      exact this
    have nA : ¬ 1 ≤ z.length → nm (.str z) = false := fun h => by rw [nm_len, decide_eq_false h, Bool.false_and, Bool.false_and]
    have nB : ¬ z.length ≤ 6 → nm (.str z) = false := fun h => by rw [nm_len, decide_eq_false h, Bool.and_false, Bool.false_and]
    refine ⟨_, rfl, z, rfl, small_line (by omega), _, _, rfl, rfl, ?_⟩
    refine ⟨_, rfl, ite2 (fun c0 => ?_) (fun c0 => ⟨_, rfl, iteF (no (nA ?_))⟩)⟩
    case refine_2 =>
      have : ¬ ((0 : Int) < z.length) := of_decide_eq_false (by simpa using c0)
      omega
    refine ⟨_, _, rfl, rfl, _, rfl, ite2 (fun c1 => ?_) (fun c1 => no (nB ?_))⟩
    case refine_2 =>
      have : ¬ ((z.length : Int) < 7) := of_decide_eq_false (by simpa using c1)
      omega
    have l0 : 1 ≤ z.length := by have := of_decide_eq_true c0; omega
    have l6 : z.length ≤ 6 := by have := of_decide_eq_true c1; omega
    refine ⟨_, rfl, z, rfl, fun D hD => lc_it walk_str (fun i H' => ∃ cs : List Nat, H' D = some (.lst (cs.map fun c => V.str ⟨#[c]⟩)) ∧ cs = (z.cps.toList.take i).filter (fun c => !lc c) ∧ Same H H') ?_ ?_ ?_ ?_⟩
    · exact ⟨[], upd_same, rfl, same_alloc hD⟩
    · intros; trivial
    · rintro i x H1 H2 hi ⟨cs, e1, e2, s1⟩ ⟨rfl, c, hc, rfl⟩
      refine ⟨rfl, _, rfl, _, rfl, _, _, rfl, rfl, _, rfl, ?_⟩
      rw [StrLaws.found_one, low_mem]
      have hc' : z.cps.toList[i]? = some c := by rw [Array.getElem?_toList]; exact hc
      cases hl : lc c with
      | true => exact ⟨cs, e1, by rw [take_at hc', List.filter_append, e2]; simp [hl], s1⟩
      | false =>
        refine ⟨_, rfl, _, e1, ?_, cs ++ [c], ?_, by rw [take_at hc', List.filter_append, e2]; simp [hl], ?_⟩
        · rw [List.length_map, e2]
          have h1 := List.length_filter_le (fun c => !lc c) (z.cps.toList.take i)
          have h2 := List.length_take_le i z.cps.toList
          have h3 : i < z.length := hi
          exact lt_line _ (by omega)
        · rw [upd_same, List.map_append]
          rfl
        · exact fun c o h => by
            rw [upd_ne (ne_of_none h hD)]
            exact s1 _ _ h
    · rintro H1 ⟨cs, e1, e2, s1⟩
      rw [List.take_of_length_le (by exact Nat.le_refl _)] at e2
      refine ⟨Nat.zero_le _, fun L hL => ?_⟩
      refine ⟨D, L, _, rfl, rfl, SqL.of (same_alloc hL _ _ e1), SqL.of upd_same, ?_⟩
      have sL := s1.trans (same_alloc (o := .lst []) hL)
      generalize upd H1 L (.lst []) = H3 at sL ⊢
      have em : (cs.map fun c => V.str ⟨#[c]⟩).isEmpty = z.cps.toList.all lc := by
        rw [all_filter, ← e2]
        cases cs <;> rfl
      rw [em]
      have q := k H3 sL
      rw [nm_len, decide_eq_true l0, decide_eq_true l6, Bool.true_and, Bool.true_and] at q
      exact q
def spLawNum : Sp := fun vs H Q _ => ∃ (z : Str), vs = [.str z] ∧ z.length ≤ 200000 ∧ ∀ H', Same H H' → (numR z = none → Q .non H') ∧ ∀ n, numR z = some n → Q (.int (n : Nat)) H'
theorem ok_law_number {f : Addr} {fd : FuncData} (F : Fun K "_law_number" "_law_number" s_law_number f fd) (T : Txt mg) :
    FnOk P w K mg base CX0 2 f fd ["_law_word"] spLawNum := by
  refine F.ok sc_law_number (fun vs H Q E h => ?_) (fun cdv A outer s H vs Q E hr h => ?_)
  · obtain ⟨z, rfl, _⟩ := h
    rfl
  · obtain ⟨z, rfl, zl, k⟩ := h
    have hu := Nat.lt_of_le_of_lt (Nat.le_add_right _ 64) hr.units
    refine ⟨_, pss_cons (ps_if (PW.pt (pw_or (pt_not (pt_chain op_le op_le pe_int (pe_callB call_len_str (by rfl) T.len_ PySem.boot_len (pa_cons (pv 0) pa_nil)) pe_int)) (pw_or1 (pt_cmpR (op_neL0 hu) (pe_lc (own := [("_law_sign", 2)]) (g := gName 2) rfl sc_law_number.nd (pi_str (pv 0)) (blkOk_by (own := [("_law_sign", 2)]) (N := ["_law_word", "_law_number_here", "_law_sign"]) (sc := defScope s_law_number) (by decide +kernel)) (fun _ _ _ _ _ => (pg_name (i := 2) sc_law_number.nd rfl (Or.inl rfl))) (fun _ _ _ _ _ => pts_one (pt_cmpR op_notIn_str (pv 2) pe_str rfl)) (fun _ _ _ _ _ => (pv 2))) (pe_lst pa_nil) (nomark _))))) (pss_one (ps_ret pe_non)) pss_nil)
      (pss_cons (ps_if (PW.pt (pw_and (pt_cmpR op_eq (pe_ix ix_str (pv 0) pe_int (fun _ _ => rfl)) pe_str (nomark _)) (pw_and1 (pt_cmpR op_gt (pe_callB call_len_str (by rfl) T.len_ PySem.boot_len (pa_cons (pv 0) pa_nil)) pe_int (nomark _))))) (pss_one (ps_ret pe_non)) pss_nil)
      (pss_cons (ps_set (i := 1) sc_law_number.nd rfl (Or.inl rfl) pe_int)
      (pss_cons (ps_for PassesOwn.never rfl (pi_str (pv 0)) (pg_name (i := 2) sc_law_number.nd rfl (Or.inl rfl)) (pss_one (ps_set (i := 1) sc_law_number.nd rfl (Or.inl rfl) (pe_op op_add (pe_op op_mul pe_int (pv 1)) (pe_bm PySem.F.plainAttrs_str PySem.F.slot_str_index PySem.F.type_str_index mt_sindex pe_str (pa_cons (pv 2) pa_nil))))))
      (pss_one (ps_ret (pv 1)))))), ?_⟩
    have no : ∀ H', Same H H' → numR z = none → Q .non H' := fun H' s e => (k H' s).1 e
    have nn : ∀ {c : Bool}, c = false → (if c = true then some (valOf z) else none) = none := fun {c} h => by rw [h]; rfl
    refine ⟨_, rfl, z, rfl, small_line (by omega), _, _, rfl, rfl, ?_⟩
    refine ⟨_, rfl, ite2 (fun c0 => ?_) (fun c0 => ⟨_, rfl, iteT (no H (Same.refl H) (nn ?_))⟩)⟩
    case refine_2 =>
      have : ¬ ((1 : Int) ≤ z.length) := of_decide_eq_false (by simpa using c0)
      rw [decide_eq_false (p := 1 ≤ z.length) (by omega)]
      simp
    refine ⟨_, _, rfl, rfl, _, rfl, ite2 (fun c1 => ?_) (fun c1 => ?_)⟩
    · refine iteT (no H (Same.refl H) (nn ?_))
      have : ¬ ((z.length : Int) ≤ 4) := by simpa using c1
      rw [decide_eq_false (p := z.length ≤ 4) (by omega)]
      simp
    have l0 : 1 ≤ z.length := by have := of_decide_eq_true c0; omega
    have l4 : z.length ≤ 4 := by
      have : (z.length : Int) ≤ 4 := by simpa using c1
      omega
    refine ⟨_, rfl, z, rfl, fun D hD => lc_it walk_str (fun i H' => ∃ cs : List Nat, H' D = some (.lst (cs.map fun c => V.str ⟨#[c]⟩)) ∧ cs = (z.cps.toList.take i).filter (fun c => !dg c) ∧ Same H H') ?_ ?_ ?_ ?_⟩
    · exact ⟨[], upd_same, rfl, same_alloc hD⟩
    · intros; trivial
    · rintro i x H1 H2 hi ⟨cs, e1, e2, s1⟩ ⟨rfl, c, hc, rfl⟩
      refine ⟨rfl, _, rfl, _, _, rfl, rfl, _, rfl, ?_⟩
      rw [StrLaws.found_one, dig_mem]
      have hc' : z.cps.toList[i]? = some c := by rw [Array.getElem?_toList]; exact hc
      cases hl : dg c with
      | true => exact ⟨cs, e1, by rw [take_at hc', List.filter_append, e2]; simp [hl], s1⟩
      | false =>
        refine ⟨_, rfl, _, e1, ?_, cs ++ [c], ?_, by rw [take_at hc', List.filter_append, e2]; simp [hl], ?_⟩
        · rw [List.length_map, e2]
          have h1 := List.length_filter_le (fun c => !dg c) (z.cps.toList.take i)
          have h2 := List.length_take_le i z.cps.toList
          have h3 : i < z.length := hi
          exact lt_line _ (by omega)
        · rw [upd_same, List.map_append]
          rfl
        · exact fun c o h => by
            rw [upd_ne (ne_of_none h hD)]
            exact s1 _ _ h
    · rintro H1 ⟨cs, e1, e2, s1⟩
      rw [List.take_of_length_le (by exact Nat.le_refl _)] at e2
      refine ⟨Nat.zero_le _, fun L hL => ?_⟩
      refine ⟨D, L, _, rfl, rfl, SqL.of (same_alloc hL _ _ e1), SqL.of upd_same, ?_⟩
      have sL := s1.trans (same_alloc (o := .lst []) hL)
      generalize upd H1 L (.lst []) = H3 at sL ⊢
      have em : (cs.map fun c => V.str ⟨#[c]⟩).isEmpty = z.cps.toList.all dg := by
        rw [all_filter, ← e2]
        cases cs <;> rfl
      rw [em]
      have yes : ¬ ((tl z).head? = some 48 ∧ 1 < z.length) → z.cps.toList.all dg = true → numR z = some (valOf z) := fun nz hd => by
        unfold numR
        rw [decide_eq_true l0, decide_eq_true l4, show (tl z).all dg = true from hd]
        have : (decide ((tl z).head? = some 48) && decide (1 < z.length)) = false := by
          rw [Bool.and_eq_false_iff, decide_eq_false_iff_not, decide_eq_false_iff_not]
          exact Classical.or_iff_not_imp_left.mpr fun h => fun q => nz ⟨Classical.not_not.mp h, q⟩
        rw [this]
        rfl
      refine ⟨_, rfl, ?_⟩
      cases hd : z.cps.toList.all dg with
      | false =>
        refine iteT (no H3 sL (nn ?_))
        rw [show (tl z).all dg = false from hd]
        simp
      | true =>
        have yes := fun nz => yes nz hd
        obtain ⟨c0', r0, ec0⟩ : ∃ c r, z.cps.toList = c :: r := by
          cases q : z.cps.toList with
          | nil =>
            have : (tl z).length = 0 := by rw [show tl z = [] from q]; rfl
            rw [← len_tl] at this
            omega
          | cons c r => exact ⟨c, r, rfl⟩
        have hh : (tl z).head? = some c0' := by rw [show tl z = c0' :: r0 from ec0]; rfl
        have e48 : decide (V.str ⟨#[c0']⟩ = V.str (Str.ofString "0")) = decide (c0' = 48) := by
          rw [Bool.eq_iff_iff, decide_eq_true_eq, decide_eq_true_eq]
          refine ⟨fun h => ?_, fun h => by rw [h]; rfl⟩
          have q := congrArg tl (V.str.inj h)
          have q2 : [c0'] = [48] := q.trans (by decide +kernel)
          exact (List.cons.inj q2).1
        refine iteF ⟨_, rfl, z, 0, c0', rfl, rfl, small_line (by omega), by rw [ec0]; exact atI_nat (j := 0) rfl, rfl, _, rfl, ?_⟩
        rw [e48]
        refine ite2 (fun c48 => ?_) (fun c48 => ?_)
        · have c48 : c0' = 48 := of_decide_eq_true c48
          refine ⟨_, rfl, z, rfl, small_line (by omega), _, _, rfl, rfl, _, rfl, ite2 (fun c2 => ?_) (fun c2 => ?_)⟩
          · have c2 : (1 : Int) < z.length := of_decide_eq_true c2
            refine no H3 sL (nn ?_)
            rw [hh, c48, decide_eq_true (show 1 < z.length by omega)]
            simp
          · have c2 : ¬ (1 : Int) < z.length := of_decide_eq_false (by simpa using c2)
            have nz : ¬ ((tl z).head? = some 48 ∧ 1 < z.length) := fun h => by omega
            refine ⟨_, rfl, z, rfl, for_it (D := ⟨_, _, fun _ _ => False, fun _ _ => False⟩) walk_str (fun i σ H' => ∃ u : Option V, σ = [some (.str z), some (.int ((NumText.digitsVal ((tl z).take i) : Nat) : Int)), u] ∧ H' = H3) ⟨_, rfl, rfl⟩ (fun _ _ _ _ _ => trivial) ?_ ?_⟩
            · rintro i x σ X1 X2 hi ⟨u, rfl, rfl⟩ ⟨rfl, c, hc, rfl⟩
              have hc' : (tl z)[i]? = some c := by show z.cps.toList[i]? = some c; rw [Array.getElem?_toList]; exact hc
              obtain ⟨rest, occ⟩ := dig_at (List.all_eq_true.mp hd c (List.mem_of_getElem? hc'))
              refine ⟨_, rfl, _, _, rfl, rfl, .inl ⟨by decide, by decide⟩, rfl, _, rfl, _, _, c - 48, rest, rfl, rfl, occ, _, _, rfl, rfl, some (.str ⟨#[c]⟩), ?_, rfl⟩
              have e : (10 : Int) * ((NumText.digitsVal ((tl z).take i) : Nat) : Int) + ((c - 48 : Nat) : Int) = ((NumText.digitsVal ((tl z).take (i + 1)) : Nat) : Int) := by
                rw [take_at hc', NumText.digitsVal_snoc]
                omega
              rw [← e]
              rfl
            · rintro σ X ⟨u, rfl, rfl⟩
              have et : (tl z).take z.cps.size = tl z := List.take_of_length_le (by show z.cps.toList.length ≤ _; simp)
              rw [et]
              exact ⟨_, rfl, (k _ sL).2 _ (yes nz)⟩
        · have c48 : ¬ c0' = 48 := of_decide_eq_false (by simpa using c48)
          have nz : ¬ ((tl z).head? = some 48 ∧ 1 < z.length) := fun h => c48 (by rw [hh] at h; exact Option.some.inj h.1)
          refine iteF ?_
          refine ⟨_, rfl, z, rfl, for_it (D := ⟨_, _, fun _ _ => False, fun _ _ => False⟩) walk_str (fun i σ H' => ∃ u : Option V, σ = [some (.str z), some (.int ((NumText.digitsVal ((tl z).take i) : Nat) : Int)), u] ∧ H' = H3) ⟨_, rfl, rfl⟩ (fun _ _ _ _ _ => trivial) ?_ ?_⟩
          · rintro i x σ X1 X2 hi ⟨u, rfl, rfl⟩ ⟨rfl, c, hc, rfl⟩
            have hc' : (tl z)[i]? = some c := by show z.cps.toList[i]? = some c; rw [Array.getElem?_toList]; exact hc
            obtain ⟨rest, occ⟩ := dig_at (List.all_eq_true.mp hd c (List.mem_of_getElem? hc'))
            refine ⟨_, rfl, _, _, rfl, rfl, .inl ⟨by decide, by decide⟩, rfl, _, rfl, _, _, c - 48, rest, rfl, rfl, occ, _, _, rfl, rfl, some (.str ⟨#[c]⟩), ?_, rfl⟩
            have e : (10 : Int) * ((NumText.digitsVal ((tl z).take i) : Nat) : Int) + ((c - 48 : Nat) : Int) = ((NumText.digitsVal ((tl z).take (i + 1)) : Nat) : Int) := by
              rw [take_at hc', NumText.digitsVal_snoc]
              omega
            rw [← e]
            rfl
          · rintro σ X ⟨u, rfl, rfl⟩
            have et : (tl z).take z.cps.size = tl z := List.take_of_length_le (by show z.cps.toList.length ≤ _; simp)
            rw [et]
            exact ⟨_, rfl, (k _ sL).2 _ (yes nz)⟩
end
end R7

set_option maxRecDepth 100000
set_option maxHeartbeats 800000
namespace R7
open PySem PySem.Spec PyProof.Rows L2 GxR Gd TL My
/-! ### the two readings of a row are one -/
theorem snoc_of {α : Type} : ∀ {l : List α}, l ≠ [] → ∃ r x, l = r ++ [x]
  | [], h => absurd rfl h
  | [a], _ => ⟨[], a, rfl⟩
  | a :: b :: t, _ => by
    obtain ⟨r, x, e⟩ := snoc_of (l := b :: t) (by simp)
    exact ⟨a :: r, x, by rw [e]; rfl⟩
theorem canon : ∀ (n : Nat) {ds : List Nat}, ds.length = n → NumText.AllDigits ds → ds ≠ [] → (ds.head? ≠ some 48 ∨ ds.length = 1) → numL (NumText.digitsVal ds) = ds := by
  intro n
  induction n using Nat.strongRecOn with
  | _ n ih =>
    intro ds hn hd hne hz
    obtain ⟨cs, c, rfl⟩ := snoc_of hne
    have hc := hd c (List.mem_append_right _ (List.mem_singleton.mpr rfl))
    have hcs : NumText.AllDigits cs := fun x hx => hd x (List.mem_append_left _ hx)
    rw [NumText.digitsVal_snoc]
    by_cases e : cs = []
    · subst e
      have z : NumText.digitsVal ([] : List Nat) = 0 := rfl
      rw [z, numL_lt (by omega)]
      show [48 + (0 * 10 + (c - 48))] = [c]
      congr 1
      omega
    · have hl : cs.length < n := by rw [← hn, List.length_append]; exact Nat.lt_succ_self _
      have h1 : cs.head? ≠ some 48 := by
        rcases hz with hz | hz
        · cases cs with
          | nil => exact absurd rfl e
          | cons a r => exact hz
        · rw [List.length_append] at hz
          have : 0 < cs.length := List.length_pos_iff.mpr e
          have hz : cs.length + 1 = 1 := hz
          omega
      have q := ih cs.length hl rfl hcs e (.inl h1)
      have pos : 1 ≤ NumText.digitsVal cs := by
        cases v : NumText.digitsVal cs with
        | zero =>
          rw [v] at q
          have z : numL 0 = [48] := numL_lt (by decide)
          rw [z] at q
          rw [← q] at h1
          exact absurd rfl h1
        | succ k => omega
      rw [numL_step (by omega), show (NumText.digitsVal cs * 10 + (c - 48)) / 10 = NumText.digitsVal cs by omega, show (NumText.digitsVal cs * 10 + (c - 48)) % 10 = c - 48 by omega, q, show 48 + (c - 48) = c by omega]
theorem lead {ds : List Nat} (h : NumText.AllDigits ds) (h0 : ds.head? = some 48) (h1 : 1 < ds.length) : numL (NumText.digitsVal ds) ≠ ds := by
  cases ds with
  | nil => cases h0
  | cons a r =>
    have h0 : a = 48 := by simpa using h0
    subst h0
    intro e
    have v : NumText.digitsVal (48 :: r) = NumText.digitsVal r := rfl
    have hr : NumText.AllDigits r := fun x hx => h x (List.mem_cons_of_mem _ hx)
    have l := vals_lt hr
    rw [v] at e
    have r1 : 0 < r.length := by rw [List.length_cons] at h1; omega
    have := numL_len r1 l
    rw [e, List.length_cons] at this
    omega
theorem txt_num (n : Nat) (z : Str) : Str.ofString (toString ((n : Nat) : Int)) = z ↔ numL n = tl z := by
  refine ⟨fun h => by rw [← h, tl_num], fun h => tl_inj1 (by rw [tl_num, h])⟩
/-- what is read as a time -/
theorem time_eq (z : Str) : (∀ n, numR z = some n → partOf z = .n ((n : Nat) : Int) ∧ n ≤ 9999) ∧ (numR z = none → So.time.okB (partOf z) = false) := by
  refine ⟨fun n h => ?_, fun h => ?_⟩
  · unfold numR at h
    split at h
    · rename_i c
      obtain rfl := Option.some.inj h
      simp only [Bool.and_eq_true, decide_eq_true_eq, Bool.not_eq_true', Bool.and_eq_false_iff, decide_eq_false_iff_not] at c
      obtain ⟨⟨⟨c1, c2⟩, c3⟩, c4⟩ := c
      have ad := all_dg.mp c3
      have dg : digs z = true := by
        unfold digs
        rw [decide_eq_true c1, decide_eq_true (show z.length ≤ 6 by omega), c3]
        rfl
      have ne : tl z ≠ [] := fun e => by
        rw [len_tl, e] at c1
        exact absurd c1 (by decide)
      have cn := canon _ rfl ad ne (by
        rcases c4 with c4 | c4
        · exact .inl c4
        · right
          rw [len_tl] at c1 c4
          omega)
      have v := vals_lt ad
      rw [← len_tl] at v
      have v4 : valOf z < 10 ^ 4 := Nat.lt_of_lt_of_le v (Nat.pow_le_pow_right (by decide) c2)
      refine ⟨?_, by omega⟩
      have cz : Str.ofString (toString ((valOf z : Nat) : Int)) = z := (txt_num _ _).mpr cn
      unfold partOf
      rw [dg, if_pos rfl, if_pos cz]
    · cases h
  · unfold partOf
    split
    · rename_i hd
      split
      · rename_i e
        have e := (txt_num _ _).mp e
        have hd' := hd
        unfold digs at hd'
        simp only [Bool.and_eq_true, decide_eq_true_eq] at hd'
        obtain ⟨⟨d1, d2⟩, d3⟩ := hd'
        cases o : So.time.okB (.n ((valOf z : Nat) : Int)) with
        | false => rfl
        | true =>
          obtain ⟨i, e1, i0, i1⟩ := wh_int (show wh 0 9999 (.int ((valOf z : Nat) : Int)) = true from o)
          obtain rfl := V.int.inj e1
          have l4 := numL_len (n := valOf z) (k := 4) (by decide) (by omega)
          have e : numL (valOf z) = tl z := e
          rw [e, ← len_tl] at l4
          unfold numR at h
          rw [if_pos] at h
          · cases h
          · rw [decide_eq_true d1, decide_eq_true l4, d3]
            have : (decide ((tl z).head? = some 48) && decide (1 < z.length)) = false := by
              rw [Bool.and_eq_false_iff, decide_eq_false_iff_not, decide_eq_false_iff_not]
              refine Classical.or_iff_not_imp_left.mpr fun h0 q => ?_
              exact lead (all_dg.mp d3) (Classical.not_not.mp h0) (by rw [← len_tl]; exact q) e
            rw [this]
            rfl
      · rfl
    · rfl
theorem name_eq (z : Str) : So.name.okB (partOf z) = nm (.str z) ∧ (nm (.str z) = true → partOf z = .s z) := by
  have key : nm (.str z) = true → partOf z = .s z := fun h => by
    have q := nm_name h
    unfold partOf
    have : digs z = false := by
      cases e : digs z with
      | false => rfl
      | true =>
        unfold digs at e
        simp only [Bool.and_eq_true, decide_eq_true_eq] at e
        cases t : tl z with
        | nil =>
          have := e.1.1
          rw [len_tl, t] at this
          exact absurd this (by decide)
        | cons c r =>
          have d := List.all_eq_true.mp e.2 c (by rw [t]; exact List.mem_cons_self ..)
          have l := List.all_eq_true.mp q.2.2 c (by show c ∈ tl z; rw [t]; exact List.mem_cons_self ..)
          unfold dg at d
          unfold lc at l
          simp only [Bool.and_eq_true, decide_eq_true_eq] at d l
          omega
    rw [this, if_neg Bool.false_ne_true]
  refine ⟨?_, key⟩
  cases h : nm (.str z) with
  | true =>
    rw [key h]
    exact h
  | false =>
    unfold partOf
    split
    · split
      · rfl
      · exact h
    · exact h
/-- a row, as the law reads it -/
theorem run_read {z : Str} {w0 w1 w2 w3 w4 : Str} (e : wordsOf z = [w0, w1, w2, w3, w4]) :
    (∀ n3 n4, nm (.str w0) = true → nm (.str w1) = true → nm (.str w2) = true → numR w3 = some n3 → numR w4 = some n4 → runOf z = some [.s w0, .s w1, .s w2, .n ((n3 : Nat) : Int), .n ((n4 : Nat) : Int)]) ∧
    ((nm (.str w0) = false ∨ nm (.str w1) = false ∨ nm (.str w2) = false ∨ numR w3 = none ∨ numR w4 = none) → runOf z = none) := by
  refine ⟨fun n3 n4 h0 h1 h2 h3 h4 => ?_, fun h => ?_⟩
  · have e0 := (name_eq w0).2 h0
    have e1 := (name_eq w1).2 h1
    have e2 := (name_eq w2).2 h2
    obtain ⟨e3, l3⟩ := (time_eq w3).1 n3 h3
    obtain ⟨e4, l4⟩ := (time_eq w4).1 n4 h4
    have em : (wordsOf z).map partOf = [.s w0, .s w1, .s w2, .n ((n3 : Nat) : Int), .n ((n4 : Nat) : Int)] := by
      rw [e]
      simp only [List.map_cons, List.map_nil, e0, e1, e2, e3, e4]
    unfold runOf
    rw [em, if_pos]
    exact ⟨by rw [e]; rfl, run_made (nm_name h0) (nm_name h1) (nm_name h2) ⟨by omega, by omega⟩ ⟨by omega, by omega⟩⟩
  · unfold runOf
    rw [if_neg]
    rintro ⟨_, q⟩
    rw [e] at q
    unfold okRun at q
    simp only [runS, List.map_cons, List.map_nil, List.zip_cons_cons, List.zip_nil_right, List.all_cons, List.all_nil, Bool.and_true, Bool.and_eq_true] at q
    obtain ⟨_, q0, q1, q2, q3, q4⟩ := q
    rw [(name_eq _).1] at q0 q1 q2
    rcases h with h | h | h | h | h
    · rw [q0] at h; cases h
    · rw [q1] at h; cases h
    · rw [q2] at h; cases h
    · rw [(time_eq w3).2 h] at q3; cases q3
    · rw [(time_eq w4).2 h] at q4; cases q4
end R7

set_option maxRecDepth 100000
set_option maxHeartbeats 800000
namespace R7
open PySem PySem.Spec PyProof.Rows L2 GxR Gd TL My
theorem rows_ifx {z : Str} (wz : WOk z) {σ : L2.St} (h0 : σ[0]? = some (some (.str z))) {H : Hp} {G : VK} (k : ∀ a, H a = none → G (.ref a) (upd H a (.lst ((rowsIn z).map V.str)))) :
    tC (V.str (Str.ofString "")) σ H fun y H2 => rNe (V.str z) y H2 fun x H' => ∃ k, x = V.bl k ∧ if k = true then tM1 (fun x xs H Q => ∃ a b, x = V.str a ∧ xs = [V.str b] ∧ (b.length == 0) = false ∧ a.length + 2 ≤ sizeLine ∧ rNewStrs (Txt.split a b) H Q) (tVar 0) (tC (V.str (Str.ofString "\n"))) σ H' G else tLst tNil σ H' G := by
  by_cases e : z = Str.empty
  · have q := k
    rw [show rowsIn z = [] from if_pos e] at q
    refine ⟨rfl, false, congrArg V.bl (by subst e; decide +kernel), iteF ⟨Nat.zero_le _, q⟩⟩
  · have q := k
    rw [show rowsIn z = PySem.Txt.split z (Str.ofString "\n") from if_neg e] at q
    refine ⟨rfl, true, congrArg V.bl ?_, iteT ⟨_, h0, ⟨_, rfl⟩, z, _, rfl, rfl, by decide +kernel, fit2 (by have := wz.1; omega), q⟩⟩
    have : ¬ V.str z = V.str (Str.ofString "") := fun h => e ((V.str.inj h).trans (by decide +kernel))
    rw [decide_eq_false this]
    rfl

def numV (z : Str) : V := match numR z with
  | none => .non
  | some n => .int ((n : Nat) : Int)
section
variable {P : Program} {w : World} {K : PySem.W.Frag} {mg : Str → Option Value} {base : Heap}
/-- what the law's reading tells -/
def spLawRead : Sp := fun vs H Q _ => ∃ (v : V), vs = [v] ∧ Th H v ∧ (∀ z, v = .str z → WOk z) ∧
  (∀ n : Nat, readV v = .inl n → ∀ p H', H p = none → Same H H' → H' p = some (.tup [.str "text", .int (n : Nat)]) → Q (.ref p) H') ∧
  (∀ l, readV v = .inr l → ∀ p t H' vs, H p = none → H t = none → Same H H' → H' p = some (.tup [.str "told", .ref t]) → H' t = some (.lst vs) → Runs H' vs l → Q (.ref p) H')
theorem ok_law_read {f f1 f2 : Addr} {fd fd1 fd2 : FuncData} (F : Fun K "_law_read" "_law_read" s_law_read f fd) (T : Txt mg)
    (Nlaw_is_name : Fn K mg "_law_is_name" s_law_is_name ["_law_word"] f1 fd1) (Glaw_is_name : FnOk P w K mg base CX0 2 f1 fd1 ["_law_word"] spLawName)
    (Nlaw_number : Fn K mg "_law_number" s_law_number ["_law_word"] f2 fd2) (Glaw_number : FnOk P w K mg base CX0 2 f2 fd2 ["_law_word"] spLawNum) :
    FnOk P w K mg base CX0 3 f fd ["_law_text"] spLawRead := by
  refine F.ok sc_law_read (fun vs H Q E h => ?_) (fun cdv A outer s H vs Q E hr h => ?_)
  · obtain ⟨v, rfl, _⟩ := h
    rfl
  · obtain ⟨v, rfl, th, wk, kt, ke⟩ := h
    have hu := Nat.lt_of_le_of_lt (Nat.le_add_right _ 64) hr.units
    refine ⟨_, pss_cons (ps_if (pt_not (pt_val (pe_callB call_isi (by rfl) T.isinstance_ (by decide +kernel) (pa_cons (pv 0) (pa_cons (pe_bltn (v := .ty "str") (by rfl) T.str_ (by decide +kernel) rfl) pa_nil))))) (pss_one (ps_ret (pe_tup (pa_cons pe_str (pa_cons pe_int pa_nil))))) pss_nil)
      (pss_cons (ps_set (i := 1) sc_law_read.nd rfl (Or.inl rfl) (pe_lst pa_nil))
      (pss_cons (ps_for PassesOwn.never rfl (pi_enum (by rfl) T.enumerate_ (pa_cons (pe_ifExp (pt_cmpR op_ne (pv 0) pe_str (nomark _)) (pe_split (pv 0) pe_str) (pe_lst pa_nil)) pa_nil)) (pg_tup (by rfl) (pgs_cons (pg_name (i := 2) sc_law_read.nd rfl (Or.inl rfl)) (pgs_cons (pg_name (i := 3) sc_law_read.nd rfl (Or.inl rfl)) pgs_nil))) (pss_cons (ps_set (i := 4) sc_law_read.nd rfl (Or.inl rfl) (pe_split (pv 3) pe_str))
          (pss_cons (ps_if (PW.pt (pw_or (pt_cmpR op_ne (pe_callB call_len_seq (by rfl) T.len_ PySem.boot_len (pa_cons (pv 4) pa_nil)) pe_int (nomark _)) (pw_or1 (pt_cmpR (op_neL0 hu) (pe_lc (own := [("_law_word", 6)]) (g := gName 6) rfl sc_law_read.nd (pi_list (pe_slice sl_list (pv 4) po_none (po_some pe_int))) (blkOk_by (own := [("_law_word", 6)]) (N := ["_law_text", "_law_found", "_law_at", "_law_row_here", "_law_words", "_law_times", "_law_word"]) (sc := defScope s_law_read) (by decide +kernel)) (fun _ _ _ _ _ => (pg_name (i := 6) sc_law_read.nd rfl (Or.inl rfl))) (fun _ _ _ _ _ => pts_one (pt_not (pt_val (pe_call Glaw_is_name (hr.mono (by decide)) (by rfl) Nlaw_is_name.g Nlaw_is_name.kp Nlaw_is_name.b .nil pass0 (pa_cons (pv 6) pa_nil))))) (fun _ _ _ _ _ => (pv 6))) (pe_lst pa_nil) (nomark _))))) (pss_one (ps_ret (pe_tup (pa_cons pe_str (pa_cons (pe_op op_add (pv 2) pe_int) pa_nil))))) pss_nil)
          (pss_cons (ps_setLc (i := 5) (own := [("_law_word", 6)]) (g := gName 6) (tt := tYes) rfl sc_law_read.nd rfl rfl (sw_true rfl rfl rfl (by decide +kernel)) (pi_list (pe_slice sl_list (pv 4) (po_some pe_int) po_none)) (blkOk_by (own := [("_law_word", 6)]) (N := ["_law_text", "_law_found", "_law_at", "_law_row_here", "_law_words", "_law_times", "_law_word"]) (sc := defScope s_law_read) (by decide +kernel)) (fun _ _ _ _ _ => (pg_name (i := 6) sc_law_read.nd rfl (Or.inl rfl))) (fun _ _ _ _ _ => pts_nil) (fun _ _ _ _ _ => (pe_call Glaw_number (hr.mono (by decide)) (by rfl) Nlaw_number.g Nlaw_number.kp Nlaw_number.b .nil pass0 (pa_cons (pv 6) pa_nil))))
          (pss_cons (ps_if (pt_cmpR op_in_seq pe_non (pv 5) rfl) (pss_one (ps_ret (pe_tup (pa_cons pe_str (pa_cons (pe_op op_add (pv 2) pe_int) pa_nil))))) pss_nil)
          (pss_one (ps_expr (pe_bm PySem.F.plainAttrs_list PySem.F.slot_list_append PySem.F.type_list_append mt_append (pv 1) (pa_cons (pe_tup (pa_cons (pe_ix ix_list (pv 4) pe_int (fun _ _ => rfl)) (pa_cons (pe_ix ix_list (pv 4) pe_int (fun _ _ => rfl)) (pa_cons (pe_ix ix_list (pv 4) pe_int (fun _ _ => rfl)) (pa_cons (pe_ix ix_list (pv 5) pe_int (fun _ _ => rfl)) (pa_cons (pe_ix ix_list (pv 5) pe_int (fun _ _ => rfl)) pa_nil)))))) pa_nil)))))))))
      (pss_one (ps_ret (pe_tup (pa_cons pe_str (pa_cons (pv 1) pa_nil))))))), ?_⟩
    by_cases hv : ∃ z, v = .str z
    · obtain ⟨z, rfl⟩ := hv
      have wz := wk z rfl
      have wr := rowsIn_wok wz
      have lr := rowsIn_len wz
      have ktz : ∀ n : Nat, scan 0 (rowsIn z) = .inl n → ∀ p H', H p = none → Same H H' → H' p = some (.tup [.str "text", .int (n : Nat)]) → Q (.ref p) H' := kt
      have kez : ∀ l, scan 0 (rowsIn z) = .inr l → ∀ p t H' vs, H p = none → H t = none → Same H H' → H' p = some (.tup [.str "told", .ref t]) → H' t = some (.lst vs) → Runs H' vs l → Q (.ref p) H' := ke
      have nonew : ∀ {X : Hp} {p : Addr}, Same H X → X p = none → H p = none := fun {X p} s hp => by
        cases e : H p with
        | none => rfl
        | some o => rw [s _ _ e] at hp; cases hp
      generalize hσ : L2.start _ _ = σ0
      obtain rfl : σ0 = [some (.str z), none, none, none, none, none, none] := hσ.symm.trans rfl
      refine ⟨_, rfl, _, _, _, _, true, rfl, .ty "str", .base (.str z), (by rfl), _, rfl, iteF ?_⟩
      refine ⟨Nat.zero_le _, fun D hD => ?_⟩
      simp only [List.set_cons_succ, List.set_cons_zero]
      refine ⟨_, rfl, ?_⟩
      refine rows_ifx wz rfl fun a ha => ?_
      have s0 : Same H (upd (upd H D (.lst [])) a (.lst ((rowsIn z).map V.str))) := (same_alloc hD).trans (same_alloc ha)
      have nDa : D ≠ a := fun q => by rw [← q, upd_same] at ha; cases ha
      have ea : (upd (upd H D (.lst [])) a (.lst ((rowsIn z).map V.str))) a = some (.lst ((rowsIn z).map V.str)) := upd_same
      have eD : (upd (upd H D (.lst [])) a (.lst ((rowsIn z).map V.str))) D = some (.lst []) := by rw [upd_ne nDa, upd_same]
      generalize upd (upd H D (.lst [])) a (.lst ((rowsIn z).map V.str)) = H2 at s0 ea eD ⊢
      generalize rowsIn z = rows at wr lr ktz kez ea ⊢
      refine ⟨a, _, rfl, SqL.of ea, for_it (D := ⟨_, _, fun _ _ => False, fun _ _ => False⟩) (walk_enum (K := K) (xs := rows.map V.str)) (fun i σ H' => ∃ (u2 u3 u4 u5 : Option V) (vs : List V) (l0 : List (List Pa)), σ = [some (.str z), some (.ref D), u2, u3, u4, u5, none] ∧ scan 0 rows = pre l0 (scan i (rows.drop i)) ∧ Same H H' ∧ H' a = some (.lst (rows.map V.str)) ∧ H' D = some (.lst vs) ∧ vs.length ≤ i ∧ Runs H' vs l0) ?_ ?_ ?_ ?_⟩
      · exact ⟨_, _, _, _, [], [], rfl, (pre_nil _).symm, s0, ea, eD, Nat.le_refl _, .nil⟩
      · rintro i σ H' _ ⟨_, _, _, _, _, _, _, _, _, e2, _⟩
        exact SqL.of e2
      · rintro i v σ X1 X2 hi ⟨u2, u3, u4, u5, vs, l0, rfl, sc, k2, eP, eV, lv, rs⟩ ⟨T1, X, Y, rfl, hT1, rfl, z1, z2⟩
        obtain rfl := Option.some.inj z1
        replace z2 : (rows.map V.str)[i]? = some Y := z2
        rw [List.getElem?_map] at z2
        cases er : rows[i]? with
        | none => rw [er] at z2; cases z2
        | some y =>
          rw [er] at z2
          obtain rfl := Option.some.inj z2
          have wy := wr y (List.mem_of_getElem? er)
          rw [drop_atG er] at sc
          have sT : Same X1 (upd X1 T1 (.tup [.int (i : Nat), .str y])) := same_alloc hT1
          have eT : upd X1 T1 (.tup [.int (i : Nat), .str y]) T1 = some (.tup [.int (i : Nat), .str y]) := upd_same
          refine ⟨T1, _, rfl, SqT.of eT, rfl, _, _, rfl, _, _, rfl, rfl, ?_⟩
          simp only [List.set_cons_succ, List.set_cons_zero]
          refine ⟨_, rfl, ⟨_, rfl⟩, y, _, rfl, rfl, by decide +kernel, fit2 (by have := wy.1; omega), fun W hW => ?_⟩
          rw [show PySem.Txt.split y (Str.ofString " ") = wordsOf y from rfl]
          have sW : Same X1 (upd (upd X1 T1 (.tup [.int (i : Nat), .str y])) W (.lst ((wordsOf y).map V.str))) := sT.trans (same_alloc hW)
          have eW : upd (upd X1 T1 (.tup [.int (i : Nat), .str y])) W (.lst ((wordsOf y).map V.str)) W = some (.lst ((wordsOf y).map V.str)) := upd_same
          generalize upd (upd X1 T1 (.tup [.int (i : Nat), .str y])) W (.lst ((wordsOf y).map V.str)) = X3 at sW eW ⊢
          simp only [List.set_cons_succ, List.set_cons_zero]
          have bad : runOf y = none → ∀ (X4 : Hp) (u : Addr), Same X1 X4 → X4 u = none → Q (.ref u) (upd X4 u (.tup [.str "text", .int ((i : Nat) + 1 : Int)])) := fun hn X4 u s4 hu4 => by
            have es : scan i (y :: rows.drop (i + 1)) = .inl (i + 1) := by
              unfold scan
              rw [hn]
            rw [es] at sc
            refine ktz (i + 1) sc u _ (nonew (k2.trans s4) hu4) ((k2.trans s4).trans (same_alloc hu4)) ?_
            rw [upd_same, show (((i + 1 : Nat) : Nat) : Int) = (i : Int) + 1 by omega]
          refine ⟨_, rfl, W, _, rfl, .inl (SqL.of eW), rfl, _, rfl, ?_⟩
          by_cases l5 : (wordsOf y).length = 5
          · obtain ⟨w0, w1, w2, w3, w4, ew⟩ : ∃ w0 w1 w2 w3 w4, wordsOf y = [w0, w1, w2, w3, w4] := by
              match wordsOf y, l5 with
              | [w0, w1, w2, w3, w4], _ => exact ⟨w0, w1, w2, w3, w4, rfl⟩
            obtain ⟨rok, rbad⟩ := run_read ew
            have wl : ∀ w ∈ wordsOf y, w.length ≤ 200000 := fun w hw => (split_wok wy hw).1
            rw [ew] at eW wl ⊢
            rw [decide_eq_true (show V.int (([w0, w1, w2, w3, w4].map V.str).length : Nat) = V.int 5 from rfl)]
            refine iteF ⟨_, rfl, _, rfl, W, _, rfl, SqL.of eW, fun q1 hq1 => ?_⟩
            rw [show cutV ([w0, w1, w2, w3, w4].map V.str) none (some 3) = [w0, w1, w2].map V.str from rfl]
            have s4 : Same X1 (upd X3 q1 (.lst ([w0, w1, w2].map V.str))) := sW.trans (same_alloc hq1)
            have e4 : upd X3 q1 (.lst ([w0, w1, w2].map V.str)) q1 = some (.lst ([w0, w1, w2].map V.str)) := upd_same
            have eW4 : upd X3 q1 (.lst ([w0, w1, w2].map V.str)) W = some (.lst ([w0, w1, w2, w3, w4].map V.str)) := same_alloc hq1 _ _ eW
            generalize upd X3 q1 (.lst ([w0, w1, w2].map V.str)) = X4 at s4 e4 eW4 ⊢
            refine ⟨q1, rfl, ⟨_, SqL.of e4⟩, fun Dq hDq => lc_it (walk_list (K := K) (xs := [w0, w1, w2].map V.str)) (fun j Z => Z Dq = some (.lst ((([w0, w1, w2].take j).filter fun w => !nm (.str w)).map V.str)) ∧ Same X4 Z) ⟨upd_same, same_alloc hDq⟩ (fun j Z _ h => SqL.of (h.2 _ _ e4)) ?_ ?_⟩
            · rintro j v Z Z' hj ⟨eg, sg⟩ ⟨rfl, hv⟩
              have hj3 : j < 3 := hj
              obtain ⟨x, hx⟩ : ∃ x, [w0, w1, w2][j]? = some x := ⟨_, List.getElem?_eq_getElem hj3⟩
              obtain rfl : v = .str x := by
                rw [List.getElem?_map, hx] at hv
                exact (Option.some.inj hv).symm
              have xl : x.length ≤ 200000 := wl x (by
                have := List.mem_of_getElem? hx
                simp only [List.mem_cons, List.not_mem_nil, or_false] at this ⊢
                rcases this with h | h | h <;> simp [h])
              refine ⟨rfl, _, rfl, x, rfl, xl, fun Z5 s5 => ⟨_, rfl, ?_⟩⟩
              cases hl : nm (.str x) with
              | true => exact ⟨by rw [take_at hx, List.filter_append, s5 _ _ eg]; simp [hl], sg.trans s5⟩
              | false =>
                refine ⟨_, rfl, _, s5 _ _ eg, ?_, ?_, fun c o h => by rw [upd_ne (ne_of_none h hDq)]; exact s5 _ _ (sg _ _ h)⟩
                · rw [List.length_map]
                  refine lt_line _ (Nat.le_trans (List.length_filter_le _ _) (Nat.le_trans (List.length_take_le _ _) (by omega)))
                · rw [upd_same, take_at hx, List.filter_append, List.map_append]
                  simp [hl]
            · rintro Z ⟨eg, sg⟩
              rw [show [w0, w1, w2].take ([w0, w1, w2].map V.str).length = [w0, w1, w2] from rfl] at eg
              refine ⟨Nat.zero_le _, fun L hL => ⟨Dq, L, _, rfl, rfl, SqL.of (same_alloc hL _ _ eg), SqL.of upd_same, _, rfl, ?_⟩⟩
              have sL : Same X4 (upd Z L (.lst [])) := sg.trans (same_alloc hL)
              generalize upd Z L (.lst []) = Z2 at sL ⊢
              have em : ((([w0, w1, w2].filter fun w => !nm (.str w)).map V.str).isEmpty) = (nm (.str w0) && nm (.str w1) && nm (.str w2)) := by
                simp only [List.filter_cons, List.filter_nil]
                cases h0 : nm (.str w0) <;> cases h1 : nm (.str w1) <;> cases h2 : nm (.str w2) <;> rfl
              rw [em]
              cases ok3 : (nm (.str w0) && nm (.str w1) && nm (.str w2)) with
              | false =>
                have hn := rbad (by
                  rw [Bool.and_eq_false_iff, Bool.and_eq_false_iff] at ok3
                  rcases ok3 with (h | h) | h
                  · exact .inl h
                  · exact .inr (.inl h)
                  · exact .inr (.inr (.inl h)))
                exact iteT ⟨_, rfl, _, _, rfl, rfl, two_line, fun u hu => bad hn _ u (s4.trans sL) hu⟩
              | true =>
                rw [Bool.and_eq_true, Bool.and_eq_true] at ok3
                obtain ⟨⟨ok0, ok1⟩, ok2⟩ := ok3
                refine iteF ?_
                have eWZ := sL _ _ eW4
                refine ⟨_, rfl, _, rfl, W, _, rfl, SqL.of eWZ, fun q2 hq2 => ?_⟩
                rw [show cutV ([w0, w1, w2, w3, w4].map V.str) (some 3) none = [w3, w4].map V.str from rfl]
                have s6 : Same X1 (upd Z2 q2 (.lst ([w3, w4].map V.str))) := (s4.trans sL).trans (same_alloc hq2)
                have e6 : upd Z2 q2 (.lst ([w3, w4].map V.str)) q2 = some (.lst ([w3, w4].map V.str)) := upd_same
                have eW6 := same_alloc (o := .lst ([w3, w4].map V.str)) hq2 _ _ eWZ
                generalize upd Z2 q2 (.lst ([w3, w4].map V.str)) = X6 at s6 e6 eW6 ⊢
                refine ⟨q2, rfl, ⟨_, SqL.of e6⟩, fun Dt hDt => lc_it (walk_list (K := K) (xs := [w3, w4].map V.str)) (fun j Z => Z Dt = some (.lst (([w3, w4].take j).map numV)) ∧ Same X6 Z) ⟨upd_same, same_alloc hDt⟩ (fun j Z _ h => SqL.of (h.2 _ _ e6)) ?_ ?_⟩
                · rintro j v Z Z' hj ⟨eg, sg⟩ ⟨rfl, hv⟩
                  have hj2 : j < 2 := hj
                  obtain ⟨x, hx⟩ : ∃ x, [w3, w4][j]? = some x := ⟨_, List.getElem?_eq_getElem hj2⟩
                  obtain rfl : v = .str x := by
                    rw [List.getElem?_map, hx] at hv
                    exact (Option.some.inj hv).symm
                  have xl : x.length ≤ 200000 := wl x (by
                    have := List.mem_of_getElem? hx
                    simp only [List.mem_cons, List.not_mem_nil, or_false] at this ⊢
                    rcases this with h | h <;> simp [h])
                  refine ⟨rfl, lcY ⟨_, rfl, x, rfl, xl, fun Z5 s5 => ?_⟩⟩
                  have fin : ∀ yv, yv = numV x → ∃ acc, Z5 Dt = some (.lst acc) ∧ acc.length < sizeLine ∧ (upd Z5 Dt (.lst (acc ++ [yv])) Dt = some (.lst (([w3, w4].take (j + 1)).map numV)) ∧ Same X6 (upd Z5 Dt (.lst (acc ++ [yv])))) := fun yv hy => by
                    refine ⟨_, s5 _ _ eg, ?_, ?_, fun c o h => by rw [upd_ne (ne_of_none h hDt)]; exact s5 _ _ (sg _ _ h)⟩
                    · rw [List.length_map, List.length_take]
                      exact lt_line _ (by omega)
                    · rw [upd_same, take_at hx, List.map_append, hy]
                      rfl
                  exact ⟨fun hn => fin .non (by unfold numV; rw [hn]), fun n hn => fin (.int ((n : Nat) : Int)) (by unfold numV; rw [hn])⟩
                · rintro Z ⟨eg, sg⟩
                  rw [show [w3, w4].take ([w3, w4].map V.str).length = [w3, w4] from rfl] at eg
                  simp only [List.set_cons_succ, List.set_cons_zero]
                  have fl : ([w3, w4].map numV).all flatV = true := by
                    simp only [List.map_cons, List.map_nil, numV]
                    cases numR w3 <;> cases numR w4 <;> rfl
                  have iv : inV .non ([w3, w4].map numV) = ((numR w3).isNone || (numR w4).isNone) := by
                    simp only [List.map_cons, List.map_nil, numV]
                    cases numR w3 <;> cases numR w4 <;> rfl
                  refine ⟨_, rfl, Dt, _, rfl, .inl (SqL.of eg), rfl, fl, _, rfl, ?_⟩
                  rw [if_neg Bool.false_ne_true, iv]
                  have s7 : Same X1 Z := s6.trans sg
                  cases e3 : numR w3 with
                  | none =>
                    exact iteT ⟨_, rfl, _, _, rfl, rfl, two_line, fun u hu => bad (rbad (.inr (.inr (.inr (.inl e3))))) _ u s7 hu⟩
                  | some n3 =>
                    cases e4' : numR w4 with
                    | none =>
                      exact iteT ⟨_, rfl, _, _, rfl, rfl, two_line, fun u hu => bad (rbad (.inr (.inr (.inr (.inr e4'))))) _ u s7 hu⟩
                    | some n4 =>
                      have hs := rok n3 n4 ok0 ok1 ok2 e3 e4'
                      have eg : Z Dt = some (.lst [V.int ((n3 : Nat) : Int), .int ((n4 : Nat) : Int)]) := by
                        rw [eg]
                        simp only [List.map_cons, List.map_nil, numV, e3, e4']
                      have qW : SqL K Z W ([w0, w1, w2, w3, w4].map V.str) := SqL.of (sg _ _ eW6)
                      have qT : SqL K Z Dt [V.int ((n3 : Nat) : Int), .int ((n4 : Nat) : Int)] := SqL.of eg
                      have eV7 := s7 _ _ eV
                      refine iteF ⟨_, rfl, .inl ⟨rfl, _, SqL.of eV7⟩, _, rfl, W, _, 0, .str w0, rfl, rfl, qW, atI_nat (j := 0) rfl, _, rfl, W, _, 1, .str w1, rfl, rfl, qW, atI_nat (j := 1) rfl, _, rfl, W, _, 2, .str w2, rfl, rfl, qW, atI_nat (j := 2) rfl, _, rfl, Dt, _, 0, _, rfl, rfl, qT, atI_nat (j := 0) rfl, _, rfl, Dt, _, 1, _, rfl, rfl, qT, atI_nat (j := 1) rfl, by show 5 ≤ sizeLine; decide, fun t ht => ?_⟩
                      have ntD : D ≠ t := ne_of_none eV7 ht
                      have up : ∀ c xs, X1 c = some (.tup xs) → upd (upd Z t (.tup [.str w0, .str w1, .str w2, .int ((n3 : Nat) : Int), .int ((n4 : Nat) : Int)])) D (.lst (vs ++ [.ref t])) c = some (.tup xs) := fun c xs e => by
                        have := s7 _ _ e
                        rw [upd_ne (fun q => by rw [q, eV7] at this; cases this), upd_ne (ne_of_none this ht)]
                        exact this
                      refine ⟨D, vs, _, rfl, rfl, by rw [upd_ne ntD]; exact eV7, ?_, _, _, _, _, vs ++ [.ref t], l0 ++ [[.s w0, .s w1, .s w2, .n ((n3 : Nat) : Int), .n ((n4 : Nat) : Int)]], rfl, ?_, ?_, ?_, upd_same, ?_, ?_⟩
                      · have : i < rows.length := by simpa using hi
                        exact Nat.lt_of_le_of_lt lv (Nat.lt_of_lt_of_le this (small_line (by omega)))
                      · have es : scan i (y :: rows.drop (i + 1)) = (match scan (i + 1) (rows.drop (i + 1)) with | .inl e => .inl e | .inr l => .inr ([.s w0, .s w1, .s w2, .n ((n3 : Nat) : Int), .n ((n4 : Nat) : Int)] :: l)) := by
                          rw [scan, hs]
                          try exact rfl
                        rw [es] at sc
                        rw [sc]
                        cases scan (i + 1) (rows.drop (i + 1)) with
                        | inl e => rfl
                        | inr l =>
                          show Sum.inr (l0 ++ (_ :: l)) = Sum.inr (l0 ++ [_] ++ l)
                          rw [List.append_assoc]
                          rfl
                      · intro c o e
                        have := s7 _ _ (k2 _ _ e)
                        rw [upd_ne (ne_of_none e hD), upd_ne (ne_of_none this ht)]
                        exact this
                      · rw [upd_ne nDa.symm, upd_ne (ne_of_none (s7 _ _ eP) ht)]
                        exact s7 _ _ eP
                      · rw [List.length_append]; exact Nat.succ_le_succ lv
                      · exact (rs.up up).snoc (by rw [upd_ne ntD.symm, upd_same]; rfl)
          · have hn : runOf y = none := if_neg fun h => l5 h.1
            rw [decide_eq_false (show ¬ V.int ((((wordsOf y).map V.str).length : Nat) : Int) = V.int 5 from fun h => l5 (by have := V.int.inj h; rw [List.length_map] at this; omega))]
            exact iteT (iteT ⟨_, rfl, _, _, rfl, rfl, two_line, fun u hu => bad hn _ u sW hu⟩)
      · rintro σ X ⟨u2, u3, u4, u5, vs, l0, rfl, sc, k2, eP, eV, lv, rs⟩
        have len : (rows.map V.str).length = rows.length := List.length_map _
        rw [len, List.drop_eq_nil_of_le (Nat.le_refl _)] at sc
        have sc : scan 0 rows = .inr l0 := by
          rw [sc]
          show Sum.inr (l0 ++ []) = _
          rw [List.append_nil]
        refine ⟨_, rfl, two_line, fun u hu => ?_⟩
        have su : Same X (upd X u (.tup [.str (Str.ofString "told"), .ref D])) := same_alloc hu
        exact kez l0 sc u D _ vs (nonew k2 hu) hD (k2.trans su) upd_same (su _ _ eV) (rs.up fun c xs e => su _ _ e)
    · have e0 : readV v = .inl 0 := by
        unfold readV
        split
        · rename_i z
          exact absurd ⟨z, rfl⟩ hv
        · rfl
      have ret : ∀ u, H u = none → Q (.ref u) (upd H u (.tup [.str (Str.ofString "text"), .int 0])) := fun u hu => kt 0 e0 u _ hu (same_alloc hu) upd_same
      obtain ⟨t, ty, cs⟩ := th.ty (K := K)
      rcases cs with ⟨i, rfl, rfl⟩ | ⟨b, rfl, rfl⟩ | ⟨z, rfl, _, rfl⟩ | ⟨n1, n2, n3, ht⟩
      · exact ⟨_, rfl, _, _, _, _, false, rfl, .ty "str", ty, (by rfl), _, rfl, iteT ⟨two_line, ret⟩⟩
      · exact ⟨_, rfl, _, _, _, _, false, rfl, .ty "str", ty, (by rfl), _, rfl, iteT ⟨two_line, ret⟩⟩
      · exact absurd ⟨z, rfl⟩ hv
      · rcases ht with rfl | rfl | rfl | rfl
        · exact ⟨_, rfl, _, _, _, _, false, rfl, .ty "str", ty, (by rfl), _, rfl, iteT ⟨two_line, ret⟩⟩
        · exact ⟨_, rfl, _, _, _, _, false, rfl, .ty "str", ty, (by rfl), _, rfl, iteT ⟨two_line, ret⟩⟩
        · exact ⟨_, rfl, _, _, _, _, false, rfl, .ty "str", ty, (by rfl), _, rfl, iteT ⟨two_line, ret⟩⟩
        · exact ⟨_, rfl, _, _, _, _, false, rfl, .ty "str", ty, (by rfl), _, rfl, iteT ⟨two_line, ret⟩⟩
end
end R7

set_option maxRecDepth 100000
set_option maxHeartbeats 400000
/-! data with longer texts and numbers: what repr asks of them -/
namespace My
open PySem PySem.Spec PyProof.Rows L2 GxR Gd TL
structure Sb (d : PyData) (k m : Nat) : Prop where
  lv : d.leavesShort 40 = true
  dep : d.depth ≤ k
  wt : d.weight ≤ m
  sh : d.showable = true
theorem Sb.rep {d : PyData} {k m : Nat} (h : Sb d k m) (hk : k ≤ 100) (hm : m ≤ 390000) : d.showable = true ∧ d.depth ≤ 100 ∧ d.shown.length ≤ sizeLine := by
  refine ⟨h.sh, Nat.le_trans h.dep hk, ?_⟩
  have h1 := PyData.shown_le 40 (by decide) d h.lv
  have h2 := h.wt
  refine Nat.le_trans h1 (Nat.le_trans (m := 42 * 390000 + 40) (by omega) (by rw [sizeLine_eq]; decide))
theorem Sb.mono {d : PyData} {k m k' m' : Nat} (h : Sb d k m) (hk : k ≤ k') (hm : m ≤ m') : Sb d k' m' := ⟨h.lv, Nat.le_trans h.dep hk, Nat.le_trans h.wt hm, h.sh⟩
theorem sb_none : Sb .none 0 0 := ⟨rfl, Nat.le_refl 0, Nat.le_refl 0, rfl⟩
theorem sb_bool (b : Bool) : Sb (.bool b) 0 0 := ⟨rfl, Nat.le_refl 0, Nat.le_refl 0, rfl⟩
theorem text_int {i : Int} (h : i.natAbs < 10 ^ 31) : (Str.ofString (toString i)).length ≤ 32 := by
  have e := int_text_length_le10 (k := 31) (by decide) h
  rw [PySem.ofString_length]
  exact e
theorem sb_int {i : Int} (h : i.natAbs < 10 ^ 31) : Sb (.int i) 0 110 := by
  have hl : i.natAbs.log2 ≤ 109 := by
    by_cases z : i.natAbs = 0
    · rw [z]; decide
    · have : i.natAbs.log2 < 110 := (Nat.log2_lt z).mpr (Nat.lt_of_lt_of_le h (by decide))
      omega
  refine ⟨?_, Nat.le_refl 0, ?_, ?_⟩
  · unfold PyData.leavesShort
    rw [decide_eq_true_eq]
    exact Nat.le_trans (text_int h) (by decide)
  · unfold PyData.weight
    split <;> omega
  · unfold PyData.showable
    rw [decide_eq_true_eq]
    omega
theorem sb_str {z : Str} {m : Nat} (g : Good z) (h : z.length ≤ m) : Sb (.str z) 0 m := by
  refine ⟨?_, Nat.le_refl 0, h, rfl⟩
  unfold PyData.leavesShort
  rw [List.all_eq_true]
  intro c hc
  have := g c hc
  rw [decide_eq_true_eq]
  exact Nat.lt_trans this (by decide)
theorem sb_all {k m : Nat} : ∀ {ds : List PyData}, (∀ d ∈ ds, Sb d k m) → PyData.leavesShortAll 40 ds = true ∧ PyData.depthAll ds ≤ k ∧ PyData.weightAll ds ≤ ds.length * (m + 1) ∧ PyData.showableAll ds = true
  | [], _ => ⟨rfl, Nat.zero_le _, Nat.zero_le _, rfl⟩
  | d :: r, h => by
    obtain ⟨a1, a2, a3, a4⟩ := sb_all (ds := r) fun x hx => h x (List.mem_cons_of_mem _ hx)
    have b := h d List.mem_cons_self
    refine ⟨?_, ?_, ?_, ?_⟩
    · unfold PyData.leavesShortAll; rw [b.lv, a1]; rfl
    · unfold PyData.depthAll; exact Nat.max_le.mpr ⟨b.dep, a2⟩
    · unfold PyData.weightAll
      have := b.wt
      rw [List.length_cons, Nat.succ_mul]
      omega
    · unfold PyData.showableAll; rw [b.sh, a4]; rfl
theorem sb_list {k m : Nat} {ds : List PyData} (h : ∀ d ∈ ds, Sb d k m) : Sb (.list ds) (k + 1) (ds.length * (m + 1)) := by
  obtain ⟨a1, a2, a3, a4⟩ := sb_all h
  exact ⟨by unfold PyData.leavesShort; exact a1, by unfold PyData.depth; omega, by unfold PyData.weight; exact a3, by unfold PyData.showable; exact a4⟩
theorem sb_tuple {k m : Nat} {ds : List PyData} (h : ∀ d ∈ ds, Sb d k m) : Sb (.tuple ds) (k + 1) (ds.length * (m + 1)) := by
  obtain ⟨a1, a2, a3, a4⟩ := sb_all h
  exact ⟨by unfold PyData.leavesShort; exact a1, by unfold PyData.depth; omega, by unfold PyData.weight; exact a3, by unfold PyData.showable; exact a4⟩
theorem good_int (i : Int) : Good (Str.ofString (toString i)) := good_of _
end My

set_option maxRecDepth 100000
set_option maxHeartbeats 400000
/-! Shw: what data shows is short. -/
namespace My
open PySem PySem.Spec PyProof.Rows L2 GxR Gd TL
structure Shw (d : PyData) (k m : Nat) : Prop where
  sh : d.showable = true
  dep : d.depth ≤ k
  len : d.shown.length ≤ m
theorem Shw.mono {d : PyData} {k m k' m' : Nat} (h : Shw d k m) (hk : k ≤ k') (hm : m ≤ m') : Shw d k' m' := ⟨h.sh, Nat.le_trans h.dep hk, Nat.le_trans h.len hm⟩
theorem shw_str {z : Str} {n : Nat} (g : Good z) (h : z.length ≤ n) : Shw (.str z) 0 (10 * n + 2) := by
  refine ⟨rfl, Nat.le_refl 0, ?_⟩
  have e := StrLaws.reprText_len z fun c hc => Nat.lt_trans (g c hc) (by decide)
  show (reprText z).length ≤ _
  omega
theorem shw_int {i : Int} {k : Nat} (hk : 0 < k) (h9 : k ≤ 30) (h : i.natAbs < 10 ^ k) : Shw (.int i) 0 (k + 1) := by
  have h31 : i.natAbs < 10 ^ 31 := Nat.lt_of_lt_of_le h (Nat.pow_le_pow_right (by decide) (by omega))
  refine ⟨(sb_int h31).sh, Nat.le_refl 0, ?_⟩
  show (Str.ofString (toString i)).length ≤ _
  rw [PySem.ofString_length]
  exact int_text_length_le10 hk h
theorem shw_all {k m : Nat} : ∀ {ds : List PyData}, (∀ d ∈ ds, Shw d k m) → PyData.showableAll ds = true ∧ PyData.depthAll ds ≤ k ∧ ((PyData.shownAll ds).map (·.length)).sum ≤ ds.length * m ∧ (PyData.shownAll ds).length = ds.length
  | [], _ => ⟨rfl, Nat.zero_le _, Nat.zero_le _, rfl⟩
  | d :: r, h => by
    obtain ⟨a1, a2, a3, a4⟩ := shw_all (ds := r) fun x hx => h x (List.mem_cons_of_mem _ hx)
    have b := h d List.mem_cons_self
    refine ⟨?_, ?_, ?_, ?_⟩
    · unfold PyData.showableAll; rw [b.sh, a1]; rfl
    · unfold PyData.depthAll; exact Nat.max_le.mpr ⟨b.dep, a2⟩
    · unfold PyData.shownAll
      have := b.len
      rw [List.length_cons, Nat.succ_mul, List.map_cons, List.sum_cons]
      omega
    · unfold PyData.shownAll
      rw [List.length_cons, List.length_cons, a4]
theorem shw_list {k m : Nat} {ds : List PyData} (h : ∀ d ∈ ds, Shw d k m) : Shw (.list ds) (k + 1) (ds.length * (m + 2) + 3) := by
  obtain ⟨a1, a2, a3, a4⟩ := shw_all h
  refine ⟨by unfold PyData.showable; exact a1, by unfold PyData.depth; omega, ?_⟩
  have e := listText_len_le (PyData.shownAll ds)
  show (listText (PyData.shownAll ds)).length ≤ _
  rw [a4] at e
  rw [Nat.mul_add]
  omega
theorem shw_tuple {k m : Nat} {ds : List PyData} (h : ∀ d ∈ ds, Shw d k m) : Shw (.tuple ds) (k + 1) (ds.length * (m + 2) + 3) := by
  obtain ⟨a1, a2, a3, a4⟩ := shw_all h
  refine ⟨by unfold PyData.showable; exact a1, by unfold PyData.depth; omega, ?_⟩
  have e := tupleText_len_le (PyData.shownAll ds)
  show (tupleText (PyData.shownAll ds)).length ≤ _
  rw [a4] at e
  rw [Nat.mul_add]
  omega
/-- a pair of unlike things -/
theorem shw_pair {k m n : Nat} {a b : PyData} (ha : Shw a k m) (hb : Shw b k n) : Shw (.tuple [a, b]) (k + 1) (m + n + 7) := by
  refine ⟨?_, ?_, ?_⟩
  · unfold PyData.showable PyData.showableAll PyData.showableAll PyData.showableAll; rw [ha.sh, hb.sh]; rfl
  · unfold PyData.depth PyData.depthAll PyData.depthAll PyData.depthAll
    have := ha.dep
    have := hb.dep
    omega
  · have e := tupleText_len_le (PyData.shownAll [a, b])
    show (tupleText (PyData.shownAll [a, b])).length ≤ _
    have e1 : PyData.shownAll [a, b] = [a.shown, b.shown] := by unfold PyData.shownAll PyData.shownAll PyData.shownAll; rfl
    rw [e1] at e ⊢
    simp only [List.map_cons, List.map_nil, List.sum_cons, List.sum_nil, List.length_cons, List.length_nil] at e
    have := ha.len
    have := hb.len
    omega

end My

set_option maxRecDepth 100000
set_option maxHeartbeats 800000
namespace R7
open PySem PySem.Spec PyProof.Rows L2 GxR Gd TL My
/-! ### what is told, as data -/
def runD (ps : List Pa) : PyData := .tuple (ps.map Pa.d)
def resD : Sum Nat (List (List Pa)) → PyData
  | .inl n => .tuple [.str (Str.ofString "text"), .int (n : Nat)]
  | .inr l => .tuple [.str (Str.ofString "told"), .list (l.map runD)]
theorem pas_dp {K : PySem.W.Frag} {H : Hp} : ∀ ps : List Pa, DpAll K H (ps.map Pa.v) (ps.map Pa.d)
  | [] => .nil
  | .s z :: r => .cons (.str z) (pas_dp r)
  | .n i :: r => .cons (.int i) (pas_dp r)
theorem runs_dp {K : PySem.W.Frag} {H : Hp} {vs : List V} {l : List (List Pa)} (h : Runs H vs l) : DpAll K H vs (l.map runD) := by
  induction h with
  | nil => exact .nil
  | cons e _ ih => exact .cons (.tup (SqT.of e) (pas_dp _)) ih
theorem run_shw {ps : List Pa} (h : okRun ps = true) : Shw (runD ps) 1 323 := by
  obtain ⟨l5, pis⟩ := okRun_is h
  refine (shw_tuple (k := 0) (m := 62) (ds := ps.map Pa.d) fun d hd => ?_).mono (Nat.le_refl 1) (by rw [List.length_map, l5]; decide)
  obtain ⟨p, hp, rfl⟩ := List.mem_map.mp hd
  obtain ⟨x, hx⟩ := pis p hp
  cases hx with
  | name z hz => exact shw_str hz.good hz.2.1
  | time i h0 h1 => exact (shw_int (k := 4) (by decide) (by decide) (by omega)).mono (Nat.le_refl 0) (by decide)
theorem runOf_ok {z : Str} {ps : List Pa} (h : runOf z = some ps) : okRun ps = true := by
  unfold runOf at h
  split at h
  · rename_i c
    rw [← Option.some.inj h]
    exact c.2
  · cases h
theorem scan_ok : ∀ {n : Nat} {rows : List Str}, (∀ m, scan n rows = .inl m → m ≤ n + rows.length) ∧ ∀ l, scan n rows = .inr l → l.length = rows.length ∧ ∀ ps ∈ l, okRun ps = true
  | n, [] => ⟨fun m h => (by cases h), fun l h => by
      obtain rfl : l = [] := (Sum.inr.inj h).symm
      exact ⟨rfl, fun ps hp => (by cases hp)⟩⟩
  | n, z :: r => by
    have ih := scan_ok (n := n + 1) (rows := r)
    refine ⟨fun m h => ?_, fun l h => ?_⟩
    · unfold scan at h
      cases e : runOf z with
      | none =>
        rw [e] at h
        obtain rfl := Sum.inl.inj h
        rw [List.length_cons]
        omega
      | some ps =>
        rw [e] at h
        cases e2 : scan (n + 1) r with
        | inl k =>
          rw [e2] at h
          obtain rfl := Sum.inl.inj h
          have := ih.1 k e2
          rw [List.length_cons]
          omega
        | inr l => rw [e2] at h; cases h
    · unfold scan at h
      cases e : runOf z with
      | none => rw [e] at h; cases h
      | some ps =>
        rw [e] at h
        cases e2 : scan (n + 1) r with
        | inl k => rw [e2] at h; cases h
        | inr l2 =>
          rw [e2] at h
          obtain rfl := Sum.inr.inj h
          have := ih.2 l2 e2
          refine ⟨by rw [List.length_cons, List.length_cons, this.1], fun p hp => ?_⟩
          rcases List.mem_cons.mp hp with rfl | hp
          · exact runOf_ok e
          · exact this.2 p hp
theorem rows_le (z : Str) : (rowsIn z).length ≤ z.length + 2 := by
  unfold rowsIn
  split
  · exact Nat.zero_le _
  · exact PyProof.Rows.split_le z (Str.ofString "\n")
theorem res_sh {v : V} (h : ∀ z, v = .str z → z.length ≤ 48800) : (resD (readV v)).showable = true ∧ (resD (readV v)).depth ≤ 100 ∧ (resD (readV v)).shown.length ≤ sizeLine := by
  have fin : ∀ {d : PyData} {k m : Nat}, Shw d k m → k ≤ 100 → m ≤ 16700000 → d.showable = true ∧ d.depth ≤ 100 ∧ d.shown.length ≤ sizeLine := fun h hk hm => ⟨h.sh, Nat.le_trans h.dep hk, Nat.le_trans h.len (Nat.le_trans hm (by rw [sizeLine_eq]; decide))⟩
  have tx : Shw (.str (Str.ofString "text")) 0 92 := shw_str (good_of _) (n := 9) (by decide +kernel)
  have td : Shw (.str (Str.ofString "told")) 2 92 := (shw_str (good_of _) (n := 9) (by decide +kernel)).mono (Nat.zero_le 2) (Nat.le_refl 92)
  have text : ∀ n : Nat, n ≤ 50000 → Shw (.tuple [.str (Str.ofString "text"), .int (n : Nat)]) 1 106 := fun n hn =>
    (shw_pair tx (shw_int (k := 6) (by decide) (by decide) (by omega))).mono (Nat.le_refl 1) (by decide)
  cases v with
  | str z =>
    have hz := h z rfl
    have hr := rows_le z
    have so := scan_ok (n := 0) (rows := rowsIn z)
    show (resD (scan 0 (rowsIn z))).showable = true ∧ _
    cases e : scan 0 (rowsIn z) with
    | inl n => 
      have := so.1 n e
      show _ ∧ (resD (scan 0 (rowsIn z))).depth ≤ 100 ∧ (resD (scan 0 (rowsIn z))).shown.length ≤ sizeLine
      rw [e]
      exact fin (text n (by omega)) (by decide) (by decide)
    | inr l =>
      have q := so.2 l e
      show _ ∧ (resD (scan 0 (rowsIn z))).depth ≤ 100 ∧ (resD (scan 0 (rowsIn z))).shown.length ≤ sizeLine
      rw [e]
      have sl := shw_list (k := 1) (m := 323) (ds := l.map runD) fun d hd => by
        obtain ⟨ps, hp, rfl⟩ := List.mem_map.mp hd
        exact run_shw (q.2 ps hp)
      rw [List.length_map] at sl
      exact fin (shw_pair td sl) (by decide) (by omega)
  | _ => exact fin (text 0 (by decide)) (by decide) (by decide)
/-! ### a text of runs -/
theorem numR_num {n : Nat} (h : n ≤ 9999) : numR (Str.ofString (toString ((n : Nat) : Int))) = some n := by
  have l4 := numL_len (n := n) (k := 4) (by decide) (by omega)
  have e : tl (Str.ofString (toString ((n : Nat) : Int))) = numL n := tl_num n
  have el : (Str.ofString (toString ((n : Nat) : Int))).length = (numL n).length := by rw [len_tl, e]
  have l1 : 1 ≤ (numL n).length := List.length_pos_iff.mpr (numL_ne n)
  have v : valOf (Str.ofString (toString ((n : Nat) : Int))) = n := by
    unfold valOf
    rw [e, numL_val]
  unfold numR
  rw [if_pos, v]
  rw [el, e, decide_eq_true l1, decide_eq_true l4, all_dg.mpr (numL_digits n)]
  have : (decide ((numL n).head? = some 48) && decide (1 < (numL n).length)) = false := by
    rw [Bool.and_eq_false_iff, decide_eq_false_iff_not, decide_eq_false_iff_not]
    refine Classical.or_iff_not_imp_left.mpr fun h0 q => ?_
    exact lead (numL_digits n) (Classical.not_not.mp h0) q (by rw [numL_val])
  rw [this]
  rfl
theorem run_back {ps : List Pa} (h : okRun ps = true) : runOf (rowT ps) = some ps ∧ (10 : Nat) ∉ tl (rowT ps) ∧ 1 ≤ (rowT ps).length ∧ Good (rowT ps) := by
  obtain ⟨l5, pis⟩ := okRun_is h
  have wk : ∀ z ∈ ps.map Pa.t, Wok z := fun z hz => by
    obtain ⟨p, hp, rfl⟩ := List.mem_map.mp hz
    obtain ⟨x, hx⟩ := pis p hp
    exact hx.wok
  have ne : ps.map Pa.t ≠ [] := fun e => by
    have : (ps.map Pa.t).length = 5 := by rw [List.length_map, l5]
    rw [e] at this
    cases this
  have sp : wordsOf (rowT ps) = ps.map Pa.t := row_split ne wk
  have pos : 1 ≤ (rowT ps).length := by
    cases e : (rowT ps).length with
    | succ k => omega
    | zero =>
      have e2 : rowT ps = Str.empty := Classical.byContradiction fun h => len_ne h e
      have q := congrArg List.length sp
      rw [e2, List.length_map, l5, show wordsOf Str.empty = [Str.empty] by decide +kernel] at q
      cases q
  obtain ⟨a, b, c, i, j, rfl, ha, hb, hc, hi, hj⟩ := run_shape h
  obtain ⟨n, rfl⟩ := Int.eq_ofNat_of_zero_le hi.1
  obtain ⟨m, rfl⟩ := Int.eq_ofNat_of_zero_le hj.1
  refine ⟨(run_read sp).1 n m ha.nm hb.nm hc.nm (numR_num (by omega)) (numR_num (by omega)), fun hm => ?_, ?_, ?_⟩
  · have hm : 10 ∈ tl (Txt.join (Str.ofString " ") _) := hm
    rw [join_eq, tl_join] at hm
    rcases joinL_mem hm with q | ⟨p, hp, q⟩
    · rw [tl_blank] at q
      exact absurd q (by decide)
    · simp only [List.map_cons, List.map_nil, List.mem_cons, List.not_mem_nil, or_false] at hp
      have lt : ∀ {z : Str}, NameOk z → 10 ∉ tl z := fun {z} hz q => by
        have := List.all_eq_true.mp hz.2.2 10 q
        exact absurd this (by decide)
      have nu : ∀ k : Nat, 10 ∉ tl (Str.ofString (toString ((k : Nat) : Int))) := fun k => by rw [tl_num]; exact numL_free (.inl (by decide))
      rcases hp with rfl | rfl | rfl | rfl | rfl
      · exact lt ha q
      · exact lt hb q
      · exact lt hc q
      · exact nu n q
      · exact nu m q
  · exact pos
  · refine good_join (good_of _) fun z hz => ?_
    simp only [List.map_cons, List.map_nil, List.mem_cons, List.not_mem_nil, or_false] at hz
    rcases hz with rfl | rfl | rfl | rfl | rfl
    · exact ha.good
    · exact hb.good
    · exact hc.good
    · exact good_of _
    · exact good_of _
theorem scan_back : ∀ {n : Nat} {l : List (List Pa)}, (∀ ps ∈ l, okRun ps = true) → scan n (l.map rowT) = .inr l
  | _, [], _ => rfl
  | n, ps :: r, h => by
    rw [List.map_cons]
    unfold scan
    rw [(run_back (h ps (List.mem_cons_self ..))).1, scan_back fun p hp => h p (List.mem_cons_of_mem _ hp)]
theorem text_rows {l : List (List Pa)} (h : ∀ ps ∈ l, okRun ps = true) : rowsIn (Txt.join (Str.ofString "\n") (l.map rowT)) = l.map rowT := by
  have tl10 : tl (Str.ofString "\n") = [10] := tl_lf
  cases l with
  | nil => rfl
  | cons ps r =>
    have sp := split_join (s := 10) (S := []) (y := Str.ofString "\n") tl10 (by decide +kernel) (parts := (ps :: r).map rowT) (by simp) fun p hp => by
      obtain ⟨q, hq, rfl⟩ := List.mem_map.mp hp
      exact (run_back (h q hq)).2.1
    unfold rowsIn
    rw [if_neg, sp]
    intro e
    rw [e] at sp
    have e0 : Txt.split Str.empty (Str.ofString "\n") = [Str.empty] := by decide +kernel
    rw [e0] at sp
    have e1 : Str.empty = rowT ps := (List.cons.inj sp).1
    have := (run_back (h ps (List.mem_cons_self ..))).2.2.1
    rw [← e1] at this
    exact absurd this (by decide)
end R7

set_option maxRecDepth 100000
set_option maxHeartbeats 1000000
namespace R7
open PySem PySem.Spec PyProof.Rows L2 GxR Gd TL My
theorem km_kb {T : List Addr} {b : Addr} {H1 Y Y' : Hp} (t1 : Tabs T H1) (n : H1 b = none) (km : KM T H1 Y) (k : KB b Y Y') : KM T H1 Y' := by
  refine ⟨fun c o nc e => k c o (ne_of_none e n) (km.keep c o nc e), fun p hp => ?_⟩
  obtain ⟨ps, e, r⟩ := km.tab p hp
  obtain ⟨ps1, e1, _⟩ := t1 p hp
  exact ⟨ps, k p _ (ne_of_none e1 n) e, r⟩
theorem Bx.nt {b : Addr} {n : Int} {H H' : Hp} (h : Bx b n H) (s : Nt H H') : Bx b n H' := by
  obtain ⟨a1, a2, a3, q, r⟩ := h
  exact ⟨a1, a2, a3, s _ _ (by simp) q, r⟩
theorem Runs.ref {H : Hp} {vs : List V} {l : List (List Pa)} (h : Runs H vs l) : allRef vs := by
  induction h with
  | nil => intro x hx; cases hx
  | cons e _ ih =>
    intro x hx
    rcases List.mem_cons.mp hx with rfl | hx
    · exact ⟨_, rfl⟩
    · exact ih x hx
theorem read_len {v : V} {l : List (List Pa)} (e : readV v = .inr l) (h : ∀ z, v = .str z → z.length ≤ 48800) : l.length ≤ 50000 := by
  cases v with
  | str z =>
    have e : scan 0 (rowsIn z) = .inr l := e
    have q := (scan_ok.2 l e).1
    have := rows_le z
    have := h z rfl
    omega
  | _ => cases e
/-- what may be read -/
def Rdb (H : Hp) (v : V) : Prop := Th H v ∧ ∀ z, v = .str z → WOk z ∧ z.length ≤ 48800
theorem Rdb.nt {H H' : Hp} {v : V} (h : Rdb H v) (e : Nt H H') : Rdb H' v := ⟨th_nt e h.1, h.2⟩
theorem Rdb.str {H : Hp} {z : Str} (h : z.length ≤ 48800) (g : Good z) : Rdb H (.str z) := ⟨.str z (by omega) g, fun z' e => by
  obtain rfl := V.str.inj e
  exact ⟨⟨by omega, g⟩, h⟩⟩
section
variable {P : Program} {w : World} {K : PySem.W.Frag} {mg : Str → Option Value} {base : Heap}
abbrev s_law : Stmt := top 45
theorem sc_law : FnScope ["_law_script", "_law_k", "_law_box_here", "_law_runs_here", "_law_handed", "_law_text", "_law_odd", "_law_one", "_law_turn", "_law_found", "_law_run"] ["_law_script"] (defScope s_law) := ⟨rfl, rfl, rfl, by decide +kernel, rfl, by decide +kernel, by decide +kernel⟩
def spLaw (K : PySem.W.Frag) (T : List Addr) : Sp := fun vs H Q _ => ∃ (a : Addr) (ns : List Int), vs = [.ref a] ∧ SqL K H a (ns.map V.int) ∧ ns.length ≤ 63 ∧ Tabs T H ∧ ∀ H', Q (.bl true) H'
theorem ok_law {T0 : List Addr} {f fC fB fT fR fO fW fX fY fZ : Addr} {fd fdC fdB fdT fdR fdO fdW fdX fdY fdZ : FuncData} (F : Fun K "law" "law" s_law f fd) (T : Txt mg)
    (Nlaw_cell : Fn K mg "_law_cell" sCell ["_law_script", "_law_k"] fC fdC) (Glaw_cell : FnOk P w K mg base CX0 1 fC fdC ["_law_script", "_law_k"] (spCell K))
    (Nlaw_box : Fn K mg "_law_box" sBox ["_law_cell_here"] fB fdB) (Glaw_box : FnOk P w K mg base CX0 1 fB fdB ["_law_cell_here"] spBox)
    (Nlaw_take : Fn K mg "_law_take" sTake ["_law_box_here", "_law_many"] fT fdT) (Glaw_take : FnOk P w K mg base CX0 1 fT fdT ["_law_box_here", "_law_many"] spTake)
    (Nlaw_runs : Fn K mg "_law_runs" s_law_runs ["_law_box_here"] fR fdR) (Glaw_runs : FnOk P w K mg base CX0 3 fR fdR ["_law_box_here"] spRunsOf)
    (Nlaw_row : Fn K mg "_law_row" s_law_row ["_law_run"] fW fdW) (Glaw_row : FnOk P w K mg base CX0 1 fW fdW ["_law_run"] spRowOf)
    (Nlaw_otherwise : Fn K mg "_law_otherwise" s_law_otherwise ["_law_box_here", "_law_text"] fO fdO) (Glaw_otherwise : FnOk P w K mg base CX0 3 fO fdO ["_law_box_here", "_law_text"] spOther)
    (Ntable_text : Fn K mg "table_text" s_table_text ["runs"] fX fdX) (Gtable_text : FnOk P w K mg base CX0 2 fX fdX ["runs"] (spTableText K))
    (Nlaw_read : Fn K mg "_law_read" s_law_read ["_law_text"] fY fdY) (Glaw_read : FnOk P w K mg base CX0 3 fY fdY ["_law_text"] spLawRead)
    (Nlaw_caught : Fn K mg "_law_caught" s_law_caught ["_law_text"] fZ fdZ) (Glaw_caught : FnOk P w K mg base CX0 11 fZ fdZ ["_law_text"] (spCaught T0)) :
    GOk P w K mg base CX0 12 f fd ["_law_script"] (spLaw K T0) := by
  refine gok F sc_law (fun vs H Q E h => ?_) (fun cdv A outer s H vs Q E gd hr h => ?_)
  · obtain ⟨a, ns, rfl, _⟩ := h
    rfl
  · obtain ⟨a, ns, rfl, hS, hlen, hT, k⟩ := h
    have hu := Nat.lt_of_le_of_lt (Nat.le_add_right _ 64) hr.units
    refine ⟨_, pss_cons (ps_for PassesOwn.never rfl (pi_range1 (by rfl) T.range_ (pa_cons (pe_callB (call_max2 rfl) (by rfl) T.max_ (by decide +kernel) (pa_cons pe_int (pa_cons (pe_callB (call_min2 rfl) (by rfl) T.min_ (by decide +kernel) (pa_cons pe_int (pa_cons (pe_callB call_len_seq (by rfl) T.len_ PySem.boot_len (pa_cons (pv 0) pa_nil)) pa_nil))) pa_nil))) pa_nil)) (pg_name (i := 1) sc_law.nd rfl (Or.inl rfl)) (pss_cons (ps_set (i := 2) sc_law.nd rfl (Or.inl rfl) (pe_call Glaw_box (hr.mono (by decide)) (by rfl) Nlaw_box.g Nlaw_box.kp Nlaw_box.b .nil pass0 (pa_cons (pe_call Glaw_cell (hr.mono (by decide)) (by rfl) Nlaw_cell.g Nlaw_cell.kp Nlaw_cell.b .nil pass0 (pa_cons (pv 0) (pa_cons (pv 1) pa_nil))) pa_nil)))
          (pss_cons (ps_set (i := 3) sc_law.nd rfl (Or.inl rfl) (pe_call Glaw_runs (hr.mono (by decide)) (by rfl) Nlaw_runs.g Nlaw_runs.kp Nlaw_runs.b .nil pass0 (pa_cons (pv 2) pa_nil)))
          (pss_cons (ps_set (i := 4) sc_law.nd rfl (Or.inl rfl) (pe_callTy call_list_of (by rfl) T.list_ (by decide +kernel) (pa_cons (pv 3) pa_nil)))
          (pss_cons (ps_set (i := 5) sc_law.nd rfl (Or.inl rfl) (pe_join pe_str (pe_lc (own := [("_law_run", 10)]) (g := gName 10) (tt := tYes) rfl sc_law.nd (pi_list (pv 3)) (blkOk_by (own := [("_law_run", 10)]) (N := ["_law_script", "_law_k", "_law_box_here", "_law_runs_here", "_law_handed", "_law_text", "_law_odd", "_law_one", "_law_turn", "_law_found", "_law_run"]) (sc := defScope s_law) (by decide +kernel)) (fun _ _ _ _ _ => (pg_name (i := 10) sc_law.nd rfl (Or.inl rfl))) (fun _ _ _ _ _ => pts_nil) (fun _ _ _ _ _ => (pe_call Glaw_row (hr.mono (by decide)) (by rfl) Nlaw_row.g Nlaw_row.kp Nlaw_row.b .nil pass0 (pa_cons (pv 10) pa_nil))))))
          (pss_cons (ps_if (PW.pt (pw_or (pt_cmpR op_ne (pe_call Gtable_text (hr.mono (by decide)) (by rfl) Ntable_text.g Ntable_text.kp Ntable_text.b .nil pass0 (pa_cons (pv 4) pa_nil)) (pv 5) (nomark _)) (pw_or (pt_cmpR (op_neLS hu) (pv 4) (pv 3) (nomark _)) (pw_or1 (pt_cmpR op_ne (pe_call Gtable_text (hr.mono (by decide)) (by rfl) Ntable_text.g Ntable_text.kp Ntable_text.b .nil pass0 (pa_cons (pe_callTy call_tuple_of (by rfl) T.tuple_ (by decide +kernel) (pa_cons (pv 3) pa_nil)) pa_nil)) (pv 5) (nomark _)))))) (pss_one (ps_ret pe_bl)) pss_nil)
          (pss_cons (ps_if (pt_cmpR op_ne (pe_callB (call_repr gd hr) (by rfl) T.repr_ (by decide +kernel) (pa_cons (pe_call Glaw_caught (hr.mono (by decide)) (by rfl) Nlaw_caught.g Nlaw_caught.kp Nlaw_caught.b .nil pass0 (pa_cons (pv 5) pa_nil)) pa_nil)) (pe_callB (call_repr gd hr) (by rfl) T.repr_ (by decide +kernel) (pa_cons (pe_tup (pa_cons pe_str (pa_cons (pv 3) pa_nil))) pa_nil)) (nomark _)) (pss_one (ps_ret pe_bl)) pss_nil)
          (pss_cons (ps_set (i := 6) sc_law.nd rfl (Or.inl rfl) (pe_ix ix_list (pe_lst (pa_cons pe_non (pa_cons pe_int (pa_cons (pe_lst (pa_cons (pv 5) pa_nil)) (pa_cons (pe_tup (pa_cons (pv 5) pa_nil)) (pa_cons pe_dnewK (pa_cons pe_bl pa_nil))))))) (pe_call Glaw_take (hr.mono (by decide)) (by rfl) Nlaw_take.g Nlaw_take.kp Nlaw_take.b .nil pass0 (pa_cons (pv 2) (pa_cons pe_int pa_nil))) (fun _ _ => rfl)))
          (pss_one (ps_for PassesOwn.never rfl (pi_list (pe_lst (pa_cons (pe_call Glaw_otherwise (hr.mono (by decide)) (by rfl) Nlaw_otherwise.g Nlaw_otherwise.kp Nlaw_otherwise.b .nil pass0 (pa_cons (pv 2) (pa_cons (pv 5) pa_nil))) (pa_cons (pv 6) (pa_cons (pe_call Glaw_otherwise (hr.mono (by decide)) (by rfl) Nlaw_otherwise.g Nlaw_otherwise.kp Nlaw_otherwise.b .nil pass0 (pa_cons (pv 2) (pa_cons (pv 5) pa_nil))) (pa_cons (pv 5) pa_nil)))))) (pg_name (i := 7) sc_law.nd rfl (Or.inl rfl)) (pss_one (ps_for PassesOwn.never rfl (pi_range1 (by rfl) T.range_ (pa_cons pe_int pa_nil)) (pg_name (i := 8) sc_law.nd rfl (Or.inl rfl)) (pss_cons (ps_set (i := 9) sc_law.nd rfl (Or.inl rfl) (pe_call Glaw_caught (hr.mono (by decide)) (by rfl) Nlaw_caught.g Nlaw_caught.kp Nlaw_caught.b .nil pass0 (pa_cons (pv 7) pa_nil)))
                  (pss_cons (ps_if (pt_cmpR op_ne (pe_callB (call_repr gd hr) (by rfl) T.repr_ (by decide +kernel) (pa_cons (pv 9) pa_nil)) (pe_callB (call_repr gd hr) (by rfl) T.repr_ (by decide +kernel) (pa_cons (pe_call Glaw_read (hr.mono (by decide)) (by rfl) Nlaw_read.g Nlaw_read.kp Nlaw_read.b .nil pass0 (pa_cons (pv 7) pa_nil)) pa_nil)) (nomark _)) (pss_one (ps_ret pe_bl)) pss_nil)
                  (pss_one (ps_if (pt_cmpR op_eq (pe_ix ix_tup (pv 9) pe_int (fun _ _ => rfl)) pe_str (nomark _)) (pss_one (ps_expr (pe_bm PySem.F.plainAttrs_list PySem.F.slot_list_append PySem.F.type_list_append mt_append (pe_ix ix_tup (pv 9) pe_int (fun _ _ => rfl)) (pa_cons pe_str pa_nil)))) pss_nil))))))))))))))))
      (pss_one (ps_ret pe_bl)), ?_⟩
    generalize hσ : L2.start _ _ = σ0
    obtain rfl : σ0 = [some (.ref a), none, none, none, none, none, none, none, none, none, none] := hσ.symm.trans rfl
    refine ⟨_, rfl, a, _, rfl, .inl hS, _, _, rfl, _, _, rfl, ?_⟩
    obtain ⟨N, hN, N2, N10⟩ : ∃ N : Nat, (if (if (((ns.map V.int).length : Nat) : Int) < 10 then (((ns.map V.int).length : Nat) : Int) else 10) > 2 then (if (((ns.map V.int).length : Nat) : Int) < 10 then (((ns.map V.int).length : Nat) : Int) else 10) else 2) = (N : Int) ∧ 2 ≤ N ∧ N ≤ 10 := by
      rw [List.length_map]
      refine ⟨max 2 (min 10 ns.length), ?_, by omega, by omega⟩
      split <;> split <;> omega
    rw [hN]
    refine ⟨_, rfl, by omega, by omega, ?_⟩
    rw [Int.toNat_natCast]
    refine for_range (lo := 0) (n := N) (fun i σ H' => ∃ v1 v2 v3 v4 v5 v6 v7 v8 v9 : Option V, σ = [some (.ref a), v1, v2, v3, v4, v5, v6, v7, v8, v9, none] ∧ KM T0 H H') ⟨_, _, _, _, _, _, _, _, _, rfl, KM.refl hT⟩ ?_ ?_
    · rintro i σ H1 hi ⟨v1, v2, v3, v4, v5, v6, v7, v8, v9, rfl, k1⟩
      have hS1 := (KM.nt hT k1).seq hS
      simp only [List.set_cons_succ, List.set_cons_zero]
      refine ⟨_, rfl, _, rfl, a, ns, i, ?_, hS1, fun c => ?_⟩
      · show [V.ref a, V.int (0 + (i : Int))] = [V.ref a, V.int i]
        rw [Int.zero_add]
      refine ⟨c, rfl, fun b H2 fb off2 B2 => ?_⟩
      have t1 := k1.tab
      have s2 : Same H1 H2 := fun c o e => (off2 c (ne_of_none e fb)).trans e
      have m2 : KM T0 H1 H2 := KM.same t1 s2
      simp only [List.set_cons_succ, List.set_cons_zero]
      refine ⟨_, rfl, b, 0, rfl, B2, by decide, by decide, fun L vs l H3 k3 B3 nL eL rs l24 okl => ?_⟩
      have nLb : L ≠ b := fun z => by
        obtain ⟨_, _, _, q, _⟩ := B2
        rw [z, q] at nL; cases nL
      have lvs := rs.len
      simp only [List.set_cons_succ, List.set_cons_zero]
      refine ⟨_, rfl, L, vs, rfl, .inl (SqL.of eL), fun h hh => ?_⟩
      have kh : KB b H3 (upd H3 h (.lst vs)) := KB.alloc hh
      have eh : upd H3 h (.lst vs) h = some (.lst vs) := upd_same
      have nhb : h ≠ b := B3.fresh hh
      have B4 := B3.alloc (o := .lst vs) hh
      have eL4 := kh _ _ nLb eL
      have rs4 := rs.up fun c xs e => (same_alloc (o := .lst vs) hh) _ _ e
      generalize upd H3 h (.lst vs) = H4 at kh eh B4 eL4 rs4 ⊢
      have k24 := k3.trans kh
      simp only [List.set_cons_succ, List.set_cons_zero]
      refine ⟨⟨_, rfl⟩, _, rfl, L, rfl, ⟨_, SqL.of eL4⟩, fun D hD => strs_it (walk_list (K := K) (xs := vs)) (out := l.map rowT) (by rw [List.length_map, lvs]) (by rw [List.length_map]; omega) hD (fun H' kb => SqL.of (kb _ _ (ne_of_none eL4 hD) eL4)) ?_ ?_⟩
      · intro m v H' C B hv kb hC
        obtain ⟨c, ps, rfl, hl, hc⟩ := rs4.at hv
        refine ⟨rfl, lcY ?_⟩
        exact ⟨_, rfl, c, ps, rfl, kb _ _ (ne_of_none hc hD) hc, okl ps (List.mem_of_getElem? hl), fun H5 s => hC _ _ (by rw [List.getElem?_map, hl]; rfl) s⟩
      · intro H5 kbD eD
        have s45 := KB.same hD kbD
        have wk : ∀ z ∈ l.map rowT, z.length ≤ 40 ∧ Good z := fun z hz => by
          obtain ⟨ps, hp, rfl⟩ := List.mem_map.mp hz
          exact ⟨rowT_len (okl ps hp), (run_back (okl ps hp)).2.2.2⟩
        have s40 := sum_le fun z hz => (wk z hz).1
        rw [List.length_map] at s40
        have jw := join_wt tl_lf (good_of _) (l.map rowT) fun z hz => (wk z hz).2
        rw [List.length_map] at jw
        refine ⟨_, D, l.map rowT, rfl, rfl, .inl (SqL.of eD), by rw [List.length_map, lf_len]; omega, ?_⟩
        have rows := text_rows okl
        have splt : ∀ p ∈ Txt.split (Txt.join (Str.ofString "\n") (l.map rowT)) (Str.ofString "\n"), p.length ≤ 40 := fun p hp => by
          unfold rowsIn at rows
          split at rows
          · rename_i e
            rw [e, show Txt.split Str.empty (Str.ofString "\n") = [Str.empty] by decide +kernel] at hp
            rw [List.mem_singleton.mp hp]
            exact Nat.zero_le _
          · rw [rows] at hp
            exact (wk p hp).1
        have spl25 : (Txt.split (Txt.join (Str.ofString "\n") (l.map rowT)) (Str.ofString "\n")).length ≤ 25 := by
          unfold rowsIn at rows
          split at rows
          · rename_i e
            rw [e, show Txt.split Str.empty (Str.ofString "\n") = [Str.empty] by decide +kernel]
            decide
          · rw [rows, List.length_map]
            omega
        obtain ⟨jl, jg⟩ := jw
        obtain ⟨tx, etx⟩ : ∃ tx, tx = Txt.join (Str.ofString "\n") (l.map rowT) := ⟨_, rfl⟩
        rw [← etx] at jl jg rows splt spl25 ⊢
        have hrd : readV (.str tx) = .inr l := by
          show scan 0 (rowsIn tx) = _
          rw [rows, scan_back okl]
        have txl : tx.length ≤ 2000 := by omega
        have k25 := k24.trans (KB.of s45)
        have eh5 := s45 _ _ eh
        have eL5 := s45 _ _ eL4
        have rs5 := rs4.up fun c xs e => s45 _ _ e
        have B5 := Bx.go B4 s45
        clear s40 s45 eD kbD rs4 eL4 B4 rs eL B3 hD
        simp only [List.set_cons_succ, List.set_cons_zero]
        refine ⟨_, rfl, h, vs, l, rfl, .inl eh5, rs5, okl, by omega, fun H6 s6 => ?_⟩
        rw [← etx]
        refine ⟨_, rfl, rfl, false, congrArg V.bl (by simp), iteF ?_⟩
        refine ⟨_, rfl, _, rfl, h, L, vs, rfl, rfl, SqL.of (s6 _ _ eh5), SqL.of (s6 _ _ eL5), rs5.ref, false, rfl, iteF ?_⟩
        refine ⟨_, rfl, L, vs, rfl, .inl ⟨SqL.of (s6 _ _ eL5), fun tp htp => ?_⟩⟩
        have s7 : Same H5 (upd H6 tp (.tup vs)) := s6.trans (same_alloc htp)
        refine ⟨tp, vs, l, rfl, .inr upd_same, rs5.up fun c xs e => s7 _ _ e, okl, by omega, fun H8 s8 => ?_⟩
        rw [← etx]
        refine ⟨_, rfl, rfl, false, congrArg V.bl (by simp), iteF ?_⟩
        have s58 := s7.trans s8
        have k28 := k25.trans (KB.of s58)
        have eL8 := s58 _ _ eL5
        have rs8 := rs5.up fun c xs e => s58 _ _ e
        have B8 := Bx.go B5 s58
        have m8 : KM T0 H1 H8 := km_kb t1 fb m2 k28
        clear s7 s8 s6 s58 eh5 eL5 rs5 B5
        have sh := res_sh (v := .str tx) fun z e => by
          obtain rfl := V.str.inj e
          omega
        rw [hrd] at sh
        obtain ⟨q1, q2, q3⟩ := sh
        refine ⟨_, rfl, .str tx, rfl, .str tx (by omega) jg, fun z e => (by obtain rfl := V.str.inj e; exact ⟨by omega, jg⟩), m8.tab, fun n hn => (by rw [hrd] at hn; cases hn), fun l' hl' p t H9 vs' hp ht km ep et rs' => ?_⟩
        obtain rfl : l' = l := Sum.inr.inj (hl'.symm.trans hrd)
        have n89 := KM.nt m8.tab km
        refine ⟨.ref p, resD (.inr l'), rfl, .tup (SqT.of ep) (.cons (.str _) (.cons (.lst (SqL.of et) (runs_dp rs')) .nil)), q1, q2, q3, _, rfl, two_line, fun q hq => ?_⟩
        have eL10 : upd H9 q (.tup [.str (Str.ofString "told"), .ref L]) L = some (.lst vs) := same_alloc hq _ _ (n89 _ _ (by simp) eL8)
        have rs10 : Runs (upd H9 q (.tup [.str (Str.ofString "told"), .ref L])) vs l' := (rs8.up fun c xs e => n89 _ _ (by simp) e).up fun c xs e => same_alloc hq _ _ e
        have eq10 : upd H9 q (.tup [.str (Str.ofString "told"), .ref L]) q = some (.tup [.str (Str.ofString "told"), .ref L]) := upd_same
        have m10 : KM T0 H1 (upd H9 q (.tup [.str (Str.ofString "told"), .ref L])) := (m8.trans km).trans (KM.alloc km.tab hq)
        have B10 := Bx.alloc (h := Bx.nt B8 n89) (o := .tup [.str (Str.ofString "told"), .ref L]) hq
        generalize upd H9 q (.tup [.str (Str.ofString "told"), .ref L]) = H10 at eL10 rs10 eq10 m10 B10 ⊢
        refine ⟨.ref q, resD (.inr l'), rfl, .tup (SqT.of eq10) (.cons (.str _) (.cons (.lst (SqL.of eL10) (runs_dp rs10)) .nil)), q1, q2, q3, rfl, false, congrArg V.bl (by simp), iteF ?_⟩
        clear rs10 eq10 eL10 rs' et ep n89 rs8 eL8 hq
        refine ⟨_, rfl, one_line, fun a1 h1 => ?_⟩
        have f1 : upd H10 a1 (.lst [.str tx]) a1 = some (.lst [.str tx]) := upd_same
        have g1 : KB b H10 (upd H10 a1 (.lst [.str tx])) := KB.alloc h1
        have nb1 : a1 ≠ b := B10.fresh h1
        have B11 := B10.alloc (o := .lst [.str tx]) h1
        generalize upd H10 a1 (.lst [.str tx]) = H11 at f1 g1 B11 ⊢
        refine ⟨_, rfl, one_line, fun a2 h2 => ?_⟩
        have f2 : upd H11 a2 (.tup [.str tx]) a2 = some (.tup [.str tx]) := upd_same
        have g2 : KB b H11 (upd H11 a2 (.tup [.str tx])) := KB.alloc h2
        have nb2 : a2 ≠ b := B11.fresh h2
        have B12 := B11.alloc (o := .tup [.str tx]) h2
        generalize upd H11 a2 (.tup [.str tx]) = H12 at f2 g2 B12 ⊢
        refine fun a3 h3 => ?_
        have f3 : upd H12 a3 (.dK []) a3 = some (.dK []) := upd_same
        have g3 : KB b H12 (upd H12 a3 (.dK [])) := KB.alloc h3
        have nb3 : a3 ≠ b := B12.fresh h3
        have B13 := B12.alloc (o := .dK []) h3
        generalize upd H12 a3 (.dK []) = H13 at f3 g3 B13 ⊢
        refine ⟨by show 6 ≤ sizeLine; decide, fun a4 h4 => ?_⟩
        have f4 : upd H13 a4 (.lst [.non, .int 5, .ref a1, .ref a2, .ref a3, .bl true]) a4 = some (.lst [.non, .int 5, .ref a1, .ref a2, .ref a3, .bl true]) := upd_same
        have g4 : KB b H13 (upd H13 a4 (.lst [.non, .int 5, .ref a1, .ref a2, .ref a3, .bl true])) := KB.alloc h4
        have nb4 : a4 ≠ b := B13.fresh h4
        have B14 := B13.alloc (o := .lst [.non, .int 5, .ref a1, .ref a2, .ref a3, .bl true]) h4
        generalize upd H13 a4 (.lst [.non, .int 5, .ref a1, .ref a2, .ref a3, .bl true]) = H14 at f4 g4 B14 ⊢
        refine ⟨_, rfl, b, 6, 500, rfl, B14, by decide, by decide, by decide, fun j H15 j0 j1 off5 B15 => ?_⟩
        obtain ⟨v, hv, ev⟩ := atI_ex (xs := [V.non, .int 5, .ref a1, .ref a2, .ref a3, .bl true]) j0 j1
        have g5 := KB.off off5
        refine ⟨a4, _, j, v, rfl, rfl, SqL.of (g5 _ _ nb4 f4), ev, ?_⟩
        have g45 := g4.trans g5
        have rv : Rdb H15 v := by
          simp only [List.mem_cons, List.not_mem_nil, or_false] at hv
          rcases hv with rfl | rfl | rfl | rfl | rfl | rfl
          · exact ⟨.non, fun z e => (by cases e)⟩
          · exact ⟨.int 5, fun z e => (by cases e)⟩
          · exact ⟨.lst a1 _ ((g2.trans (g3.trans g45)) _ _ nb1 f1), fun z e => (by cases e)⟩
          · exact ⟨.tup a2 _ ((g3.trans g45) _ _ nb2 f2), fun z e => (by cases e)⟩
          · exact ⟨.dic a3 (g45 _ _ nb3 f3), fun z e => (by cases e)⟩
          · exact ⟨.bl true, fun z e => (by cases e)⟩
        have m15 : KM T0 H1 H15 := km_kb t1 fb m10 (g1.trans (g2.trans (g3.trans g45)))
        have nvb : ∀ c, v = .ref c → c ≠ b := fun c e => by
          subst e
          simp only [List.mem_cons, List.not_mem_nil, or_false, V.ref.injEq, reduceCtorEq, false_or] at hv
          rcases hv with rfl | rfl | rfl
          · exact nb1
          · exact nb2
          · exact nb3
        clear hv ev f1 f2 f3 f4 g1 g2 g3 g4 g5 g45 h1 h2 h3 h4 B10 B11 B12 B13 B14
        simp only [List.set_cons_succ, List.set_cons_zero]
        refine ⟨_, rfl, _, rfl, b, tx, 500 + 1, rfl, B15, by decide, txl, jg, splt, spl25, fun y1 H16 kb1 B16 l1 gy1 => ?_⟩
        refine ⟨_, rfl, _, rfl, _, rfl, b, tx, 500 + 1 + 30, rfl, B16, by decide, txl, jg, splt, spl25, fun y2 H17 kb2 B17 l2 gy2 => ?_⟩
        refine ⟨_, rfl, by show 4 ≤ sizeLine; decide, fun O hO => ?_⟩
        have eO : upd H17 O (.lst [.str y1, v, .str y2, .str tx]) O = some (.lst [.str y1, v, .str y2, .str tx]) := upd_same
        have k1518 : KB b H15 (upd H17 O (.lst [.str y1, v, .str y2, .str tx])) := (kb1.trans kb2).trans (KB.alloc hO)
        generalize upd H17 O (.lst [.str y1, v, .str y2, .str tx]) = H18 at eO k1518 ⊢
        have m18 := km_kb t1 fb m15 k1518
        have rv18 : Rdb H18 v := by
          obtain ⟨th, w⟩ := rv
          refine ⟨?_, w⟩
          cases th with
          | non => exact .non
          | bl b => exact .bl b
          | int i => exact .int i
          | str z h g => exact .str z h g
          | lst c xs e => exact .lst c xs (k1518 _ _ (nvb c rfl) e)
          | tup c xs e => exact .tup c xs (k1518 _ _ (nvb c rfl) e)
          | dic c e => exact .dic c (k1518 _ _ (nvb c rfl) e)
        have all4 : ∀ x ∈ [V.str y1, v, .str y2, .str tx], Rdb H18 x := fun x hx => by
          simp only [List.mem_cons, List.not_mem_nil, or_false] at hx
          rcases hx with rfl | rfl | rfl | rfl
          · exact .str l1 gy1
          · exact rv18
          · exact .str l2 gy2
          · exact .str (by omega) jg
        generalize [V.str y1, v, .str y2, .str tx] = xs4 at eO all4 ⊢
        clear rv rv18 k1518 kb1 kb2 B15 B16 B17 hO
        refine ⟨O, rfl, ⟨_, SqL.of eO⟩, for_it (D := ⟨_, _, _, _⟩) (walk_list (K := K) (xs := xs4)) (fun m σ Z => ∃ u7 u8 u9 : Option V, σ = [some (.ref a), some (.int (0 + (i : Int))), some (.ref b), some (.ref L), some (.ref h), some (.str tx), some v, u7, u8, u9, none] ∧ KM T0 H18 Z) ⟨_, _, _, rfl, KM.refl m18.tab⟩ (fun m σ Z _ h => by obtain ⟨_, _, _, _, kz⟩ := h; exact (KM.nt m18.tab kz).seq (SqL.of eO)) ?_ ?_⟩
        · rintro m x σ Z Z' hm ⟨u7, u8, u9, rfl, kZ⟩ ⟨rfl, hx⟩
          have rx0 := all4 x (List.mem_of_getElem? hx)
          simp only [List.set_cons_succ, List.set_cons_zero]
          refine ⟨2, rfl, by decide, by decide, ?_⟩
          refine for_range (lo := 0) (n := 2) (fun m σ Y => ∃ u8 u9 : Option V, σ = [some (.ref a), some (.int (0 + (i : Int))), some (.ref b), some (.ref L), some (.ref h), some (.str tx), some v, some x, u8, u9, none] ∧ KM T0 H18 Y) ⟨_, _, rfl, kZ⟩ ?_ ?_
          · rintro m2 σ Y hm2 ⟨w8, w9, rfl, kY⟩
            have rx := rx0.nt (KM.nt m18.tab kY)
            have sh := res_sh (v := x) fun z e => (rx.2 z e).2
            simp only [List.set_cons_succ, List.set_cons_zero]
            refine ⟨_, rfl, x, rfl, rx.1, (fun z e => (rx.2 z e).1), kY.tab, fun n hn p Y2 hp k2 ep => ?_, fun l2 hl p t Y2 vs2 hp ht k2 ep et rs2 => ?_⟩
            · rw [hn] at sh
              have rx2 := rx.nt (KM.nt kY.tab k2)
              simp only [List.set_cons_succ, List.set_cons_zero]
              refine ⟨_, rfl, .ref p, resD (.inl n), rfl, .tup (SqT.of ep) (.cons (.str _) (.cons (.int _) .nil)), sh.1, sh.2.1, sh.2.2, _, rfl, x, rfl, rx2.1, (fun z e => (rx2.2 z e).1), fun n' hn' q Y3 hq s3 eq => ?_, fun l3 hl3 => (by rw [hn] at hl3; cases hl3)⟩
              obtain rfl : n' = n := Sum.inl.inj (hn'.symm.trans hn)
              refine ⟨.ref q, resD (.inl n'), rfl, .tup (SqT.of eq) (.cons (.str _) (.cons (.int _) .nil)), sh.1, sh.2.1, sh.2.2, rfl, false, congrArg V.bl (by simp), iteF ?_⟩
              refine ⟨_, rfl, p, _, 0, .str (Str.ofString "text"), rfl, rfl, SqT.of (s3 _ _ ep), atI_nat (j := 0) rfl, rfl, _, rfl, ?_⟩
              rw [decide_eq_false (show ¬ V.str (Str.ofString "text") = V.str (Str.ofString "told") from fun e => absurd (V.str.inj e) (by decide +kernel))]
              exact iteF ⟨_, _, rfl, kY.trans (k2.trans (KM.same k2.tab s3))⟩
            · rw [hl] at sh
              have rx2 := rx.nt (KM.nt kY.tab k2)
              simp only [List.set_cons_succ, List.set_cons_zero]
              refine ⟨_, rfl, .ref p, resD (.inr l2), rfl, .tup (SqT.of ep) (.cons (.str _) (.cons (.lst (SqL.of et) (runs_dp rs2)) .nil)), sh.1, sh.2.1, sh.2.2, _, rfl, x, rfl, rx2.1, (fun z e => (rx2.2 z e).1), fun n' hn' => (by rw [hl] at hn'; cases hn'), fun l3 hl3 q t3 Y3 vs3 hq ht3 s3 eq et3 rs3 => ?_⟩
              obtain rfl : l3 = l2 := Sum.inr.inj (hl3.symm.trans hl)
              refine ⟨.ref q, resD (.inr l3), rfl, .tup (SqT.of eq) (.cons (.str _) (.cons (.lst (SqL.of et3) (runs_dp rs3)) .nil)), sh.1, sh.2.1, sh.2.2, rfl, false, congrArg V.bl (by simp), iteF ?_⟩
              have ep3 := s3 _ _ ep
              have ett := s3 _ _ et
              refine ⟨_, rfl, p, _, 0, .str (Str.ofString "told"), rfl, rfl, SqT.of ep3, atI_nat (j := 0) rfl, rfl, _, rfl, ?_⟩
              rw [decide_eq_true rfl]
              have lv : vs2.length < sizeLine := by
                rw [rs2.len]
                exact Nat.lt_of_le_of_lt (read_len hl fun z e => (rx.2 z e).2) (by rw [sizeLine_eq]; decide)
              refine iteT ⟨_, rfl, p, _, 1, .ref t, rfl, rfl, SqT.of ep3, atI_nat (j := 1) rfl, .inl ⟨rfl, _, SqL.of ett⟩, t, vs2, _, rfl, rfl, ett, lv, ?_⟩
              exact ⟨_, _, rfl, kY.trans (KM.put kY.tab (k2.trans (KM.same k2.tab s3)) ht)⟩
          · rintro σ Y ⟨w8, w9, rfl, kY⟩
            exact ⟨_, _, _, rfl, kY⟩
        · rintro σ Z ⟨u7, u8, u9, rfl, kZ⟩
          exact ⟨_, _, _, _, _, _, _, _, _, rfl, k1.trans (m18.trans kZ)⟩
    · rintro σ H1 ⟨v1, v2, v3, v4, v5, v6, v7, v8, v9, rfl, k1⟩
      exact k H1
end
end R7

namespace R7
open PySem PySem.Spec L2 My
def fsOf (a b : Addr) : So → Addr
  | .name => a
  | .time => b
end R7

set_option maxRecDepth 100000
set_option maxHeartbeats 4000000
namespace R7
open PySem PySem.Spec PyProof.Rows L2 GxR Gd TL My
theorem all_mk {l : PySem.W.OpenLaw} {q : Program} {w : World} {K : PySem.W.Frag} {h : Heap} {mg : Str → Option Value} {fa CY CN CS aSO f1 f2 f3 f4 f5 f6 f7 f8 f9 f10 f11 f12 f13 f14 f15 f16 f17 f18 f19 f20 f21 f22 f23 f24 f25 f26 f27 f28 f29 f30 f31 f32 co0 tb0 co1 tb1 co2 tb2 : Addr} {eo0 : Value} {eoD0 : Option Addr} {us0 : Array Value} {usl0 : Array (Option Value)} {eo1 : Value} {eoD1 : Option Addr} {us1 : Array Value} {usl1 : Array (Option Value)} {eo2 : Value} {eoD2 : Option Addr} {us2 : Array Value} {usl2 : Array (Option Value)}
    (X : K.In h) (G : h.Ns mainGlobals mg) (hfa : mg "law" = some (.ref fa)) (em : Empt q K h)
     {nmCY qCY : Str} {NCY : Addr} {bsCY : List Value} {snCY : List Str} {subCY : List Value} {abCY : Bool} {colCY : Option Bool} {ddCY : Option Addr} {m0CY m1CY m2CY m3CY m5CY : Option Value} {nmCN qCN : Str} {NCN : Addr} {bsCN : List Value} {snCN : List Str} {subCN : List Value} {abCN : Bool} {colCN : Option Bool} {ddCN : Option Addr} {m0CN m1CN m2CN m3CN m5CN : Option Value} {zr : Str} {kr tM tN : Tok} {nSO : Nat} {esO : Array DictEntry} {od1 an1 : Option Addr} {sl1 : Array (Option Value)} {oc1 kV1 dc1 pm1 cd1 ct1 : Value} {od2 an2 : Option Addr} {sl2 : Array (Option Value)} {oc2 kV2 dc2 pm2 cd2 ct2 : Value} {od3 an3 : Option Addr} {sl3 : Array (Option Value)} {oc3 kV3 dc3 pm3 cd3 ct3 : Value} {od4 an4 : Option Addr} {sl4 : Array (Option Value)} {oc4 kV4 dc4 pm4 cd4 ct4 : Value} {od5 an5 : Option Addr} {sl5 : Array (Option Value)} {oc5 kV5 dc5 pm5 ct5 : Value} {od6 an6 : Option Addr} {sl6 : Array (Option Value)} {oc6 kV6 dc6 pm6 cd6 ct6 : Value} {od7 an7 : Option Addr} {sl7 : Array (Option Value)} {oc7 kV7 dc7 pm7 cd7 ct7 : Value} {od8 an8 : Option Addr} {sl8 : Array (Option Value)} {oc8 kV8 dc8 pm8 cd8 ct8 : Value} {od9 an9 : Option Addr} {sl9 : Array (Option Value)} {oc9 kV9 dc9 pm9 ct9 : Value} {od10 an10 : Option Addr} {sl10 : Array (Option Value)} {oc10 kV10 dc10 pm10 cd10 ct10 : Value} {od11 an11 : Option Addr} {sl11 : Array (Option Value)} {oc11 kV11 dc11 pm11 ct11 : Value} {od12 an12 : Option Addr} {sl12 : Array (Option Value)} {oc12 kV12 dc12 pm12 cd12 ct12 : Value} {od13 an13 : Option Addr} {sl13 : Array (Option Value)} {oc13 kV13 dc13 pm13 cd13 ct13 : Value} {od14 an14 : Option Addr} {sl14 : Array (Option Value)} {oc14 kV14 dc14 pm14 cd14 ct14 : Value} {od15 an15 : Option Addr} {sl15 : Array (Option Value)} {oc15 kV15 dc15 pm15 cd15 ct15 : Value} {od16 an16 : Option Addr} {sl16 : Array (Option Value)} {oc16 kV16 dc16 pm16 cd16 ct16 : Value} {od17 an17 : Option Addr} {sl17 : Array (Option Value)} {oc17 kV17 dc17 pm17 cd17 ct17 : Value} {od18 an18 : Option Addr} {sl18 : Array (Option Value)} {oc18 kV18 dc18 pm18 cd18 ct18 : Value} {od19 an19 : Option Addr} {sl19 : Array (Option Value)} {oc19 kV19 dc19 pm19 cd19 ct19 : Value} {od20 an20 : Option Addr} {sl20 : Array (Option Value)} {oc20 kV20 dc20 pm20 cd20 ct20 : Value} {od21 an21 : Option Addr} {sl21 : Array (Option Value)} {oc21 kV21 dc21 pm21 cd21 ct21 : Value} {od22 an22 : Option Addr} {sl22 : Array (Option Value)} {oc22 kV22 dc22 pm22 cd22 ct22 : Value} {od23 an23 : Option Addr} {sl23 : Array (Option Value)} {oc23 kV23 dc23 pm23 cd23 ct23 : Value} {od24 an24 : Option Addr} {sl24 : Array (Option Value)} {oc24 kV24 dc24 pm24 cd24 ct24 : Value} {od25 an25 : Option Addr} {sl25 : Array (Option Value)} {oc25 kV25 dc25 pm25 cd25 ct25 : Value} {od26 an26 : Option Addr} {sl26 : Array (Option Value)} {oc26 kV26 dc26 pm26 cd26 ct26 : Value} {od27 an27 : Option Addr} {sl27 : Array (Option Value)} {oc27 kV27 dc27 pm27 cd27 ct27 : Value} {od28 an28 : Option Addr} {sl28 : Array (Option Value)} {oc28 kV28 dc28 pm28 cd28 ct28 : Value} {od29 an29 : Option Addr} {sl29 : Array (Option Value)} {oc29 kV29 dc29 pm29 cd29 ct29 : Value} {od30 an30 : Option Addr} {sl30 : Array (Option Value)} {oc30 kV30 dc30 pm30 cd30 ct30 : Value} {od31 an31 : Option Addr} {sl31 : Array (Option Value)} {oc31 kV31 dc31 pm31 cd31 ct31 : Value} {od32 an32 : Option Addr} {sl32 : Array (Option Value)} {oc32 kV32 dc32 pm32 cd32 ct32 : Value}
    (aCY : PySem.W.nsIn K mainGlobals "NoText" = some (some (.ref CY))) (xlCY : K.lookup CY = some (excClassObj nmCY qCY CY NCY bsCY [.ref CS, .type "ValueError", .type "Exception", .type "BaseException", .type "object"] true snCY subCY abCY colCY ddCY m0CY m1CY m2CY m3CY m5CY "ValueError.__new__")) (saCY : PySem.W.findIn K (.ref CY) "__setattr__" = some (some (.builtin "object.__setattr__"))) (gaCY : PySem.W.findIn K (.ref CY) "__getattribute__" = some (some (.builtin "BaseException.__getattribute__"))) (ggCY : PySem.W.findIn K (.ref CY) "__getattr__" = some none) (kcCY : PySem.W.keepIn K (.ref CY) = true) (exCY : PySem.W.subIn K (.ref CY) (.type "BaseException") = some true) (tyCY : PySem.W.typeIn K (.ref CY) = some (.type "type")) (hdCY : PySem.W.hasDictIn K CY = true) (icCY : PySem.W.isClsIn K CY = true) (coCY : PySem.W.findIn K (.ref CY) "__class__" = some (some (.builtin "object.__class__"))) (moCY : PySem.W.mroIn K CY (.type "object") = some true) (n0CY : PySem.W.findIn K (.ref CY) "row" = some none) (aCN : PySem.W.nsIn K mainGlobals "NoRun" = some (some (.ref CN))) (xlCN : K.lookup CN = some (excClassObj nmCN qCN CN NCN bsCN [.ref CS, .type "ValueError", .type "Exception", .type "BaseException", .type "object"] true snCN subCN abCN colCN ddCN m0CN m1CN m2CN m3CN m5CN "ValueError.__new__")) (saCN : PySem.W.findIn K (.ref CN) "__setattr__" = some (some (.builtin "object.__setattr__"))) (gaCN : PySem.W.findIn K (.ref CN) "__getattribute__" = some (some (.builtin "BaseException.__getattribute__"))) (ggCN : PySem.W.findIn K (.ref CN) "__getattr__" = some none) (kcCN : PySem.W.keepIn K (.ref CN) = true) (exCN : PySem.W.subIn K (.ref CN) (.type "BaseException") = some true) (tyCN : PySem.W.typeIn K (.ref CN) = some (.type "type")) (hdCN : PySem.W.hasDictIn K CN = true) (icCN : PySem.W.isClsIn K CN = true) (coCN : PySem.W.findIn K (.ref CN) "__class__" = some (some (.builtin "object.__class__"))) (moCN : PySem.W.mroIn K CN (.type "object") = some true) (n0CN : PySem.W.findIn K (.ref CN) "found" = some none) (a1 : PySem.W.findIn K (.ref CS) "__init__" = some (some (.ref f1))) (i1 : PySem.W.isFn K (.ref f1) = true) (l1 : K.lookup f1 = some ⟨oc1, od1, .func (PySem.W.fnOf "__init__" "StaffError.__init__" (defArgs sSE) (defBody sSE) (defScope sSE) .none kV1 dc1 pm1 an1 cd1 ct1), sl1⟩) (c1 : PySem.W.codeIn K cd1 "StaffError.__init__" = true) (k1 : PySem.W.keepIn K (.ref f1) = true) (a2 : PySem.W.findIn K (.ref CY) "__init__" = some (some (.ref f2))) (i2 : PySem.W.isFn K (.ref f2) = true) (l2 : K.lookup f2 = some ⟨oc2, od2, .func (PySem.W.fnOf "__init__" "NoText.__init__" (defArgs sNoText) (defBody sNoText) (defScope sNoText) .none kV2 dc2 pm2 an2 cd2 ct2), sl2⟩) (c2 : PySem.W.codeIn K cd2 "NoText.__init__" = true) (k2 : PySem.W.keepIn K (.ref f2) = true) (a3 : PySem.W.findIn K (.ref CN) "__init__" = some (some (.ref f3))) (i3 : PySem.W.isFn K (.ref f3) = true) (l3 : K.lookup f3 = some ⟨oc3, od3, .func (PySem.W.fnOf "__init__" "NoRun.__init__" (defArgs sNoRun) (defBody sNoRun) (defScope sNoRun) .none kV3 dc3 pm3 an3 cd3 ct3), sl3⟩) (c3 : PySem.W.codeIn K cd3 "NoRun.__init__" = true) (k3 : PySem.W.keepIn K (.ref f3) = true) (a4 : PySem.W.nsIn K mainGlobals "is_whole" = some (some (.ref f4))) (l4 : K.lookup f4 = some ⟨oc4, od4, .func (PySem.W.fnOf "is_whole" "is_whole" (defArgs sWhole) (defBody sWhole) (defScope sWhole) .none kV4 dc4 pm4 an4 cd4 ct4), sl4⟩) (c4 : PySem.W.codeIn K cd4 "is_whole" = true) (k4 : PySem.W.keepIn K (.ref f4) = true) (a5 : PySem.W.nsIn K mainGlobals "is_name" = some (some (.ref f5))) (l5 : K.lookup f5 = some ⟨oc5, od5, .func (PySem.W.fnOf "is_name" "is_name" (defArgs sName) (defBody sName) (defScope sName) .none kV5 dc5 pm5 an5 (.ref co0) ct5), sl5⟩) (c5 : PySem.W.codeIn K (.ref co0) "is_name" = true) (k5 : PySem.W.keepIn K (.ref f5) = true) (a6 : PySem.W.nsIn K mainGlobals "_is_name" = some (some (.ref f6))) (l6 : K.lookup f6 = some ⟨oc6, od6, .func (PySem.W.fnOf "_is_name" "_is_name" (defArgs s_is_name) (defBody s_is_name) (defScope s_is_name) .none kV6 dc6 pm6 an6 cd6 ct6), sl6⟩) (c6 : PySem.W.codeIn K cd6 "_is_name" = true) (k6 : PySem.W.keepIn K (.ref f6) = true) (a7 : PySem.W.nsIn K mainGlobals "_is_time" = some (some (.ref f7))) (l7 : K.lookup f7 = some ⟨oc7, od7, .func (PySem.W.fnOf "_is_time" "_is_time" (defArgs s_is_time) (defBody s_is_time) (defScope s_is_time) .none kV7 dc7 pm7 an7 cd7 ct7), sl7⟩) (c7 : PySem.W.codeIn K cd7 "_is_time" = true) (k7 : PySem.W.keepIn K (.ref f7) = true) (a8 : PySem.W.nsIn K mainGlobals "_is_of" = some (some (.ref f8))) (l8 : K.lookup f8 = some ⟨oc8, od8, .func (PySem.W.fnOf "_is_of" "_is_of" (defArgs s_is_of) (defBody s_is_of) (defScope s_is_of) .none kV8 dc8 pm8 an8 cd8 ct8), sl8⟩) (c8 : PySem.W.codeIn K cd8 "_is_of" = true) (k8 : PySem.W.keepIn K (.ref f8) = true) (a9 : PySem.W.nsIn K mainGlobals "fits" = some (some (.ref f9))) (l9 : K.lookup f9 = some ⟨oc9, od9, .func (PySem.W.fnOf "fits" "fits" (defArgs s_fits) (defBody s_fits) (defScope s_fits) .none kV9 dc9 pm9 an9 (.ref co2) ct9), sl9⟩) (c9 : PySem.W.codeIn K (.ref co2) "fits" = true) (k9 : PySem.W.keepIn K (.ref f9) = true) (a10 : PySem.W.nsIn K mainGlobals "write_row" = some (some (.ref f10))) (l10 : K.lookup f10 = some ⟨oc10, od10, .func (PySem.W.fnOf "write_row" "write_row" (defArgs s_write_row) (defBody s_write_row) (defScope s_write_row) .none kV10 dc10 pm10 an10 cd10 ct10), sl10⟩) (c10 : PySem.W.codeIn K cd10 "write_row" = true) (k10 : PySem.W.keepIn K (.ref f10) = true) (a11 : PySem.W.nsIn K mainGlobals "_part_of" = some (some (.ref f11))) (l11 : K.lookup f11 = some ⟨oc11, od11, .func (PySem.W.fnOf "_part_of" "_part_of" (defArgs s_part_of) (defBody s_part_of) (defScope s_part_of) .none kV11 dc11 pm11 an11 (.ref co1) ct11), sl11⟩) (c11 : PySem.W.codeIn K (.ref co1) "_part_of" = true) (k11 : PySem.W.keepIn K (.ref f11) = true) (a12 : PySem.W.nsIn K mainGlobals "read_row" = some (some (.ref f12))) (l12 : K.lookup f12 = some ⟨oc12, od12, .func (PySem.W.fnOf "read_row" "read_row" (defArgs s_read_row) (defBody s_read_row) (defScope s_read_row) .none kV12 dc12 pm12 an12 cd12 ct12), sl12⟩) (c12 : PySem.W.codeIn K cd12 "read_row" = true) (k12 : PySem.W.keepIn K (.ref f12) = true) (a13 : PySem.W.nsIn K mainGlobals "rows_of" = some (some (.ref f13))) (l13 : K.lookup f13 = some ⟨oc13, od13, .func (PySem.W.fnOf "rows_of" "rows_of" (defArgs s_rows_of) (defBody s_rows_of) (defScope s_rows_of) .none kV13 dc13 pm13 an13 cd13 ct13), sl13⟩) (c13 : PySem.W.codeIn K cd13 "rows_of" = true) (k13 : PySem.W.keepIn K (.ref f13) = true) (a14 : PySem.W.nsIn K mainGlobals "_run_of_row" = some (some (.ref f14))) (l14 : K.lookup f14 = some ⟨oc14, od14, .func (PySem.W.fnOf "_run_of_row" "_run_of_row" (defArgs s_run_of_row) (defBody s_run_of_row) (defScope s_run_of_row) .none kV14 dc14 pm14 an14 cd14 ct14), sl14⟩) (c14 : PySem.W.codeIn K cd14 "_run_of_row" = true) (k14 : PySem.W.keepIn K (.ref f14) = true) (a15 : PySem.W.nsIn K mainGlobals "read_rows" = some (some (.ref f15))) (l15 : K.lookup f15 = some ⟨oc15, od15, .func (PySem.W.fnOf "read_rows" "read_rows" (defArgs s_read_rows) (defBody s_read_rows) (defScope s_read_rows) .none kV15 dc15 pm15 an15 cd15 ct15), sl15⟩) (c15 : PySem.W.codeIn K cd15 "read_rows" = true) (k15 : PySem.W.keepIn K (.ref f15) = true) (a16 : PySem.W.nsIn K mainGlobals "table_in" = some (some (.ref f16))) (l16 : K.lookup f16 = some ⟨oc16, od16, .func (PySem.W.fnOf "table_in" "table_in" (defArgs s_table_in) (defBody s_table_in) (defScope s_table_in) .none kV16 dc16 pm16 an16 cd16 ct16), sl16⟩) (c16 : PySem.W.codeIn K cd16 "table_in" = true) (k16 : PySem.W.keepIn K (.ref f16) = true) (a17 : PySem.W.nsIn K mainGlobals "table_text" = some (some (.ref f17))) (l17 : K.lookup f17 = some ⟨oc17, od17, .func (PySem.W.fnOf "table_text" "table_text" (defArgs s_table_text) (defBody s_table_text) (defScope s_table_text) .none kV17 dc17 pm17 an17 cd17 ct17), sl17⟩) (c17 : PySem.W.codeIn K cd17 "table_text" = true) (k17 : PySem.W.keepIn K (.ref f17) = true) (a18 : PySem.W.nsIn K mainGlobals "_law_cell" = some (some (.ref f18))) (l18 : K.lookup f18 = some ⟨oc18, od18, .func (PySem.W.fnOf "_law_cell" "_law_cell" (defArgs sCell) (defBody sCell) (defScope sCell) .none kV18 dc18 pm18 an18 cd18 ct18), sl18⟩) (c18 : PySem.W.codeIn K cd18 "_law_cell" = true) (k18 : PySem.W.keepIn K (.ref f18) = true) (a19 : PySem.W.nsIn K mainGlobals "_law_box" = some (some (.ref f19))) (l19 : K.lookup f19 = some ⟨oc19, od19, .func (PySem.W.fnOf "_law_box" "_law_box" (defArgs sBox) (defBody sBox) (defScope sBox) .none kV19 dc19 pm19 an19 cd19 ct19), sl19⟩) (c19 : PySem.W.codeIn K cd19 "_law_box" = true) (k19 : PySem.W.keepIn K (.ref f19) = true) (a20 : PySem.W.nsIn K mainGlobals "_law_take" = some (some (.ref f20))) (l20 : K.lookup f20 = some ⟨oc20, od20, .func (PySem.W.fnOf "_law_take" "_law_take" (defArgs sTake) (defBody sTake) (defScope sTake) .none kV20 dc20 pm20 an20 cd20 ct20), sl20⟩) (c20 : PySem.W.codeIn K cd20 "_law_take" = true) (k20 : PySem.W.keepIn K (.ref f20) = true) (a21 : PySem.W.nsIn K mainGlobals "_law_names" = some (some (.ref f21))) (l21 : K.lookup f21 = some ⟨oc21, od21, .func (PySem.W.fnOf "_law_names" "_law_names" (defArgs s_law_names) (defBody s_law_names) (defScope s_law_names) .none kV21 dc21 pm21 an21 cd21 ct21), sl21⟩) (c21 : PySem.W.codeIn K cd21 "_law_names" = true) (k21 : PySem.W.keepIn K (.ref f21) = true) (a22 : PySem.W.nsIn K mainGlobals "_law_signs" = some (some (.ref f22))) (l22 : K.lookup f22 = some ⟨oc22, od22, .func (PySem.W.fnOf "_law_signs" "_law_signs" (defArgs s_law_signs) (defBody s_law_signs) (defScope s_law_signs) .none kV22 dc22 pm22 an22 cd22 ct22), sl22⟩) (c22 : PySem.W.codeIn K cd22 "_law_signs" = true) (k22 : PySem.W.keepIn K (.ref f22) = true) (a23 : PySem.W.nsIn K mainGlobals "_law_time" = some (some (.ref f23))) (l23 : K.lookup f23 = some ⟨oc23, od23, .func (PySem.W.fnOf "_law_time" "_law_time" (defArgs s_law_time) (defBody s_law_time) (defScope s_law_time) .none kV23 dc23 pm23 an23 cd23 ct23), sl23⟩) (c23 : PySem.W.codeIn K cd23 "_law_time" = true) (k23 : PySem.W.keepIn K (.ref f23) = true) (a24 : PySem.W.nsIn K mainGlobals "_law_runs" = some (some (.ref f24))) (l24 : K.lookup f24 = some ⟨oc24, od24, .func (PySem.W.fnOf "_law_runs" "_law_runs" (defArgs s_law_runs) (defBody s_law_runs) (defScope s_law_runs) .none kV24 dc24 pm24 an24 cd24 ct24), sl24⟩) (c24 : PySem.W.codeIn K cd24 "_law_runs" = true) (k24 : PySem.W.keepIn K (.ref f24) = true) (a25 : PySem.W.nsIn K mainGlobals "_law_row" = some (some (.ref f25))) (l25 : K.lookup f25 = some ⟨oc25, od25, .func (PySem.W.fnOf "_law_row" "_law_row" (defArgs s_law_row) (defBody s_law_row) (defScope s_law_row) .none kV25 dc25 pm25 an25 cd25 ct25), sl25⟩) (c25 : PySem.W.codeIn K cd25 "_law_row" = true) (k25 : PySem.W.keepIn K (.ref f25) = true) (a26 : PySem.W.nsIn K mainGlobals "_law_row_otherwise" = some (some (.ref f26))) (l26 : K.lookup f26 = some ⟨oc26, od26, .func (PySem.W.fnOf "_law_row_otherwise" "_law_row_otherwise" (defArgs s_law_row_otherwise) (defBody s_law_row_otherwise) (defScope s_law_row_otherwise) .none kV26 dc26 pm26 an26 cd26 ct26), sl26⟩) (c26 : PySem.W.codeIn K cd26 "_law_row_otherwise" = true) (k26 : PySem.W.keepIn K (.ref f26) = true) (a27 : PySem.W.nsIn K mainGlobals "_law_otherwise" = some (some (.ref f27))) (l27 : K.lookup f27 = some ⟨oc27, od27, .func (PySem.W.fnOf "_law_otherwise" "_law_otherwise" (defArgs s_law_otherwise) (defBody s_law_otherwise) (defScope s_law_otherwise) .none kV27 dc27 pm27 an27 cd27 ct27), sl27⟩) (c27 : PySem.W.codeIn K cd27 "_law_otherwise" = true) (k27 : PySem.W.keepIn K (.ref f27) = true) (a28 : PySem.W.nsIn K mainGlobals "_law_number" = some (some (.ref f28))) (l28 : K.lookup f28 = some ⟨oc28, od28, .func (PySem.W.fnOf "_law_number" "_law_number" (defArgs s_law_number) (defBody s_law_number) (defScope s_law_number) .none kV28 dc28 pm28 an28 cd28 ct28), sl28⟩) (c28 : PySem.W.codeIn K cd28 "_law_number" = true) (k28 : PySem.W.keepIn K (.ref f28) = true) (a29 : PySem.W.nsIn K mainGlobals "_law_is_name" = some (some (.ref f29))) (l29 : K.lookup f29 = some ⟨oc29, od29, .func (PySem.W.fnOf "_law_is_name" "_law_is_name" (defArgs s_law_is_name) (defBody s_law_is_name) (defScope s_law_is_name) .none kV29 dc29 pm29 an29 cd29 ct29), sl29⟩) (c29 : PySem.W.codeIn K cd29 "_law_is_name" = true) (k29 : PySem.W.keepIn K (.ref f29) = true) (a30 : PySem.W.nsIn K mainGlobals "_law_read" = some (some (.ref f30))) (l30 : K.lookup f30 = some ⟨oc30, od30, .func (PySem.W.fnOf "_law_read" "_law_read" (defArgs s_law_read) (defBody s_law_read) (defScope s_law_read) .none kV30 dc30 pm30 an30 cd30 ct30), sl30⟩) (c30 : PySem.W.codeIn K cd30 "_law_read" = true) (k30 : PySem.W.keepIn K (.ref f30) = true) (a31 : PySem.W.nsIn K mainGlobals "_law_caught" = some (some (.ref f31))) (l31 : K.lookup f31 = some ⟨oc31, od31, .func (PySem.W.fnOf "_law_caught" "_law_caught" (defArgs s_law_caught) (defBody s_law_caught) (defScope s_law_caught) .none kV31 dc31 pm31 an31 cd31 ct31), sl31⟩) (c31 : PySem.W.codeIn K cd31 "_law_caught" = true) (k31 : PySem.W.keepIn K (.ref f31) = true) (a32 : PySem.W.nsIn K mainGlobals "law" = some (some (.ref f32))) (l32 : K.lookup f32 = some ⟨oc32, od32, .func (PySem.W.fnOf "law" "law" (defArgs s_law) (defBody s_law) (defScope s_law) .none kV32 dc32 pm32 an32 cd32 ct32), sl32⟩) (c32 : PySem.W.codeIn K cd32 "law" = true) (k32 : PySem.W.keepIn K (.ref f32) = true) (lco0 : K.lookup co0 = some ⟨eo0, eoD0, .fields us0, usl0⟩) (uel0 : us0[11]? = some (.ref tb0)) (ntb0 : K.lookup tb0 = none) (hrec0 : ((PyProof.Rows.recsOf q).any fun r => r.name == "is_name") = true) (lco1 : K.lookup co1 = some ⟨eo1, eoD1, .fields us1, usl1⟩) (uel1 : us1[11]? = some (.ref tb1)) (ntb1 : K.lookup tb1 = none) (hrec1 : ((PyProof.Rows.recsOf q).any fun r => r.name == "_part_of") = true) (lco2 : K.lookup co2 = some ⟨eo2, eoD2, .fields us2, usl2⟩) (uel2 : us2[11]? = some (.ref tb2)) (ntb2 : K.lookup tb2 = none) (hrec2 : ((PyProof.Rows.recsOf q).any fun r => r.name == "fits") = true) (z0 : PySem.W.nsIn K mainGlobals "isinstance" = some none) (z1 : PySem.W.nsIn K mainGlobals "int" = some none) (z2 : PySem.W.nsIn K mainGlobals "bool" = some none) (z3 : PySem.W.nsIn K mainGlobals "str" = some none) (z4 : PySem.W.nsIn K mainGlobals "len" = some none) (z5 : PySem.W.nsIn K mainGlobals "all" = some none) (z6 : PySem.W.nsIn K mainGlobals "max" = some none) (z7 : PySem.W.nsIn K mainGlobals "min" = some none) (z8 : PySem.W.nsIn K mainGlobals "range" = some none) (z9 : PySem.W.nsIn K mainGlobals "repr" = some none) (z10 : PySem.W.nsIn K mainGlobals "list" = some none) (z11 : PySem.W.nsIn K mainGlobals "tuple" = some none) (z12 : PySem.W.nsIn K mainGlobals "enumerate" = some none) (z13 : PySem.W.nsIn K mainGlobals "sorted" = some none) (z14 : PySem.W.nsIn K mainGlobals "zip" = some none) (z15 : PySem.W.nsIn K mainGlobals "ValueError" = some none) (gRU : PySem.W.nsIn K mainGlobals "RUN" = some (some (.str zr kr))) (zRU : zr = R7.runF) (gMO : PySem.W.nsIn K mainGlobals "MOST_NUMBER" = some (some (.int 999999 tM))) (gMT : PySem.W.nsIn K mainGlobals "MOST_TIME" = some (some (.int 9999 tN))) (gSO : PySem.W.nsIn K mainGlobals "SORTS" = some (some (.ref aSO))) (lSO : K.lookup aSO = some ⟨.type "dict", none, .dict esO nSO, #[]⟩) (tSO : PySem.W.KeysLit w.params esO.toList) (wSO : (aSO == sysModules) = false) (ys0 : PySem.W.nsIn K aSO "NAME" = some (some (.ref f6))) (ys1 : PySem.W.nsIn K aSO "TIME" = some (some (.ref f7))) (aCS : PySem.W.nsIn K mainGlobals "StaffError" = some (some (.ref CS))) (gaCS : PySem.W.specialIn K (.ref CS) "__getattribute__" = some (some (.builtin "type.__getattribute__"))) (rdCS : PySem.W.readsIn K CS (.type "type") = true) (atCS : PySem.W.findCls K (.ref CS) (.type "type") "__init__" = some (.val (.ref f1))) (vi : PySem.W.findCls K (.type "ValueError") (.type "type") "__init__" = some (.val (.builtin "ValueError.__init__"))) (cg : PySem.W.specialIn K (.builtin "object.__class__") "__get__" = some (some (.builtin "getset_descriptor.__get__"))) (ct : PySem.W.takesIn K (.builtin "object.__class__") = some true) :
    GLaw l w K CX0 12 63 "_law_script" mg fa h := by
  have e := hfa.symm.trans (PySem.W.mg_of X G a32)
  cases e
  have T : Txt mg := ⟨PySem.W.mg_none_of X G z0, PySem.W.mg_none_of X G z1, PySem.W.mg_none_of X G z2, PySem.W.mg_none_of X G z3, PySem.W.mg_none_of X G z4, PySem.W.mg_none_of X G z5, PySem.W.mg_none_of X G z6, PySem.W.mg_none_of X G z7, PySem.W.mg_none_of X G z8, PySem.W.mg_none_of X G z9, PySem.W.mg_none_of X G z10, PySem.W.mg_none_of X G z11, PySem.W.mg_none_of X G z12, PySem.W.mg_none_of X G z13, PySem.W.mg_none_of X G z14⟩
  have seCY : PySem.W.subIn K (.ref CY) (.ref CY) = some true := My.sub_self (by unfold PySem.W.clsIn; rw [xlCY] <;> rfl) rfl
  have seCN : PySem.W.subIn K (.ref CN) (.ref CN) = some true := My.sub_self (by unfold PySem.W.clsIn; rw [xlCN] <;> rfl) rfl
  have F1 := fun_mk (st := sSE) l1 c1 k1
  have b1 := F1.binds (ps := ["self", "text"]) fun _ _ _ _ _ _ us hl => match us, hl with | [_, _], _ => rfl
  have F2 := fun_mk (st := sNoText) l2 c2 k2
  have b2 := F2.binds (ps := ["self", "row"]) fun _ _ _ _ _ _ us hl => match us, hl with | [_, _], _ => rfl
  have F3 := fun_mk (st := sNoRun) l3 c3 k3
  have b3 := F3.binds (ps := ["self", "found"]) fun _ _ _ _ _ _ us hl => match us, hl with | [_, _], _ => rfl
  have F4 := fun_mk (st := sWhole) l4 c4 k4
  have b4 := F4.binds (ps := ["thing", "low", "high"]) fun _ _ _ _ _ _ us hl => match us, hl with | [_, _, _], _ => rfl
  have F5 := fun_mk (st := sName) l5 c5 k5
  have b5 := F5.binds (ps := ["thing"]) fun _ _ _ _ _ _ us hl => match us, hl with | [_], _ => rfl
  have F6 := fun_mk (st := s_is_name) l6 c6 k6
  have b6 := F6.binds (ps := ["thing"]) fun _ _ _ _ _ _ us hl => match us, hl with | [_], _ => rfl
  have F7 := fun_mk (st := s_is_time) l7 c7 k7
  have b7 := F7.binds (ps := ["thing"]) fun _ _ _ _ _ _ us hl => match us, hl with | [_], _ => rfl
  have F8 := fun_mk (st := s_is_of) l8 c8 k8
  have b8 := F8.binds (ps := ["sort", "part"]) fun _ _ _ _ _ _ us hl => match us, hl with | [_, _], _ => rfl
  have F9 := fun_mk (st := s_fits) l9 c9 k9
  have b9 := F9.binds (ps := ["form", "parts"]) fun _ _ _ _ _ _ us hl => match us, hl with | [_, _], _ => rfl
  have F10 := fun_mk (st := s_write_row) l10 c10 k10
  have b10 := F10.binds (ps := ["form", "parts"]) fun _ _ _ _ _ _ us hl => match us, hl with | [_, _], _ => rfl
  have F11 := fun_mk (st := s_part_of) l11 c11 k11
  have b11 := F11.binds (ps := ["word"]) fun _ _ _ _ _ _ us hl => match us, hl with | [_], _ => rfl
  have F12 := fun_mk (st := s_read_row) l12 c12 k12
  have b12 := F12.binds (ps := ["form", "row"]) fun _ _ _ _ _ _ us hl => match us, hl with | [_, _], _ => rfl
  have F13 := fun_mk (st := s_rows_of) l13 c13 k13
  have b13 := F13.binds (ps := ["text"]) fun _ _ _ _ _ _ us hl => match us, hl with | [_], _ => rfl
  have F14 := fun_mk (st := s_run_of_row) l14 c14 k14
  have b14 := F14.binds (ps := ["row"]) fun _ _ _ _ _ _ us hl => match us, hl with | [_], _ => rfl
  have F15 := fun_mk (st := s_read_rows) l15 c15 k15
  have b15 := F15.binds (ps := ["text", "read"]) fun _ _ _ _ _ _ us hl => match us, hl with | [_, _], _ => rfl
  have F16 := fun_mk (st := s_table_in) l16 c16 k16
  have b16 := F16.binds (ps := ["text"]) fun _ _ _ _ _ _ us hl => match us, hl with | [_], _ => rfl
  have F17 := fun_mk (st := s_table_text) l17 c17 k17
  have b17 := F17.binds (ps := ["runs"]) fun _ _ _ _ _ _ us hl => match us, hl with | [_], _ => rfl
  have F18 := fun_mk (st := sCell) l18 c18 k18
  have b18 := F18.binds (ps := ["_law_script", "_law_k"]) fun _ _ _ _ _ _ us hl => match us, hl with | [_, _], _ => rfl
  have F19 := fun_mk (st := sBox) l19 c19 k19
  have b19 := F19.binds (ps := ["_law_cell_here"]) fun _ _ _ _ _ _ us hl => match us, hl with | [_], _ => rfl
  have F20 := fun_mk (st := sTake) l20 c20 k20
  have b20 := F20.binds (ps := ["_law_box_here", "_law_many"]) fun _ _ _ _ _ _ us hl => match us, hl with | [_, _], _ => rfl
  have F21 := fun_mk (st := s_law_names) l21 c21 k21
  have b21 := F21.binds (ps := ["_law_box_here", "_law_many"]) fun _ _ _ _ _ _ us hl => match us, hl with | [_, _], _ => rfl
  have F22 := fun_mk (st := s_law_signs) l22 c22 k22
  have b22 := F22.binds (ps := []) fun _ _ _ _ _ _ us hl => match us, hl with | [], _ => rfl
  have F23 := fun_mk (st := s_law_time) l23 c23 k23
  have b23 := F23.binds (ps := ["_law_box_here"]) fun _ _ _ _ _ _ us hl => match us, hl with | [_], _ => rfl
  have F24 := fun_mk (st := s_law_runs) l24 c24 k24
  have b24 := F24.binds (ps := ["_law_box_here"]) fun _ _ _ _ _ _ us hl => match us, hl with | [_], _ => rfl
  have F25 := fun_mk (st := s_law_row) l25 c25 k25
  have b25 := F25.binds (ps := ["_law_run"]) fun _ _ _ _ _ _ us hl => match us, hl with | [_], _ => rfl
  have F26 := fun_mk (st := s_law_row_otherwise) l26 c26 k26
  have b26 := F26.binds (ps := ["_law_box_here", "_law_row_here"]) fun _ _ _ _ _ _ us hl => match us, hl with | [_, _], _ => rfl
  have F27 := fun_mk (st := s_law_otherwise) l27 c27 k27
  have b27 := F27.binds (ps := ["_law_box_here", "_law_text"]) fun _ _ _ _ _ _ us hl => match us, hl with | [_, _], _ => rfl
  have F28 := fun_mk (st := s_law_number) l28 c28 k28
  have b28 := F28.binds (ps := ["_law_word"]) fun _ _ _ _ _ _ us hl => match us, hl with | [_], _ => rfl
  have F29 := fun_mk (st := s_law_is_name) l29 c29 k29
  have b29 := F29.binds (ps := ["_law_word"]) fun _ _ _ _ _ _ us hl => match us, hl with | [_], _ => rfl
  have F30 := fun_mk (st := s_law_read) l30 c30 k30
  have b30 := F30.binds (ps := ["_law_text"]) fun _ _ _ _ _ _ us hl => match us, hl with | [_], _ => rfl
  have F31 := fun_mk (st := s_law_caught) l31 c31 k31
  have b31 := F31.binds (ps := ["_law_text"]) fun _ _ _ _ _ _ us hl => match us, hl with | [_], _ => rfl
  have F32 := fun_mk (st := s_law) l32 c32 k32
  have ES : SeT K mg CS f1 _ sSE := ⟨PySem.W.mg_none_of X G z15, vi, PySem.W.mg_of X G aCS, ⟨gaCS, rdCS, atCS⟩, k1, F1, b1⟩
  have ECY : ExR K mg "NoText" "NoText.__init__" sNoText CY f2 _ := ⟨PySem.W.mg_of X G aCY, F2, b2, ⟨⟨nmCY, qCY, NCY, bsCY, _, snCY, subCY, abCY, colCY, ddCY, m0CY, m1CY, m2CY, m3CY, m5CY, xlCY, rfl⟩, saCY, exCY, tyCY, kcCY⟩, a2, (beq_iff_eq.mp i2), n0CY, PySem.W.exm_ref exCY hdCY tyCY seCY, ⟨gaCY, ggCY, exCY, hdCY⟩, ⟨icCY, gaCY, ggCY, exCY, coCY, cg, ct, moCY⟩⟩
  have ECN : ExC K mg "NoRun" "NoRun.__init__" sNoRun CN f3 _ := ⟨PySem.W.mg_of X G aCN, F3, b3, ⟨⟨nmCN, qCN, NCN, bsCN, _, snCN, subCN, abCN, colCN, ddCN, m0CN, m1CN, m2CN, m3CN, m5CN, xlCN, rfl⟩, saCN, exCN, tyCN, kcCN⟩, a3, (beq_iff_eq.mp i3), n0CN, PySem.W.exm_ref exCN hdCN tyCN seCN, ⟨gaCN, ggCN, exCN, hdCN⟩, ⟨icCN, gaCN, ggCN, exCN, coCN, cg, ct, moCN⟩⟩
  have DSO : KDict K w aSO esO nSO := ⟨lSO, tSO, wSO⟩
  have SD : SoD K w aSO (fsOf f6 f7) esO nSO := ⟨DSO, fun x => match x with | .name => ys0 | .time => ys1⟩
  have gR : mg "RUN" = some (.str runF kr) := by rw [← zRU]; exact PySem.W.mg_of X G gRU
  obtain ⟨ch0, tabh0⟩ := em "is_name" f5 co0 tb0 _ _ eo0 eoD0 us0 usl0 hrec0 a5 l5 rfl rfl lco0 uel0
  obtain ⟨ch1, tabh1⟩ := em "_part_of" f11 co1 tb1 _ _ eo1 eoD1 us1 usl1 hrec1 a11 l11 rfl rfl lco1 uel1
  obtain ⟨ch2, tabh2⟩ := em "fits" f9 co2 tb2 _ _ eo2 eoD2 us2 usl2 hrec2 a9 l9 rfl rfl lco2 uel2
  refine ⟨PySem.W.fnOf "law" "law" (defArgs s_law) (defBody s_law) (defScope s_law) .none kV32 dc32 pm32 an32 cd32 ct32, [(co0, tb0), (co1, tb1), (co2, tb2)], spLaw K [tb0, tb1, tb2], ?_, ?_, ?_, fun s v => .of_eq rfl, ?_, ?_⟩
  · intro p hp
    rcases List.mem_cons.mp hp with e0 | hp
    · rw [e0]; exact tabh0
    rcases List.mem_cons.mp hp with e0 | hp
    · rw [e0]; exact tabh1
    rcases List.mem_cons.mp hp with e0 | hp
    · rw [e0]; exact tabh2
    cases hp
  · intro p hp
    rcases List.mem_cons.mp hp with e0 | hp
    · rw [e0]; exact ntb0
    rcases List.mem_cons.mp hp with e0 | hp
    · rw [e0]; exact ntb1
    rcases List.mem_cons.mp hp with e0 | hp
    · rw [e0]; exact ntb2
    cases hp
  · intro p hp
    rcases List.mem_cons.mp hp with e0 | hp
    · rw [e0]; exact ch0
    rcases List.mem_cons.mp hp with e0 | hp
    · rw [e0]; exact ch1
    rcases List.mem_cons.mp hp with e0 | hp
    · rw [e0]; exact ch2
    cases hp
  · intro H a ns hn _ hT hS
    refine ⟨a, ns, rfl, hS, hn, ?_, fun _ => rfl⟩
    intro p hp
    rcases List.mem_cons.mp hp with e0 | hp
    · rw [e0]; exact ⟨#[], hT (co0, tb0) (List.mem_cons_self ..), trivial⟩
    rcases List.mem_cons.mp hp with e0 | hp
    · rw [e0]; exact ⟨#[], hT (co1, tb1) (List.mem_cons_of_mem _ (List.mem_cons_self ..)), trivial⟩
    rcases List.mem_cons.mp hp with e0 | hp
    · rw [e0]; exact ⟨#[], hT (co2, tb2) (List.mem_cons_of_mem _ (List.mem_cons_of_mem _ (List.mem_cons_self ..))), trivial⟩
    cases hp
  · intro base kb nb TB
    have gis_whole : FnOk l.prog w K mg base CX0 _ f4 _ _ _ := ok_whole F4 T
    have gis_name := ok_name (P := l.prog) (w := w) l5 c5 T (TB (co0, tb0) (List.mem_cons_self ..))
    have gchk_name : FnOk l.prog w K mg base CX0 _ f6 _ _ _ := ok_chk_name (List.mem_cons_self ..) (T := [tb0, tb1, tb2]) F6 ⟨F5, PySem.W.mg_of X G a5, b5⟩ gis_name
    have gchk_time : FnOk l.prog w K mg base CX0 _ f7 _ _ _ := ok_chk_time (T := [tb0, tb1, tb2]) F7 (PySem.W.mg_of X G gMT) ⟨F4, PySem.W.mg_of X G a4, b4⟩ gis_whole
    have HA : ∀ x, Held l.prog w K mg base 3 (fsOf f6 f7 x) (spChk [tb0, tb1, tb2] x) := fun x => match x with
      | .name => ⟨⟨_, _, gchk_name, k6, b6⟩⟩
      | .time => ⟨⟨_, _, gchk_time, k7, b7⟩⟩
    have gis_of : FnOk l.prog w K mg base CX0 _ f8 _ _ _ := ok_is_of F8 (PySem.W.mg_of X G gSO) (fun x => SD.item x) HA
    have gfits := ok_fits (P := l.prog) (w := w) (show tb2 ∈ [tb0, tb1, tb2] from (List.mem_cons_of_mem _ (List.mem_cons_of_mem _ (List.mem_cons_self ..)))) l9 c9 T (TB (co2, tb2) (List.mem_cons_of_mem _ (List.mem_cons_of_mem _ (List.mem_cons_self ..)))) (PySem.W.mg_of X G gSO) SD ⟨F8, PySem.W.mg_of X G a8, b8⟩ gis_of
    have gwrite_row : FnOk l.prog w K mg base CX0 _ f10 _ _ _ := ok_write_row F10 T (PySem.W.mg_of X G gSO) SD
    have gpart_of := ok_part_of (P := l.prog) (w := w) l11 c11 (show tb1 ∈ [tb0, tb1, tb2] from (List.mem_cons_of_mem _ (List.mem_cons_self ..))) T (TB (co1, tb1) (List.mem_cons_of_mem _ (List.mem_cons_self ..))) (PySem.W.mg_of X G gMO)
    have gread_row : FnOk l.prog w K mg base CX0 _ f12 _ _ _ := ok_read_row F12 T (PySem.W.mg_of X G gSO) SD ⟨F9, PySem.W.mg_of X G a9, b9⟩ gfits ⟨F11, PySem.W.mg_of X G a11, b11⟩ gpart_of
    have grows_of : FnOk l.prog w K mg base (CX l.prog w) _ f13 _ _ _ := ok_rows_of F13 T ES ECY
    have grun_of_row : FnOk l.prog w K mg base CX0 _ f14 _ _ _ := ok_run_of_row F14 T gR ⟨F12, PySem.W.mg_of X G a12, b12⟩ gread_row
    have HR : Held l.prog w K mg base 8 f14 (spRun [tb0, tb1, tb2]) := ⟨⟨_, _, grun_of_row, k14, b14⟩⟩
    have gread_rows : FnOk l.prog w K mg base (CX l.prog w) _ f15 _ _ _ := ok_read_rows F15 T ES ECY ⟨F13, PySem.W.mg_of X G a13, b13⟩ grows_of HR
    have gtable_in : FnOk l.prog w K mg base (CX l.prog w) _ f16 _ _ _ := ok_table_in F16 T ⟨F14, PySem.W.mg_of X G a14, b14⟩ ⟨F15, PySem.W.mg_of X G a15, b15⟩ gread_rows
    have gtable_text : FnOk l.prog w K mg base CX0 _ f17 _ _ _ := ok_table_text F17 T gR ⟨F10, PySem.W.mg_of X G a10, b10⟩ gwrite_row
    have glaw_cell : FnOk l.prog w K mg base CX0 _ f18 _ _ _ := ok_cell F18 T
    have glaw_box : FnOk l.prog w K mg base CX0 _ f19 _ _ _ := ok_box F19 T
    have glaw_take : FnOk l.prog w K mg base CX0 _ f20 _ _ _ := ok_take F20
    have glaw_names : FnOk l.prog w K mg base CX0 _ f21 _ _ _ := ok_names F21 T ⟨F20, PySem.W.mg_of X G a20, b20⟩ glaw_take
    have glaw_signs : FnOk l.prog w K mg base CX0 _ f22 _ _ _ := ok_law_signs F22 T
    have glaw_time : FnOk l.prog w K mg base CX0 _ f23 _ _ _ := ok_time F23 T ⟨F20, PySem.W.mg_of X G a20, b20⟩ glaw_take
    have glaw_runs : FnOk l.prog w K mg base CX0 _ f24 _ _ _ := ok_law_runs F24 T ⟨F20, PySem.W.mg_of X G a20, b20⟩ glaw_take ⟨F21, PySem.W.mg_of X G a21, b21⟩ glaw_names ⟨F23, PySem.W.mg_of X G a23, b23⟩ glaw_time
    have glaw_row : FnOk l.prog w K mg base CX0 _ f25 _ _ _ := ok_law_row F25 T
    have glaw_row_otherwise : FnOk l.prog w K mg base CX0 _ f26 _ _ _ := ok_row_otherwise F26 T ⟨F20, PySem.W.mg_of X G a20, b20⟩ glaw_take
    have glaw_otherwise : FnOk l.prog w K mg base CX0 _ f27 _ _ _ := ok_otherwise F27 T ⟨F20, PySem.W.mg_of X G a20, b20⟩ glaw_take ⟨F26, PySem.W.mg_of X G a26, b26⟩ glaw_row_otherwise ⟨F22, PySem.W.mg_of X G a22, b22⟩ glaw_signs
    have glaw_number : FnOk l.prog w K mg base CX0 _ f28 _ _ _ := ok_law_number F28 T
    have glaw_is_name : FnOk l.prog w K mg base CX0 _ f29 _ _ _ := ok_law_is_name F29 T
    have glaw_read : FnOk l.prog w K mg base CX0 _ f30 _ _ _ := ok_law_read F30 T ⟨F29, PySem.W.mg_of X G a29, b29⟩ glaw_is_name ⟨F28, PySem.W.mg_of X G a28, b28⟩ glaw_number
    have glaw_caught : FnOk l.prog w K mg base CX0 _ f31 _ _ _ := ok_caught F31 T ES ECY ECN ⟨F16, PySem.W.mg_of X G a16, b16⟩ gtable_in
    exact (ok_law F32 T ⟨F18, PySem.W.mg_of X G a18, b18⟩ glaw_cell ⟨F19, PySem.W.mg_of X G a19, b19⟩ glaw_box ⟨F20, PySem.W.mg_of X G a20, b20⟩ glaw_take ⟨F24, PySem.W.mg_of X G a24, b24⟩ glaw_runs ⟨F25, PySem.W.mg_of X G a25, b25⟩ glaw_row ⟨F27, PySem.W.mg_of X G a27, b27⟩ glaw_otherwise ⟨F17, PySem.W.mg_of X G a17, b17⟩ gtable_text ⟨F30, PySem.W.mg_of X G a30, b30⟩ glaw_read ⟨F31, PySem.W.mg_of X G a31, b31⟩ glaw_caught)
end R7

open PySem PySem.W PyProof.Rows in
set_option maxRecDepth 100000 in
set_option maxHeartbeats 0 in
theorem PySem.Challenge.cw_onestaff_k70_timetables_as_texts_holds : PySem.Challenge.rw_onestaff_k70_timetables_as_texts.Holds := by
  w_on; o_law; k_head; (case hw => w_witness2)
  k_fill
  refine Gd.walk_g (l := PySem.Challenge.rw_onestaff_k70_timetables_as_texts) (n := 63) (k := 12) (x := "_law_script") (CX := fun _ => L2.CX0) rfl (by decide) rfl ⟨rfl, by decide, by decide⟩ (fun w h Y => PySem.W.kIn_of Y) ?F (fun _ _ _ _ _ z => z)
  case F =>
    intro w mg fa h Y KX G hmg em
    refine' R7.all_mk KX G hmg em ?QaCY ?QxlCY ?QsaCY ?QgaCY ?QggCY ?QkcCY ?QexCY ?QtyCY ?QhdCY ?QicCY ?QcoCY ?QmoCY ?Qn0CY ?QaCN ?QxlCN ?QsaCN ?QgaCN ?QggCN ?QkcCN ?QexCN ?QtyCN ?QhdCN ?QicCN ?QcoCN ?QmoCN ?Qn0CN ?Qa1 ?Qi1 ?Ql1 ?Qc1 ?Qk1 ?Qa2 ?Qi2 ?Ql2 ?Qc2 ?Qk2 ?Qa3 ?Qi3 ?Ql3 ?Qc3 ?Qk3 ?Qa4 ?Ql4 ?Qc4 ?Qk4 ?Qa5 ?Ql5 ?Qc5 ?Qk5 ?Qa6 ?Ql6 ?Qc6 ?Qk6 ?Qa7 ?Ql7 ?Qc7 ?Qk7 ?Qa8 ?Ql8 ?Qc8 ?Qk8 ?Qa9 ?Ql9 ?Qc9 ?Qk9 ?Qa10 ?Ql10 ?Qc10 ?Qk10 ?Qa11 ?Ql11 ?Qc11 ?Qk11 ?Qa12 ?Ql12 ?Qc12 ?Qk12 ?Qa13 ?Ql13 ?Qc13 ?Qk13 ?Qa14 ?Ql14 ?Qc14 ?Qk14 ?Qa15 ?Ql15 ?Qc15 ?Qk15 ?Qa16 ?Ql16 ?Qc16 ?Qk16 ?Qa17 ?Ql17 ?Qc17 ?Qk17 ?Qa18 ?Ql18 ?Qc18 ?Qk18 ?Qa19 ?Ql19 ?Qc19 ?Qk19 ?Qa20 ?Ql20 ?Qc20 ?Qk20 ?Qa21 ?Ql21 ?Qc21 ?Qk21 ?Qa22 ?Ql22 ?Qc22 ?Qk22 ?Qa23 ?Ql23 ?Qc23 ?Qk23 ?Qa24 ?Ql24 ?Qc24 ?Qk24 ?Qa25 ?Ql25 ?Qc25 ?Qk25 ?Qa26 ?Ql26 ?Qc26 ?Qk26 ?Qa27 ?Ql27 ?Qc27 ?Qk27 ?Qa28 ?Ql28 ?Qc28 ?Qk28 ?Qa29 ?Ql29 ?Qc29 ?Qk29 ?Qa30 ?Ql30 ?Qc30 ?Qk30 ?Qa31 ?Ql31 ?Qc31 ?Qk31 ?Qa32 ?Ql32 ?Qc32 ?Qk32 ?Qlco0 ?Quel0 ?Qntb0 ?Qhrec0 ?Qlco1 ?Quel1 ?Qntb1 ?Qhrec1 ?Qlco2 ?Quel2 ?Qntb2 ?Qhrec2 ?Qz0 ?Qz1 ?Qz2 ?Qz3 ?Qz4 ?Qz5 ?Qz6 ?Qz7 ?Qz8 ?Qz9 ?Qz10 ?Qz11 ?Qz12 ?Qz13 ?Qz14 ?Qz15 ?QgRU ?QzRU ?QgMO ?QgMT ?QgSO ?QlSO ?QtSO ?QwSO ?Qys0 ?Qys1 ?QaCS ?QgaCS ?QrdCS ?QatCS ?Qvi ?Qcg ?Qct
    (case QaCY => k_is)
    (case QxlCY => k_is)
    (case QsaCY => k_is)
    (case QgaCY => k_is)
    (case QggCY => k_is)
    (case QkcCY => k_is)
    (case QexCY => k_is)
    (case QtyCY => k_is)
    (case QhdCY => k_is)
    (case QicCY => k_is)
    (case QcoCY => k_is)
    (case QmoCY => k_is)
    (case Qn0CY => k_is)
    (case QaCN => k_is)
    (case QxlCN => k_is)
    (case QsaCN => k_is)
    (case QgaCN => k_is)
    (case QggCN => k_is)
    (case QkcCN => k_is)
    (case QexCN => k_is)
    (case QtyCN => k_is)
    (case QhdCN => k_is)
    (case QicCN => k_is)
    (case QcoCN => k_is)
    (case QmoCN => k_is)
    (case Qn0CN => k_is)
    (case Qa1 => k_is)
    (case Qi1 => k_is)
    (case Ql1 => k_is)
    (case Qc1 => k_is)
    (case Qk1 => k_is)
    (case Qa2 => k_is)
    (case Qi2 => k_is)
    (case Ql2 => k_is)
    (case Qc2 => k_is)
    (case Qk2 => k_is)
    (case Qa3 => k_is)
    (case Qi3 => k_is)
    (case Ql3 => k_is)
    (case Qc3 => k_is)
    (case Qk3 => k_is)
    (case Qa4 => k_is)
    (case Ql4 => k_is)
    (case Qc4 => k_is)
    (case Qk4 => k_is)
    (case Qa5 => k_is)
    (case Ql5 => k_is)
    (case Qc5 => k_is)
    (case Qk5 => k_is)
    (case Qa6 => k_is)
    (case Ql6 => k_is)
    (case Qc6 => k_is)
    (case Qk6 => k_is)
    (case Qa7 => k_is)
    (case Ql7 => k_is)
    (case Qc7 => k_is)
    (case Qk7 => k_is)
    (case Qa8 => k_is)
    (case Ql8 => k_is)
    (case Qc8 => k_is)
    (case Qk8 => k_is)
    (case Qa9 => k_is)
    (case Ql9 => k_is)
    (case Qc9 => k_is)
    (case Qk9 => k_is)
    (case Qa10 => k_is)
    (case Ql10 => k_is)
    (case Qc10 => k_is)
    (case Qk10 => k_is)
    (case Qa11 => k_is)
    (case Ql11 => k_is)
    (case Qc11 => k_is)
    (case Qk11 => k_is)
    (case Qa12 => k_is)
    (case Ql12 => k_is)
    (case Qc12 => k_is)
    (case Qk12 => k_is)
    (case Qa13 => k_is)
    (case Ql13 => k_is)
    (case Qc13 => k_is)
    (case Qk13 => k_is)
    (case Qa14 => k_is)
    (case Ql14 => k_is)
    (case Qc14 => k_is)
    (case Qk14 => k_is)
    (case Qa15 => k_is)
    (case Ql15 => k_is)
    (case Qc15 => k_is)
    (case Qk15 => k_is)
    (case Qa16 => k_is)
    (case Ql16 => k_is)
    (case Qc16 => k_is)
    (case Qk16 => k_is)
    (case Qa17 => k_is)
    (case Ql17 => k_is)
    (case Qc17 => k_is)
    (case Qk17 => k_is)
    (case Qa18 => k_is)
    (case Ql18 => k_is)
    (case Qc18 => k_is)
    (case Qk18 => k_is)
    (case Qa19 => k_is)
    (case Ql19 => k_is)
    (case Qc19 => k_is)
    (case Qk19 => k_is)
    (case Qa20 => k_is)
    (case Ql20 => k_is)
    (case Qc20 => k_is)
    (case Qk20 => k_is)
    (case Qa21 => k_is)
    (case Ql21 => k_is)
    (case Qc21 => k_is)
    (case Qk21 => k_is)
    (case Qa22 => k_is)
    (case Ql22 => k_is)
    (case Qc22 => k_is)
    (case Qk22 => k_is)
    (case Qa23 => k_is)
    (case Ql23 => k_is)
    (case Qc23 => k_is)
    (case Qk23 => k_is)
    (case Qa24 => k_is)
    (case Ql24 => k_is)
    (case Qc24 => k_is)
    (case Qk24 => k_is)
    (case Qa25 => k_is)
    (case Ql25 => k_is)
    (case Qc25 => k_is)
    (case Qk25 => k_is)
    (case Qa26 => k_is)
    (case Ql26 => k_is)
    (case Qc26 => k_is)
    (case Qk26 => k_is)
    (case Qa27 => k_is)
    (case Ql27 => k_is)
    (case Qc27 => k_is)
    (case Qk27 => k_is)
    (case Qa28 => k_is)
    (case Ql28 => k_is)
    (case Qc28 => k_is)
    (case Qk28 => k_is)
    (case Qa29 => k_is)
    (case Ql29 => k_is)
    (case Qc29 => k_is)
    (case Qk29 => k_is)
    (case Qa30 => k_is)
    (case Ql30 => k_is)
    (case Qc30 => k_is)
    (case Qk30 => k_is)
    (case Qa31 => k_is)
    (case Ql31 => k_is)
    (case Qc31 => k_is)
    (case Qk31 => k_is)
    (case Qa32 => k_is)
    (case Ql32 => k_is)
    (case Qc32 => k_is)
    (case Qk32 => k_is)
    (case Qlco0 => k_is)
    (case Quel0 => rfl)
    (case Qntb0 => rfl)
    (case Qhrec0 => decide +kernel)
    (case Qlco1 => k_is)
    (case Quel1 => rfl)
    (case Qntb1 => rfl)
    (case Qhrec1 => decide +kernel)
    (case Qlco2 => k_is)
    (case Quel2 => rfl)
    (case Qntb2 => rfl)
    (case Qhrec2 => decide +kernel)
    (case Qz0 => k_is)
    (case Qz1 => k_is)
    (case Qz2 => k_is)
    (case Qz3 => k_is)
    (case Qz4 => k_is)
    (case Qz5 => k_is)
    (case Qz6 => k_is)
    (case Qz7 => k_is)
    (case Qz8 => k_is)
    (case Qz9 => k_is)
    (case Qz10 => k_is)
    (case Qz11 => k_is)
    (case Qz12 => k_is)
    (case Qz13 => k_is)
    (case Qz14 => k_is)
    (case Qz15 => k_is)
    (case QgRU => k_is)
    (case QzRU => first | rfl | kernel_rfl)
    (case QgMO => k_is)
    (case QgMT => k_is)
    (case QgSO => k_is)
    (case QlSO => k_is)
    (case QtSO => exact ⟨⟨_, _, rfl, rfl⟩, ⟨_, _, rfl, rfl⟩, ⟨_, _, rfl, rfl⟩, ⟨_, _, rfl, rfl⟩, ⟨_, _, rfl, rfl⟩, trivial⟩)
    (case QwSO => first | rfl | decide | kernel_rfl)
    (case Qys0 => k_is)
    (case Qys1 => k_is)
    (case QaCS => k_is)
    (case QgaCS => k_is)
    (case QrdCS => k_is)
    (case QatCS => k_is)
    (case Qvi => k_is)
    (case Qcg => k_is)
    (case Qct => k_is)

